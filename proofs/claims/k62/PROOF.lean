import PyProof.Rows.All
import KE.KTabLook
import KE.KLam
import Wide.All
import OpenK.AllK
import Wide.FinOn
import Lean
import PyProof.EqAt
import PyProof.EqKinds
import PyProof.TupleCall
import PySem.Challenge.RW_bentwires_k62_machine
set_option compiler.extract_closed false
set_option maxHeartbeats 3900000
set_option maxRecDepth 100000
set_option Elab.async false
set_option linter.all false
open PySem.W(Frag keepIn nsIn fnOf kitOne CodeHd tabIn kqdOk Dat)
noncomputable section
abbrev bI:=@List.length_map
abbrev cq:=@List.length_append
abbrev cC:=@Nat.le_refl
abbrev cL:=@List.getD_eq_getElem?_getD
abbrev cM:=@List.getElem?_eq_getElem
abbrev cS:=@List.map_append
abbrev cY:=@Option.some.inj
abbrev da:=@List.length_take
abbrev dj:=@List.mem_cons_self
abbrev dk:=@PySem.W.mg_of
abbrev dO:=@PySem.Heap.lt_size
abbrev dP:=@List.size_toArray
abbrev dQ:=@List.append_assoc
abbrev dX:=@List.mem_singleton
abbrev eh:=@PySem.Heap.get?_push_of_some
abbrev eA:=@List.mem_map
abbrev eJ:=@List.mem_cons
abbrev eT:=@List.mem_append
abbrev eU:=@List.getElem?_map
abbrev eV:=@List.length_replicate
abbrev eW:=@List.length_cons
abbrev ff:=@List.length_drop
abbrev fo:=@Bool.and_eq_true
abbrev gc:=@List.getElem?_eq_some_iff
abbrev gi:=@Int.one_mul
abbrev gp:=@Nat.le_trans
abbrev gq:=@List.mem_cons_of_mem
abbrev gH:=@List.take_add_one
abbrev gT:=@List.mem_of_getElem?
abbrev ib:=@Nat.ne_of_lt
abbrev ic:=@Bool.false_ne_true
abbrev ij:=@List.append_nil
abbrev ip:=@List.getElem?_append_left
abbrev iJ:=@Nat.lt_of_lt_of_le
abbrev iK:=@List.getElem?_append_right
abbrev iW:=@PySem.Heap.get?_push_size
abbrev jv:=@List.mem_append_right
abbrev jw:=@List.getElem?_eq_none
abbrev jG:=@List.getElem_mem
abbrev jH:=@PySem.F.plainAttrs_list
abbrev ky:=@Int.emod_nonneg
abbrev kz:=@Int.emod_lt_of_pos
abbrev kG:=@Int.dvd_sub
abbrev kH:=@List.length_range
abbrev kI:=@List.mem_of_mem_take
abbrev kK:=@Nat.add_assoc
abbrev lV:=@List.take_length
abbrev lW:=@PySem.W.mg_none_of
abbrev mY:=@List.mem_filter
abbrev mZ:=@List.take_of_length_le
abbrev nc:=@Int.zero_add
abbrev ng:=@List.mem_of_mem_drop
abbrev nN:=@List.mem_append_left
abbrev nO:=@Nat.zero_le
abbrev nP:=@Int.mul_comm
abbrev nQ:=@PySem.PassesOwn.never
abbrev nR:=@PySem.F.slot_list_append
abbrev nS:=@PySem.F.type_list_append
abbrev oS:=@List.mem_range
abbrev oT:=@PySem.W.kia_one
abbrev oU:=@PySem.mem_of_lookup
abbrev oV:=@List.replicate_succ
abbrev oW:=@List.map_cons
abbrev oX:=@PySem.Heap.SameBut.update
abbrev pR:=@Nat.le_of_lt
abbrev pS:=@Nat.le_add_right
abbrev pT:=@Int.dvd_add
abbrev qL:=@Nat.add_comm
abbrev qM:=@List.length_nil
abbrev r6:=@List.lookup_cons
abbrev r8:=@PySem.Heap.size_push
abbrev se:=@List.all_eq_true
abbrev sg:=@PySem.AutoSeq1.wpAny_loadPart'
abbrev si:=@List.length_take_le
abbrev sj:=@List.range_succ
abbrev sk:=@Int.sub_zero
abbrev uF:=@Nat.lt_irrefl
abbrev uG:=@PySem.Heap.get?_update_self
abbrev uH:=@List.flatten_cons
abbrev uI:=@List.mem_iff_getElem
abbrev uJ:=@List.filter_append
abbrev uK:=@List.filter_nil
abbrev uL:=@List.reverse_append
abbrev wK:=@List.of_mem_zip
abbrev wL:=@List.getElem?_replicate
abbrev wM:=@List.cons_append
abbrev wN:=@Int.dvd_mul_of_dvd_right
abbrev wO:=@Nat.min_eq_left
abbrev wQ:=@List.eq_of_mem_replicate
abbrev wR:=@List.dropLast_concat_getLast
abbrev zp:=@Option.isSome_iff_exists
abbrev zq:=@PyProof.Rows.slot_tuple_getitem
abbrev zt:=@List.filter_cons_of_pos
abbrev zu:=@List.getD_cons_zero
abbrev zv:=@List.getD_cons_succ
abbrev Dq:=@PyProof.Rows.callWith_type1
abbrev Dr:=@PySem.W.cellsFrom_some
abbrev Ds:=@List.filter_cons_of_neg
abbrev Dt:=@PySem.F.slot_list_pop
abbrev Du:=@PySem.F.type_list_pop
abbrev Dv:=@List.length_filter_le
abbrev IP:=@PySem.F.slot_tuple_iterator_next
abbrev IQ:=@Int.mul_le_mul_of_nonneg_left
abbrev aa:=@decide_eq_false
abbrev ae:=@if_pos
abbrev ah:=@if_neg
abbrev ai:=@PySem.wpAny_mono
abbrev aj:=@PySem.wpAny_truthy_bool
abbrev ao:=@congrArg
abbrev aq:=@PySem.wpAny_execs_nil
abbrev au:=@PySem.wpAny_bind
abbrev av:=@PySem.wpAny_holding
abbrev ax:=@PySem.wpAny_passesOwn
abbrev ay:=@PySem.wpAny_pure
abbrev az:=@PySem.wpAny_Call_Name_kw
abbrev aA:=@PySem.wpAny_newFunctionEnv_cells
abbrev aC:=@PySem.wpAny_callSpecial?_slot
abbrev aD:=@PySem.wpAny_call_entry
abbrev aE:=@PySem.wpAny_newObj_type
abbrev aF:=@PySem.call_meets
abbrev aG:=@decide_eq_true
abbrev aH:=@PySem.wpAny_ite_false
abbrev aI:=@decide_eq_true_eq
abbrev aJ:=@of_decide_eq_true
abbrev Kp(K:Frag)(f:PySem.Addr):Prop:=keepIn K (.ref f)=true
abbrev Mg(m:PySem.Str→Option PySem.Value)(x:PySem.Str)(f:PySem.Addr):Prop:=m x=some (.ref f)
abbrev QV:=PySem.Value→PySem.Shared→Prop
abbrev LL:=List (List Int)
variable{P:PySem.Program}{w:PySem.World}{K:Frag}{mg:PySem.Str→Option PySem.Value}{base:PySem.Heap}
namespace L2
open PySem PySem.Spec PyProof.Rows
variable{A:Around}{E:QV}{H:Hp}{M:Model}{Q:Unit→Shared→Prop}{X:Cx}{a b:Addr}{body:List Stmt}{c e tg:Expr}{ch fp:List Addr}{f:Value→Value→Sem Value}{g:TG}{h:Heap}{i t':Nat}{o:Obj}{op:CmpOp}{aK:List (Addr×Obj)}{s:Shared}{tb:TS}{u:Value}{us:List Value}{v:V}{x:Str}{σ:St}
abbrev Key:=Sum Int Str
noncomputable def uM:Key→Value→Bool
 | .inl k,v=>Value.isInt k v
 | .inr x,v=>Value.isStrOf x v
noncomputable def QX(w:World):Key→Int
 | .inl k=>hashInt k
 | .inr x=>hashStr w x
theorem pU:∀{k:Key}{v:Value},uM k v=true→(∃i t,k=Sum.inl i∧v=Value.int i t)∨(∃x t,k=Sum.inr x∧v=Value.str x t)
 | .inl i,v,h=>by
  obtain⟨t,e⟩:=Value.isInt_shape (k:=i) (v:=v) h;exact .inl ⟨i,t,rfl,e⟩
 | .inr x,v,h=>by
  obtain⟨t,e⟩:=Value.isStrOf_shape (x:=x) (v:=v) h;exact .inr ⟨x,t,rfl,e⟩
theorem QY(i:Int)(t:Tok):uM (.inl i) (.int i t)=true:=by simp[uM,Value.isInt]
theorem QZ(x:Str)(t:Tok):uM (.inr x) (.str x t)=true:=by simp[uM,Value.isStrOf]
theorem Q0(a b:Int):decide ((Sum.inl a:Key)=Sum.inl b)=(a==b):=by
 by_cases e:a=b
 ·subst e;simp
 ·have h:¬(Sum.inl a:Key)=Sum.inl b:=λq=>e (Sum.inl.inj q);rw[aa h];exact(beq_eq_false_iff_ne.mpr e).symm
theorem Q3(a b:Str):decide ((Sum.inr a:Key)=Sum.inr b)=decide (a=b):=by
 by_cases e:a=b
 ·subst e;simp
 ·have h:¬(Sum.inr a:Key)=Sum.inr b:=λq=>e (Sum.inr.inj q);rw[aa h,aa e]
theorem Q4(a:Int)(b:Str):decide ((Sum.inl a:Key)=Sum.inr b)=false:=aa (λq=>nomatch q)
theorem Q5(a:Str)(b:Int):decide ((Sum.inr a:Key)=Sum.inl b)=false:=aa (λq=>nomatch q)
noncomputable def kQ(prog:Program)(w:World):PySem.KeyKind prog w Key where
 is:=uM
 hash:=QX w
 inj:=λv a b ha hb=>by
  rcases pU ha with⟨i,t,rfl,rfl⟩|⟨x,t,rfl,rfl⟩
  ·rcases pU hb with⟨j,u,rfl,e⟩|⟨y,u,rfl,e⟩
   ·injection e with e1 _;rw[e1]
   ·exact nomatch e
  ·rcases pU hb with⟨j,u,rfl,e⟩|⟨y,u,rfl,e⟩
   ·exact nomatch e
   ·injection e with e1 _;rw[e1]
 byValue:=λk v h=>by
  rcases pU h with⟨i,t,rfl,rfl⟩|⟨x,t,rfl,rfl⟩<;>rfl
 pyHash:=λhv h=>by
  rcases pU hv with⟨i,t,rfl,rfl⟩|⟨x,t,rfl,rfl⟩
  ·exact wpAny_pyHash_int h
  ·exact wpAny_pyHash_str h
 eqBool:=λhu hv h=>by
  rcases pU hu with⟨i,t,rfl,rfl⟩|⟨x,t,rfl,rfl⟩
  ·rcases pU hv with⟨j,u,rfl,rfl⟩|⟨y,u,rfl,rfl⟩
   ·rw[Q0]at h;exact wpAny_eqBool_int h
   ·rw[Q4]at h;exact SeqAt.EqAt.int_str i t y u _ _ _ _ h
  ·rcases pU hv with⟨j,u,rfl,rfl⟩|⟨y,u,rfl,rfl⟩
   ·rw[Q5]at h;exact SeqAt.EqAt.str_int x t j u _ _ _ _ h
   ·rw[Q3]at h;exact wpAny_eqBool_str h
 «strs»:=λk x t v h=>by
  rcases pU h with⟨i,u,rfl,e⟩|⟨y,u,rfl,e⟩
  ·exact nomatch e
  ·injection e with e1 _;subst e1;cases v<;>rfl
theorem Q6(prog:Program)(w:World)(i:Int)(t:Tok):(kQ prog w).is (.inl i) (.int i t)=true:=QY i t
theorem Q7(prog:Program)(w:World)(x:Str)(t:Tok):(kQ prog w).is (.inr x) (.str x t)=true:=QZ x t
inductive V where
 |cE|bl (b:Bool)|int (i:Int)|str (x:Str)|lX (b:Array UInt8)|uN (b:UInt64)|ref (a:Addr)|ty (n:String)
 deriving DecidableEq
def RelV:V→Value→Prop
 | .cE,u=>u=Value.none
 | .bl b,u=>u=Value.bool b
 | .int i,u=>∃t,u=Value.int i t
 | .str x,u=>∃t,u=Value.str x t
 | .lX b,u=>∃t,u=Value.bytes b t
 | .uN b,u=>∃t,u=Value.float b t
 | .ref a,u=>u=Value.ref a
 | .ty n,u=>u=Value.type n
abbrev Vals:List V→List Value→Prop:=Paired RelV
theorem Vals.length{xs:List V}{us:List Value}(r:Vals xs us):xs.length=us.length:=Paired.length r
theorem Vals.get:∀{xs:List V}{us:List Value}{i:Nat}{x:V},Vals xs us→xs[i]?=some x→∃u,us[i]?=some u∧RelV x u
 |_,_,_,_,.nil,e=>by simp at e
 |_,_,0,_,.cons r _,e=>by simp at e;subst e;exact⟨_,rfl,r⟩
 |_,_,i+1,x,.cons _ t,e=>by
  obtain⟨u,h1,h2⟩:=Vals.get (i:=i) (x:=x) t (by simpa using e);exact⟨u,by simpa using h1,h2⟩
theorem Vals.set{x:V}{u:Value}(r:RelV x u):∀{xs:List V}{us:List Value}(i:Nat),Vals xs us→Vals (xs.set i x) (us.set i u)
 |_,_,_,.nil=>.nil
 |_,_,0,.cons _ t=>.cons r t
 |_,_,i+1,.cons q t=>.cons q (Vals.set r i t)
theorem Vals.append:∀{xs ys:List V}{us ws:List Value},Vals xs us→Vals ys ws→Vals (xs++ys) (us++ws)
 |_,_,_,_,.nil,s=>s
 |_,_,_,_,.cons r t,s=>.cons r (Vals.append t s)
theorem Vals.take:∀{xs:List V}{us:List Value}(n:Nat),Vals xs us→Vals (xs.take n) (us.take n)
 |_,_,0,_=>.nil
 |_,_,_+1,.nil=>.nil
 |_,_,n+1,.cons r t=>.cons r (Vals.take n t)
theorem Vals.drop:∀{xs:List V}{us:List Value}(n:Nat),Vals xs us→Vals (xs.drop n) (us.drop n)
 |_,_,0,r=>r
 |_,_,_+1,.nil=>.nil
 |_,_,n+1,.cons _ t=>Vals.drop n t
def nT:Option V→Option Value→Prop
 |some v,some u=>RelV v u
 |none,none=>True
 |_,_=>False
def KV{κ:Type}:List (κ×V)→List (κ×Value)→Prop:=Paired λ(p:κ×V)(q:κ×Value)=>p.1=q.1∧RelV p.2 q.2
noncomputable def kV:Key→V
 | .inl i=>.int i
 | .inr x=>.str x
inductive HO where
 |lst (xs:List V)
 |tup (xs:List V)
 |dK (aZ:List (Key×V))|dT (aZ:List (List Key×V))
 |set (S:Int→Bool) (n:Nat)
 |ins (C dx:Addr) (fs:List (Str×V))
 |own (x:Addr)
 |xd (fs:List (Str×V))
 |met (f x:Addr)
 |zw (lo hi:Int)
 |jg (o:Obj) (u:HO)
 |fg (ps:Array Value)
 |ext (φ:Heap→Prop)
abbrev Hp:=Addr→Option HO
noncomputable def upd(H:Hp)(a:Addr)(o:HO):Hp:=λb=>if b=a then some o else H b
theorem aY{o:HO}:upd H a o a=some o:=by unfold upd;rw[ae rfl]
theorem cF{o:HO}(h:b≠a):upd H a o b=H b:=by unfold upd;rw[ah h]
theorem Q8{o u:HO}(h:H a=some o)(h':H b=some u)(d:o≠u):a≠b:=by
 intro e;subst e;rw[h]at h';exact d (cY h')
theorem eO{o:HO}(h:H a=some o)(h':H b=none):a≠b:=by
 intro e;subst e;rw[h]at h';cases h'
def oY(h:Heap)(a:Addr)(items:Array Value):Prop:=∃o,h.get? a=some o∧o.cls=.type "tuple"∧o.dict=none∧∃n,o.data=.seq items n
theorem oY.tup{items:Array Value}(x:oY h a items):IsTup h a items:=let ⟨o,e,c,_,n,d⟩:=x;⟨o,e,c,n,d⟩
theorem oY.new(h:Heap)(items:Array Value):oY (h.push { cls:=.type "tuple",data:=.seq items }) h.objs.size items:=⟨_,iW _ rfl,rfl,rfl,_,rfl⟩
section
variable(P:Program)(w:World)
def eB(H:Hp)(h:Heap)(a:Addr):HO→Prop
 | .lst xs=>xs.length≤sizeLine∧∃(its:List Value)(n:Nat),Vals xs its∧h.get? a=some { cls:=.type "list",data:=.seq its.toArray n }
 | .tup xs=>xs.length≤sizeLine∧∃its:List Value,Vals xs its∧oY h a its.toArray
 | .dK aZ=>aZ.length≤sizeLine∧(a==sysModules)=false∧∃vs,KV aZ vs∧h.DictOf (kQ P w) a vs
 | .dT aZ=>aZ.length≤sizeLine∧(a==sysModules)=false∧∃xs:List (List Key×Addr×Value),
   Paired (λ(p:List Key×V)(q:List Key×Addr×Value)=>p.1=q.1∧H q.2.1=some (.tup (p.1.map kV))∧RelV p.2 q.2.2) aZ xs∧
   ∃o es ep,h.get? a=some o∧o.ExactDict∧o.data=.dict es ep∧es.toList=xs.map (entryOfKey (tupleKind (kQ P w)))∧(xs.map (·.1)).Nodup
 | .set S n=>h.SetOf (intKind P w) a S n
 | .ins C dx fs=>H dx=some (.own a)∧fs.length≤1000∧dx≠a∧h.get? a=some (PySem.W.instObj C dx)∧
   ∃mA,h.Ns1 dx mA∧(∀f,nT (fs.lookup f) (mA f))∧PySem.Within mA (fs.map (·.1))
 | .own _=>∃o,h.get? a=some o
 | .xd fs=>∃mA,h.Ns1 a mA∧∀f,nT (fs.lookup f) (mA f)
 | .zw lo hi=>∃t u v,h.get? a=some { cls:=.type "range",data:=.fields #[.int lo t,.int hi u,.int 1 v] }
 | .jg o u=>h.get? a=some o∧eB H h a u
 | .fg ps=>h.get? a=some { cls:=.none,data:=.fields ps }
 | .met f x=>h.get? a=some (PySem.W.methodObj (.ref f) (.ref x))
 | .ext φ=>φ h∧(∃o,h.get? a=some o)∧∀h1 h2:Heap,φ h1→(∀o,h1.get? a=some o→h2.get? a=some o)→φ h2
def dy(H:Hp)(h:Heap):Prop:=∀a o,H a=some o→eB P w H h a o
end
section
variable{P:Program}{w:World}{H H':Hp}{h h':Heap}{a:Addr}{o:HO}
theorem eB.lt(x:eB P w H h a o):a<h.objs.size:=by
 cases o with
 |lst xs=>obtain⟨_,_,_,_,e⟩:=x;exact dO e
 |tup xs=>obtain⟨_,_,_,p⟩:=x;exact p.tup.lt
 |dK aZ=>obtain⟨_,_,_,_,o,_,_,e,_⟩:=x;exact dO e
 |dT aZ=>obtain⟨_,_,_,_,o,_,_,e,_⟩:=x;exact dO e
 |set S n=>obtain⟨o,_,_,_,e,_⟩:=x;exact dO e
 |ins C dx fs=>obtain⟨_,_,_,e,_⟩:=x;exact dO e
 |own y=>obtain⟨_,e⟩:=x;exact dO e
 |xd fs=>obtain⟨_,⟨_,_,_,e,_⟩,_⟩:=x;exact dO e
 |zw lo hi=>obtain⟨_,_,_,e⟩:=x;exact dO e
 |jg ob u=>obtain⟨e,_⟩:=x;exact dO e
 |fg ps=>exact dO (show h.get? a=some _ from x)
 |met f y=>exact dO (show h.get? a=some _ from x)
 |ext φ=>obtain⟨_,⟨_,e⟩,_⟩:=x;exact dO e
theorem Paired.Dw{α β:Type}{F G:α→β→Prop}:∀{l₁:List α}{l₂:List β},Paired F l₁ l₂→(∀a b,F a b→G a b)→Paired G l₁ l₂
 |_,_,.nil,_=>.nil
 |_,_,.cons r t,f=>.cons (f _ _ r) (Paired.Dw t f)
theorem eB.nh(x:eB P w H h a o)(k:∀b u,(b=a∨H b=some (.own a))→h.get? b=some u→h'.get? b=some u)
  (ho:∀b,H b=some (.own a)→H' b=some (.own a)) (ht:∀b xs,H b=some (.tup xs)→H' b=some (.tup xs)):eB P w H' h' a o:=by
 induction o with
 |lst xs=>obtain⟨z,its,n,r,e⟩:=x;exact⟨z,its,n,r,k _ _ (.inl rfl) e⟩
 |tup xs=>obtain⟨z,its,r,ob,e,c⟩:=x;exact⟨z,its,r,ob,k _ _ (.inl rfl) e,c⟩
 |dK aZ=>obtain⟨z,y,vs,r,ob,es,ep,e,c⟩:=x;exact⟨z,y,vs,r,ob,es,ep,k _ _ (.inl rfl) e,c⟩
 |dT aZ=>
  obtain⟨z,y,xs,r,ob,es,ep,e,c⟩:=x;exact⟨z,y,xs,Paired.Dw r λp q z=>⟨z.1,ht _ _ z.2.1,z.2.2⟩,ob,es,ep,k _ _ (.inl rfl) e,c⟩
 |set S n=>obtain⟨ob,es,ep,t,e,c⟩:=x;exact⟨ob,es,ep,t,k _ _ (.inl rfl) e,c⟩
 |ins C dx fs=>
  obtain⟨d,z,ne,e,mA,⟨od,es,ep,e2,c⟩,r⟩:=x;exact⟨ho _ d,z,ne,k _ _ (.inl rfl) e,mA,⟨od,es,ep,k _ _ (.inr d) e2,c⟩,r⟩
 |own y=>obtain⟨ob,e⟩:=x;exact⟨ob,k _ _ (.inl rfl) e⟩
 |xd fs=>obtain⟨mA,⟨od,es,ep,e,c⟩,r⟩:=x;exact⟨mA,⟨od,es,ep,k _ _ (.inl rfl) e,c⟩,r⟩
 |zw lo hi=>obtain⟨t,u,v,e⟩:=x;exact⟨t,u,v,k _ _ (.inl rfl) e⟩
 |jg ob u ih=>obtain⟨e,q⟩:=x;exact⟨k _ _ (.inl rfl) e,ih q⟩
 |fg ps=>
  have e:h.get? a=some { cls:=.none,data:=.fields ps }:=x;show h'.get? a=some { cls:=.none,data:=.fields ps };exact k a _ (.inl rfl) e
 |met f y=>
  have e:h.get? a=some (PySem.W.methodObj (.ref f) (.ref y)):=x;show h'.get? a=some (PySem.W.methodObj (.ref f) (.ref y));exact k a _ (.inl rfl) e
 |ext φ=>obtain⟨p,⟨o,e⟩,st⟩:=x;exact⟨st _ _ p λo q=>k _ _ (.inl rfl) q,⟨o,k _ _ (.inl rfl) e⟩,st⟩
theorem dy.lt(x:dy P w H h)(e:H a=some o):a<h.objs.size:=(x a o e).lt
theorem dy.fresh(x:dy P w H h)(e:h.objs.size≤a):H a=none:=by
 cases q:H a with
 |none=>rfl
 |some u=>exact absurd (iJ (x.lt q) e) (uF _)
theorem dy.kept(x:dy P w H h)(k:∀b u,h.get? b=some u→h'.get? b=some u):dy P w H h':=λa o e=>
 (x a o e).nh (λb u _ q=>k b u q) (λ_ q=>q) λ_ _ q=>q
theorem dy.laid(x:dy P w H h)(k:∀b u,h.get? b=some u→h'.get? b=some u)(hp:h.objs.size≤a)(new:eB P w (upd H a o) h' a o):dy P w (upd H a o) h':=λb u e=>by
 have hn:=x.fresh hp;by_cases hb:b=a
 ·subst hb;rw[aY]at e;cases e;exact new
 ·rw[cF hb]at e;exact(x b u e).nh (λc v _ q=>k c v q) (λc q=>by rw[cF (eO q hn)];exact q) λc xs q=>by rw[cF (eO q hn)];exact q
end
def Rd(H:Hp)(a:Addr)(u:HO):Prop:=H a=some u∨∃o,H a=some (.jg o u)
theorem Rd.ok{P:Program}{w:World}{u:HO}(r:Rd H a u)(x:dy P w H h):eB P w H h a u:=by
 rcases r with r|⟨o,r⟩
 ·exact x a u r
 ·obtain⟨_,q⟩:=x a _ r;exact q
def wU:Option HO→Prop
 |some (.lst _)=>True
 |some (.dK _)=>True
 |some (.dT _)=>True
 |some (.set _ _)=>True
 |some (.ins _ _ _)=>True
 |some (.ext _)=>True
 |_=>False
section
variable{P:Program}{w:World}{H:Hp}{h h':Heap}{x e:Addr}{o':HO}
theorem dy.write(ok:dy P w H h)(mu:wU (H x))(he:e=x∨H e=some (.own x))(k:∀b u,b≠e→h.get? b=some u→h'.get? b=some u)(uO:∃u,h'.get? e=some u)
  (new:eB P w (upd H x o') h' x o'):dy P w (upd H x o') h':=λb u q=>by
 have IS:∀c y,H c=some (.own y)→c≠x:=λc y r z=>by subst z;rw[r]at mu;exact mu
 have Q9:∀c xs,H c=some (.tup xs)→c≠x:=λc xs r z=>by subst z;rw[r]at mu;exact mu
 by_cases hb:b=x
 ·subst hb;rw[aY]at q;cases q;exact new
 ·rw[cF hb]at q;by_cases so:b=e
  ·have q':H b=some (.own x):=by
    rcases he with z|z
    ·exact absurd (so.trans z) hb
    ·rw[so];exact z
   rw[q]at q';cases q';obtain⟨v,hv⟩:=uO;exact⟨v,by rw[so];exact hv⟩
  ·refine(ok b u q).nh (λc v hc r=>k c v ?_ r) (λc r=>by rw[cF (IS c b r)];exact r) λc xs r=>by rw[cF (Q9 c xs r)];exact r
   rcases hc with rfl|hc
   ·exact so
   ·rintro rfl;rcases he with z|z
    ·exact IS c b hc z
    ·rw[hc]at z;cases z;exact hb rfl
end
structure Un(fs ex:List Addr)(H H':Hp)(h h':Heap):Prop where
 keep:∀b o,h.get? b=some o→H b=none→b ∉ fs→b ∉ ex→h'.get? b=some o
 slot:∀b o,h.get? b=some o→H b=none→b∈fs→b ∉ ex→∃sl,h'.get? b=some { o with slots:=sl }
 free:∀b o,h.get? b=some o→H b=none→b ∉ ex→H' b=none
 there:∀b o,h.get? b=some o→b ∉ ex→∃o',h'.get? b=some o'
 j5:∀b xs,H b=some (.tup xs)→H' b=some (.tup xs)
 jI:∀b o u,H b=some (.jg o u)→H' b=some (.jg o u)
 j6:∀b ps,H b=some (.fg ps)→∃more,H' b=some (.fg (ps++more))
section
variable{fs Dx ex ex':List Addr}{H H1 H2:Hp}{h h1 h2 h':Heap}{a x e:Addr}{o:HO}
theorem Un.any(u:Un fs ex H H1 h h1){ob:Obj}(q:h.get? b=some ob)(n:H b=none)(hx:b ∉ ex):∃sl,h1.get? b=some { ob with slots:=sl }:=by
 by_cases hb:b∈fs
 ·exact u.slot b ob q n hb hx
 ·exact⟨ob.slots,u.keep b ob q n hb hx⟩
theorem Un.kept(k:∀b u,h.get? b=some u→h'.get? b=some u):Un fs ex H H h h':=
 ⟨λb ob q _ _ _=>k b ob q,λb ob q _ _ _=>⟨ob.slots,k b ob q⟩,λ_ _ _ n _=>n,λb ob q _=>⟨ob,k b ob q⟩,λ_ _ q=>q,λ_ _ _ q=>q,λ_ ps q=>⟨#[],by rw[q];simp⟩⟩
theorem Un.refl:Un fs ex H H h h:=Un.kept λ_ _ q=>q
theorem Un.laid(k:∀b u,h.get? b=some u→h'.get? b=some u)(hp:h.objs.size≤a)(hn:H a=none):Un fs ex H (upd H a o) h h' where
 keep:=λb u q _ _ _=>k b u q
 slot:=λb u q _ _ _=>⟨u.slots,k b u q⟩
 free:=λb u q n _=>by rw[cF (ib (iJ (dO q) hp))];exact n
 there:=λb u q _=>⟨u,k b u q⟩
 j5:=λb xs q=>by rw[cF (eO q hn)];exact q
 jI:=λb u xs q=>by rw[cF (eO q hn)];exact q
 j6:=λb ps q=>⟨#[],by rw[cF (eO q hn),q];simp⟩
theorem Un.write(mu:wU (H x))(he:e=x∨H e=some (.own x))(k:∀b u,b≠e→h.get? b=some u→h'.get? b=some u)(uO:∃u,h'.get? e=some u):Un fs ex H (upd H x o) h h':=by
 have hx:∀b,H b=none→b≠x:=λb n z=>by subst z;rw[n]at mu;exact mu
 have hb:∀b,H b=none→b≠e:=λb n z=>by
  subst z;rcases he with r|r
  ·exact hx b n r
  ·rw[n]at r;cases r
 have hm:∀b u,H b=some u→¬wU (some u)→b≠x:=λb u q nm z=>by subst z;rw[q]at mu;exact nm mu
 refine⟨λb u q n _ _=>k b u (hb b n) q,λb u q n _ _=>⟨u.slots,k b u (hb b n) q⟩,λb u q n _=>by rw[cF (hx b n)];exact n,λb u q _=>?_,
  λb xs q=>by rw[cF (hm b _ q λz=>z)];exact q,λb u xs q=>by rw[cF (hm b _ q λz=>z)];exact q,λb ps q=>⟨#[],by rw[cF (hm b _ q λz=>z),q];simp⟩⟩
 by_cases so:b=e
 ·subst so;exact uO
 ·exact⟨u,k b u so q⟩
end
noncomputable def zy(h:Heap)(H:Hp):List Addr:=(List.range h.objs.size).filter λa=>(H a).isSome
noncomputable def nU(h:Heap)(H:Hp):Heap:=PySem.W.hideAll h (zy h H)
theorem Ra(h:Heap)(H:Hp):(nU h H).objs.size=h.objs.size:=PySem.W.hideAll_size _ _
theorem Rb(e:h.get? b=some o)(n:H b=none):(nU h H).get? b=some o:=
 PySem.W.hideAll_get _ e λhm=>by
  have q:(H b).isSome=true:=(mY.mp hm).2;rw[n]at q;simp at q
theorem Rc(e:(nU h H).get? b=some o):h.get? b=some o∧H b=none:=by
 have e':h.get? b=some o:=PySem.W.of_hideAll (zy h H) e;refine⟨e',?_⟩;cases q:H b with
 |none=>rfl
 |some x=>
  have hm:b∈zy h H:=mY.mpr ⟨oS.mpr (dO e'),by simp[q]⟩;have z:(nU h H).get? b=none:=PySem.W.hideAll_none (zy h H) hm;rw[z]at e;cases e
noncomputable def Rf(g h:Heap)(L:Addr):List (Addr×Obj):=(List.range h.objs.size).filterMap λa=>if a=L∨(g.get? a).isSome=true then none else(h.get? a).map λo=>(a,o)
noncomputable def dE(g h:Heap)(L d:Addr):List (Addr×Obj):=(Rf g h L).filter λp=>decide (p.1≠d)
structure Mod(K:Frag)(mg:Str→Option Value)(base:Heap):Prop where
 pV:K.In base
 glob:base.Ns mainGlobals mg
 blt:∃mb,base.Ns builtinsNs mb∧∀x:Str,x ≠ "__name__"→mb x=bootBuiltins x
 nolimit:base.NoLimit
structure Cx where
 prog:Program
 w:World
 K:Frag
 mg:Str→Option Value
 base:Heap
 A:Around
 N:List Str
 s₀:Shared
 H₀:Hp
 env:Env
 outer:List Env
 stack:List Env
 ex:List Addr
 fn:Str→Bool
 calm:Bool
 pn:List (Addr×Obj)
 xe:QV
noncomputable def fq(l:List Env):List Addr:=l.filterMap (·.frame)
noncomputable abbrev Cx.fs(X:Cx):List Addr:=fq X.outer
def uP(sc:Scope)(x:Str):Prop:=sc.names.lookup x=some .local∨sc.names.lookup x=some .cell∨sc.names.lookup x=some .free
def Loc(sc:Scope)(x:Str):Prop:=sc.names.lookup x=some .local∨sc.names.lookup x=some .cell
def Look(env:Env)(h:Heap)(m:Str→Option Value)(x:Str)(u:Value):Prop:=
 (env.kindOf x=some .local∧m x=some u)∨((env.kindOf x=some .cell∨env.kindOf x=some .free)∧∃c,env.cells.lookup x=some c∧h.IsCell c (some u))
structure Cx.Ok(X:Cx):Prop where
 mod:Mod X.K X.mg X.base
 kind:X.env.scope.kind=.function
 glob:X.env.globals=mainGlobals
 blt:X.env.builtins=builtinsNs
 above:X.s₀.heap.objs.size≤X.env.locals
 inj:∀x y c,X.env.cells.lookup x=some c→X.env.cells.lookup y=some c→x=y
 has:∀x,(X.env.kindOf x=some .cell∨X.env.kindOf x=some .free)→∃c,X.env.cells.lookup x=some c
 wV:∀x c,X.fn x=true→X.env.cells.lookup x=some c→X.s₀.heap.objs.size≤c
 hd:X.calm=true→X.A.handled=none
 frames:X.A.frames=some X.stack
 qN:X.stack=X.outer∨(X.stack=X.env::X.outer∧X.env.frame=some X.env.locals)
 wW:∀b∈X.ex,b≠X.env.locals∧∀x c,X.env.cells.lookup x=some c→c≠b
 bs:∀b o,X.base.get? b=some o→X.s₀.heap.get? b=some o∧X.H₀ b=none
 pW:X.base.objs.size≤X.s₀.heap.objs.size
 wX:∀b o,X.base.get? b=some o→b ∉ X.ex
 uQ:∀b∈X.ex,b ∉ X.fs
 lY:X.s₀.heap.FunFrames X.base X.outer
 qO:∀b∈X.fs,X.H₀ b=none
structure Inv(X:Cx)(aK:List (Addr×Obj))(σ:List (Option V))(H:Hp)(s:Shared):Prop where
 ok:X.Ok
 os:s.os=X.s₀.os
 bare:AllBare s.gens
 base:Un X.fs X.ex X.H₀ H X.s₀.heap s.heap
 loc:∃m,s.heap.Ns X.env.locals m∧∀(i:Nat)(x:Str)(v:V),X.N[i]?=some x→σ[i]?=some (some v)→uP X.env.scope x→∃u,RelV v u∧Look X.env s.heap m x u
 cell:∀x c,X.env.cells.lookup x=some c→∃v,s.heap.IsCell c v
 free:H X.env.locals=none
 ni:∀x c,X.env.cells.lookup x=some c→H c=none
 pin:∀p∈X.pn++aK,s.heap.get? p.1=some p.2∧H p.1=none∧p.1≠X.env.locals∧p.1 ∉ X.fs∧∀v,p.2.data≠.cell v
 bQ:dy X.prog X.w H s.heap
 len:σ.length=X.N.length
section
variable{X:Cx}{aK:List (Addr×Obj)}{σ:List (Option V)}{H H':Hp}{s:Shared}{h':Heap}
theorem Cx.Ok.Rg(ok:X.Ok)(e:X.base.get? b=some o):b ∉ X.fs:=λhb=>by
 have:=(ok.lY.mem hb).1
 rw[e]at this;cases this
theorem Inv.bs(I:Inv X aK σ H s):∀b o,X.base.get? b=some o→s.heap.get? b=some o∧H b=none:=λb o e=>
 ⟨I.base.keep b o (I.ok.bs b o e).1 (I.ok.bs b o e).2 (I.ok.Rg e) (I.ok.wX b o e),I.base.free b o (I.ok.bs b o e).1 (I.ok.bs b o e).2 (I.ok.wX b o e)⟩
theorem Inv.bk(I:Inv X aK σ H s):∀b o,X.base.get? b=some o→s.heap.get? b=some o:=λb o e=>(I.bs b o e).1
theorem Inv.mod(I:Inv X aK σ H s):Mod X.K X.mg X.base:=I.ok.mod
theorem Inv.fh(I:Inv X aK σ H s):X.K.In s.heap:=I.ok.mod.pV.keeps I.bk
theorem Inv.lt(I:Inv X aK σ H s):X.env.locals<s.heap.objs.size:=let ⟨_,hn,_⟩:=I.loc;hn.lt
theorem Inv.sz(I:Inv X aK σ H s):X.s₀.heap.objs.size≤s.heap.objs.size:=gp I.ok.above (pR I.lt)
theorem Inv.Rh(I:Inv X aK σ H s)(h:s.heap.objs.size≤a):a ∉ X.fs:=λhb=>by
 obtain⟨_,o,ho,_⟩:=I.ok.lY.mem hb;exact absurd (iJ (dO ho) (gp I.sz h)) (uF _)
theorem Inv.pX(I:Inv X aK σ H s):∀x c,X.env.cells.lookup x=some c→c≠X.env.locals:=λx c e z=>by
 obtain⟨v,o,ho,hd⟩:=I.cell x c e;obtain⟨m,⟨o',es,ep,sx,Dy,_⟩,_⟩:=I.loc;rw[z,sx]at ho;cases ho;rw[Dy]at hd;cases hd
theorem Inv.lY(I:Inv X aK σ H s):s.heap.FunFrames X.base X.outer:=by
 have all:∀(l:List Env),(∀b∈fq l,b∈X.fs)→X.s₀.heap.FunFrames X.base l→s.heap.FunFrames X.base l:=by
  intro l;induction l with
  |nil=>intro _ _;trivial
  |cons env r ih=>
   intro hs hl;obtain⟨hk,⟨L,o,hf,hn,ho,hd⟩,hr⟩:=hl;have hL:L∈X.fs:=hs L (by unfold fq;rw[List.filterMap_cons,hf];exact dj);obtain⟨sl,e⟩:=I.base.slot L o ho (I.ok.qO L hL) hL λz=>I.ok.uQ L z hL;exact⟨hk,⟨L,_,hf,hn,e,hd⟩,ih (λb hb=>hs b (by unfold fq;rw[List.filterMap_cons,hf];exact gq _ hb)) hr⟩
 exact all X.outer (λ_ hb=>hb) I.ok.lY
theorem Inv.stack(I:Inv X aK σ H s):s.heap.FunFrames X.base X.stack:=by
 rcases I.ok.qN with e|⟨e,hf⟩
 ·rw[e];exact I.lY
 ·rw[e];obtain⟨m,hn,_⟩:=I.loc;refine .cons (by rw[I.ok.kind];decide) hf hn ?_ I.lY;exact Heap.get?_none_of_le (gp I.ok.pW I.ok.above)
theorem Inv.Dz(I:Inv X aK σ H s):∀b∈fq X.stack,b∈X.env.locals::X.fs:=λb hb=>by
 rcases I.ok.qN with e|⟨e,hf⟩
 ·rw[e]at hb;exact gq _ hb
 ·rw[e]at hb;unfold fq at hb;rw[List.filterMap_cons,hf]at hb;exact hb
theorem Inv.zA(I:Inv X aK σ H s):∀b∈fq X.stack,H b=none:=λb hb=>by
 rcases eJ.mp (I.Dz b hb)with e|hb
 ·rw[e];exact I.free
 ·obtain⟨_,o,ho,_⟩:=I.ok.lY.mem hb;exact I.base.free b o ho (I.ok.qO b hb) λz=>I.ok.uQ b z hb
theorem Inv.step{g':Array GenState}{d':Drawn}(I:Inv X aK σ H s)
  (oZ:∀b∈ch,(b∈X.ex∨X.s₀.heap.objs.size≤b)∧b≠X.env.locals∧(∀x c,X.env.cells.lookup x=some c→c≠b)∧∀p∈X.pn++aK,p.1≠b)
  (keep:∀b o,b≠X.env.locals→b ∉ X.fs→b ∉ ch→s.heap.get? b=some o→H b=none→h'.get? b=some o)
  (slot:∀b o,b≠X.env.locals→b∈X.fs→b ∉ ch→s.heap.get? b=some o→H b=none→∃sl,h'.get? b=some { o with slots:=sl }) (free:∀b o,b ∉ ch→s.heap.get? b=some o→H b=none→H' b=none)
  (there:∀b o,b ∉ ch→s.heap.get? b=some o→∃o',h'.get? b=some o')
  (j5:∀b xs,H b=some (.tup xs)→H' b=some (.tup xs)) (jI:∀b o u,H b=some (.jg o u)→H' b=some (.jg o u)) (j6:∀b ps,H b=some (.fg ps)→∃more,H' b=some (.fg (ps++more)))
  (ns:∀m,s.heap.Ns X.env.locals m→h'.Ns X.env.locals m) (bQ:dy X.prog X.w H' h') (hg:AllBare g') :
  Inv X aK σ H' { s with heap:=h',gens:=g',drawn:=d',toks:=t' }:=by
 have qP:∀b o,X.s₀.heap.get? b=some o→b≠X.env.locals:=λb o e=>ib (iJ (dO e) I.ok.above);have zB:∀b o,X.s₀.heap.get? b=some o→b ∉ X.ex→b ∉ ch:=λb o e hx hb=>by
  rcases(oZ b hb).1 with z|z
  ·exact hx z
  ·exact absurd (iJ (dO e) z) (uF _)
 have IT:∀x c,X.env.cells.lookup x=some c→∀v,s.heap.IsCell c v→h'.IsCell c v:=λx c e v ⟨o,ho,hd⟩=>by
  have wY:c ∉ ch:=λz=>(oZ c z).2.2.1 x c e rfl;by_cases hc:c∈X.fs
  ·obtain⟨sl,q⟩:=slot c o (I.pX x c e) hc wY ho (I.ni x c e);exact⟨_,q,hd⟩
  ·exact⟨o,keep c o (I.pX x c e) hc wY ho (I.ni x c e),hd⟩
 refine⟨I.ok,I.os,hg,⟨λb o e n hb hx=>?_,λb o e n hb hx=>?_,λb o e n hx=>?_,λb o e hx=>?_,λb xs e=>j5 b xs (I.base.j5 b xs e),λb o xs e=>jI b o xs (I.base.jI b o xs e),λb ps e=>?_⟩,?_,λx c e=>?_,?_,λx c e=>?_,λp hp=>?_,bQ,I.len⟩
 ·exact keep b o (qP b o e) hb (zB b o e hx) (I.base.keep b o e n hb hx) (I.base.free b o e n hx)
 ·obtain⟨sl,e1⟩:=I.base.slot b o e n hb hx;obtain⟨DA,e2⟩:=slot b _ (qP b o e) hb (zB b o e hx) e1 (I.base.free b o e n hx);exact⟨DA,e2⟩
 ·obtain⟨o',e1⟩:=I.base.there b o e hx;exact free b o' (zB b o e hx) e1 (I.base.free b o e n hx)
 ·obtain⟨o',e1⟩:=I.base.there b o e hx;exact there b o' (zB b o e hx) e1
 ·obtain⟨m1,e1⟩:=I.base.j6 b ps e;obtain⟨m2,e2⟩:=j6 b _ e1;exact⟨m1++m2,by rw[e2,Array.append_assoc]⟩
 ·obtain⟨m,hn,hl⟩:=I.loc;refine⟨m,ns m hn,λi x v e1 e2 e3=>?_⟩;obtain⟨u,r,l⟩:=hl i x v e1 e2 e3;refine⟨u,r,?_⟩;rcases l with l|⟨k,c,e,z⟩
  ·exact .inl l
  ·exact .inr ⟨k,c,e,IT x c e _ z⟩
 ·obtain⟨v,z⟩:=I.cell x c e;exact⟨v,IT x c e v z⟩
 ·obtain⟨m,⟨o,_,_,ho,_⟩,_⟩:=I.loc;exact free _ o (λz=>(oZ _ z).2.1 rfl) ho I.free
 ·obtain⟨v,o,ho,hd⟩:=I.cell x c e;exact free c o (λz=>(oZ c z).2.2.1 x c e rfl) ho (I.ni x c e)
 ·obtain⟨e,n,ne,nf,d⟩:=I.pin p hp;have wY:p.1 ∉ ch:=λz=>(oZ p.1 z).2.2.2 p hp rfl;exact⟨keep p.1 p.2 ne nf wY e n,free p.1 p.2 wY e n,ne,nf,d⟩
theorem Inv.un(I:Inv X aK σ H s)(u:Un X.fs [] H H' s.heap h')(bQ:dy X.prog X.w H' h'):Inv X aK σ H' { s with heap:=h',toks:=t' }:=by
 obtain⟨m,⟨o,es,ep,ho,r⟩,_⟩:=id I.loc;obtain⟨sl,hL⟩:=u.any ho I.free (by simp);exact I.step (g':=s.gens) (d':=s.drawn) (ch:=[]) (λ_ z=>nomatch z) (λb o _ hb _ e n=>u.keep b o e n hb (by simp)) (λb o _ hb _ e n=>u.slot b o e n hb (by simp)) (λb o _ e n=>u.free b o e n (by simp)) (λb o _ e=>u.there b o e (by simp)) u.j5 u.jI u.j6 (λm' hm=>by
  obtain⟨o',DB,DC,sx,r'⟩:=hm;rw[ho]at sx;cases sx;exact⟨_,DB,DC,hL,r'⟩) bQ I.bare
theorem Inv.call{g':Array GenState}{d':Drawn}(I:Inv X aK σ H s)(u:Un (fq X.stack) ch H H' s.heap h')(bQ:dy X.prog X.w H' h')(hg:AllBare g')
  (oZ:∀b∈ch,(b∈X.ex∨X.s₀.heap.objs.size≤b)∧b≠X.env.locals∧(∀x c,X.env.cells.lookup x=some c→c≠b)∧∀p∈X.pn++aK,p.1≠b) :
  Inv X aK σ H' { s with heap:=h',gens:=g',drawn:=d',toks:=t' }:=by
 obtain⟨m,⟨o,es,ep,ho,r⟩,_⟩:=id I.loc;obtain⟨sl,hL⟩:=u.any ho I.free λz=>(oZ _ z).2.1 rfl;exact I.step (ch:=ch) oZ (λb o hL hb hc e n=>u.keep b o e n (λz=>(eJ.mp (I.Dz b z)).elim hL hb) hc) (λb o _ _ hc e n=>u.any e n hc) (λb o hc e n=>u.free b o e n hc) (λb o hc e=>u.there b o e hc) u.j5 u.jI u.j6 (λm' hm=>by
  obtain⟨o',DB,DC,sx,r'⟩:=hm;rw[ho]at sx;cases sx;exact⟨_,DB,DC,hL,r'⟩) bQ hg
theorem Inv.turned{it:Addr}(I:Inv X aK σ H s)(k:∀b o,b≠it→s.heap.get? b=some o→h'.get? b=some o)(hn:H it=none)(hL:it≠X.env.locals)
  (h1:it∈X.ex∨X.s₀.heap.objs.size≤it) (h2:∀x c,X.env.cells.lookup x=some c→c≠it) (h3:∀p∈X.pn++aK,p.1≠it):Inv X aK σ H { s with heap:=h',toks:=t' }:=by
 have wZ:∀b u,H b=some u→b≠it:=λb u e z=>by rw[z,hn]at e;cases e
 refine I.step (g':=s.gens) (d':=s.drawn) (ch:=[it]) (λb hb=>?_) (λb o _ _ hc e _=>k b o (λz=>hc (by simp[z])) e) (λb o _ _ hc e _=>⟨o.slots,k b o (λz=>hc (by simp[z])) e⟩) (λ_ _ _ _ n=>n)
  (λb o hc e=>⟨o,k b o (λz=>hc (by simp[z])) e⟩) (λ_ _ e=>e) (λ_ _ _ e=>e) (λb ps e=>⟨#[],by rw[e];simp⟩) (λm hm=>?_) (λb u e=>?_) I.bare
 ·have e:b=it:=by simpa using hb
  subst e;exact⟨h1,hL,h2,h3⟩
 ·obtain⟨o,es,ep,ho,r⟩:=hm;exact⟨o,es,ep,k _ o (Ne.symm hL) ho,r⟩
 ·refine(I.bQ b u e).nh (λc v hc q=>k c v ?_ q) (λ_ q=>q) λ_ _ q=>q;rcases hc with z|z
  ·rw[z];exact wZ b u e
  ·exact wZ c _ z
theorem Inv.tok(I:Inv X aK σ H s)(t:Nat):Inv X aK σ H { s with toks:=t }:=I.un (h':=s.heap) (t':=t) Un.refl I.bQ
theorem Inv.kept{t':Nat}(I:Inv X aK σ H s)(k:∀b u,s.heap.get? b=some u→h'.get? b=some u):Inv X aK σ H { s with heap:=h',toks:=t' }:=I.un (Un.kept k) (I.bQ.kept k)
theorem Inv.laid{a:Addr}{o:HO}{t':Nat}(I:Inv X aK σ H s)(k:∀b u,s.heap.get? b=some u→h'.get? b=some u)(hp:s.heap.objs.size≤a)(new:eB X.prog X.w (upd H a o) h' a o) :
  Inv X aK σ (upd H a o) { s with heap:=h',toks:=t' }:=I.un (Un.laid k hp (I.bQ.fresh hp)) (I.bQ.laid k hp new)
theorem Inv.write{x e:Addr}{o:HO}{t':Nat}(I:Inv X aK σ H s)(mu:wU (H x))(he:e=x∨H e=some (.own x))(k:∀b u,b≠e→s.heap.get? b=some u→h'.get? b=some u)(uO:∃u,h'.get? e=some u)
  (new:eB X.prog X.w (upd H x o) h' x o):Inv X aK σ (upd H x o) { s with heap:=h',toks:=t' }:=I.un (Un.write mu he k uO) (I.bQ.write mu he k uO new)
theorem Inv.zC{IU:List (Addr×Obj)}(I:Inv X aK σ H s)(h:∀p∈IU,s.heap.get? p.1=some p.2∧H p.1=none∧p.1≠X.env.locals∧p.1 ∉ X.fs∧∀v,p.2.data≠.cell v):Inv X IU σ H s:=
 ⟨I.ok,I.os,I.bare,I.base,I.loc,I.cell,I.free,I.ni,λp hp=>(eT.mp hp).elim (λz=>I.pin p (nN _ z)) (h p),I.bQ,I.len⟩
theorem DD{N:List Str}(hN:N.Nodup){j:Nat}(a:N[i]?=some x)(b:N[j]?=some x):i=j:=by
 obtain⟨h1,e1⟩:=gc.mp a;obtain⟨h2,e2⟩:=gc.mp b;exact(List.getElem_inj hN).mp (e1.trans e2.symm)
theorem IV(I:Inv X aK σ H s)(hN:X.N.Nodup)(hi:X.N[i]?=some x)(hx:Loc X.env.scope x)(r:RelV v u)
  (h:∀s',Inv X aK (σ.set i (some v)) H s'→(∃a,Heap.SameBut a s.heap s'.heap∧(a=X.env.locals∨X.env.cells.lookup x=some a))→Q () s') (hf:X.fn x=true∨X.env.scope.names.lookup x=some .local:=by first|exact .inl rfl|exact .inr rfl|assumption):wpAny M A (storeName X.env x u) Q E s:=by
 obtain⟨m,hn,hl⟩:=id I.loc;have DE:(X.env.scope.kind == .class||(X.env.scope.kind == .module&&X.env.locals != X.env.globals))=false:=by rw[I.ok.kind];rfl
 have IW:i<σ.length:=by rw[I.len];exact(gc.mp hi).1
 have pX:=I.pX;have IX:∀{a:Addr}{h':Heap},(∃o,s.heap.get? a=some o∧H a=none)→Heap.SameBut a s.heap h'→dy X.prog X.w H h':=λ{a h'} ha hs b ob e=>by
  obtain⟨_,_,IY⟩:=ha;refine(I.bQ b ob e).nh (λc w' hc q=>(hs.2 c ?_).trans q) (λ_ q=>q) λ_ _ q=>q;rintro rfl;rcases hc with rfl|hc
  ·rw[IY]at e;cases e
  ·rw[IY]at hc;cases hc
 rcases hx with hk|hk
 ·refine wpAny_storeName_local hk hn (λh' DF hs=>?_) DE;obtain⟨oL,_,_,IZ,_⟩:=id hn;refine h _ ⟨I.ok,I.os,I.bare,⟨λb o e n hb hx=>?_,λb o e n hb hx=>?_,I.base.free,λb o e hx=>?_,I.base.j5,I.base.jI,I.base.j6⟩,⟨_,DF,λj y v' e1 e2 e3=>?_⟩,λy c e=>?_,I.free,I.ni,λp hp=>?_,IX ⟨oL,IZ,I.free⟩ hs,by simpa using I.len⟩ ⟨_,hs,.inl rfl⟩
  ·exact(hs.2 b (ib (iJ (dO e) I.ok.above))).trans (I.base.keep b o e n hb hx)
  ·obtain⟨sl,e1⟩:=I.base.slot b o e n hb hx;exact⟨sl,(hs.2 b (ib (iJ (dO e) I.ok.above))).trans e1⟩
  ·obtain⟨o',e1⟩:=I.base.there b o e hx;exact⟨o',(hs.2 b (ib (iJ (dO e) I.ok.above))).trans e1⟩
  ·by_cases hj:j=i
   ·subst hj;rw[hi]at e1;cases e1;rw[List.getElem?_set_self IW]at e2;cases e2;exact⟨u,r,.inl ⟨hk,by simp⟩⟩
   ·rw[List.getElem?_set_ne (Ne.symm hj)]at e2;obtain⟨u',r',q⟩:=hl j y v' e1 e2 e3;refine⟨u',r',?_⟩;rcases q with⟨k,e⟩|⟨k,c,e,z⟩
    ·refine .inl ⟨k,?_⟩
     have:y≠x:=λe=>hj (DD hN e1 (e▸hi))
     simp[this,e]
    ·exact .inr ⟨k,c,e,z.sameBut hs (pX y c e)⟩
  ·obtain⟨w',z⟩:=I.cell y c e;exact⟨w',z.sameBut hs (pX y c e)⟩
  ·obtain⟨e,n,ne,nf,d⟩:=I.pin p hp;exact⟨(hs.2 p.1 ne).trans e,n,ne,nf,d⟩
 ·have w6:X.fn x=true:=by
   rcases hf with z|z
   ·exact z
   ·rw[z]at hk;cases hk
  obtain⟨c,hc⟩:=I.ok.has x (.inl hk);obtain⟨w',z⟩:=I.cell x c hc;refine wpAny_storeName_cell I.ok.kind hk hc z (λh' jJ hs=>?_);obtain⟨oc,I0,Ri⟩:=id z;refine h { s with heap:=h' } ⟨I.ok,I.os,I.bare,⟨λb o e n hb hx=>?_,λb o e n hb hx=>?_,I.base.free,λb o e hx=>?_,I.base.j5,I.base.jI,I.base.j6⟩,⟨m,hn.sameBut hs (Ne.symm (pX x c hc)),λj y v' e1 e2 e3=>?_⟩,λy c' e=>?_,I.free,I.ni,λp hp=>?_,IX ⟨oc,I0,I.ni x c hc⟩ hs,by simpa using I.len⟩ ⟨c,hs,.inr hc⟩
  ·exact(hs.2 b (ib (iJ (dO e) (I.ok.wV x c w6 hc)))).trans (I.base.keep b o e n hb hx)
  ·obtain⟨sl,e1⟩:=I.base.slot b o e n hb hx;exact⟨sl,(hs.2 b (ib (iJ (dO e) (I.ok.wV x c w6 hc)))).trans e1⟩
  ·obtain⟨o',e1⟩:=I.base.there b o e hx;exact⟨o',(hs.2 b (ib (iJ (dO e) (I.ok.wV x c w6 hc)))).trans e1⟩
  ·by_cases hj:j=i
   ·subst hj;rw[hi]at e1;cases e1;rw[List.getElem?_set_self IW]at e2;cases e2;exact⟨u,r,.inr ⟨.inl hk,c,hc,jJ⟩⟩
   ·rw[List.getElem?_set_ne (Ne.symm hj)]at e2;obtain⟨u',r',q⟩:=hl j y v' e1 e2 e3;refine⟨u',r',?_⟩;rcases q with q|⟨k,c',e,z'⟩
    ·exact .inl q
    ·refine .inr ⟨k,c',e,z'.sameBut hs ?_⟩;rintro rfl;exact hj (DD hN e1 (I.ok.inj _ _ _ e hc▸hi))
  ·by_cases zD:c'=c
   ·subst zD;exact⟨_,jJ⟩
   ·obtain⟨w2,z2⟩:=I.cell y c' e;exact⟨w2,z2.sameBut hs zD⟩
  ·obtain⟨e,n,ne,nf,d⟩:=I.pin p hp;refine⟨(hs.2 p.1 ?_).trans e,n,ne,nf,d⟩;intro q;rw[q,I0]at e;have q':oc=p.2:=cY e;exact d w' (by rw[← q'];exact Ri)
theorem w8(I:Inv X aK σ H s)(hN:X.N.Nodup)(hi:X.N[i]?=some x)(hx:Loc X.env.scope x)(r:RelV v u)
  (h:∀s',Inv X aK (σ.set i (some v)) H s'→Q () s') (hf:X.fn x=true∨X.env.scope.names.lookup x=some .local:=by first|exact .inl rfl|exact .inr rfl|assumption):wpAny M A (storeName X.env x u) Q E s:=
 IV I hN hi hx r (λs' I' _=>h s' I') hf
theorem Inv.DG{s':Shared}(I:Inv X aK σ H s)(ho:s'.os=s.os)(u:Un (fq X.stack) ch H H' s.heap s'.heap)(bQ:dy X.prog X.w H' s'.heap)(hg:AllBare s'.gens)
  (oZ:∀b∈ch,(b∈X.ex∨X.s₀.heap.objs.size≤b)∧b≠X.env.locals∧(∀x c,X.env.cells.lookup x=some c→c≠b)∧∀p∈X.pn++aK,p.1≠b):Inv X aK σ H' s':=by
 obtain⟨h',g',d',t',o'⟩:=s';have e:o'=s.os:=ho;subst e;exact I.call (g':=g') (t':=t') (d':=d') u bQ hg oZ
end
abbrev XK:=Value→Option Addr→Hp→Prop
abbrev St:=List (Option V)
abbrev VK:=V→Hp→Prop
abbrev TE:=St→Hp→VK→Prop
abbrev TT:=St→Hp→(Bool→Hp→Prop)→Prop
abbrev TA:=St→Hp→(List V→Hp→Prop)→Prop
structure Ends where
 nx:St→Hp→Prop
 rt:VK
 bk:St→Hp→Prop:=λ_ _=>False
 ct:St→Hp→Prop:=λ_ _=>False
abbrev TS:=Ends→St→Hp→Prop
def EP(X:Cx)(aK:List (Addr×Obj))(σ:St)(Q:VK)(u:Value)(s':Shared):Prop:=∃v H',Inv X aK σ H' s'∧RelV v u∧Q v H'
def TP(X:Cx)(aK:List (Addr×Obj))(σ:St)(Q:Bool→Hp→Prop)(b:Bool)(s':Shared):Prop:=∃H',Inv X aK σ H' s'∧Q b H'
def AP(X:Cx)(aK:List (Addr×Obj))(σ:St)(Q:List V→Hp→Prop)(us:List Value)(s':Shared):Prop:=∃vs H',Inv X aK σ H' s'∧Vals vs us∧Q vs H'
def SP(X:Cx)(aK:List (Addr×Obj))(D:Ends)(f:Flow)(s':Shared):Prop:=
 match f with
 | .next=>∃σ' H',Inv X aK σ' H' s'∧D.nx σ' H'
 | .brk=>∃σ' H',Inv X aK σ' H' s'∧D.bk σ' H'
 | .cont=>∃σ' H',Inv X aK σ' H' s'∧D.ct σ' H'
 | .ret u=>∃v σ' H',Inv X aK σ' H' s'∧RelV v u∧D.rt v H'
def PE(X:Cx)(e:Expr)(t:TE):Prop:=
 ∀(aK:List (Addr×Obj))(s:Shared)(σ:St)(H:Hp)(Q:VK),Inv X aK σ H s→t σ H Q→wpAny (model X.prog X.w) X.A (eval e X.env) (EP X aK σ Q) X.xe s
def PT(X:Cx)(e:Expr)(t:TT):Prop:=
 ∀(aK:List (Addr×Obj))(s:Shared)(σ:St)(H:Hp)(Q:Bool→Hp→Prop),Inv X aK σ H s→t σ H Q→wpAny (model X.prog X.w) X.A (isTrue e X.env (eval e X.env)) (TP X aK σ Q) X.xe s
def PW(X:Cx)(e:Expr)(t:TT):Prop:=
 ∀(sy:Sem Value)(aK:List (Addr×Obj))(s:Shared)(σ:St)(H:Hp)(Q:Bool→Hp→Prop),Inv X aK σ H s→t σ H Q→wpAny (model X.prog X.w) X.A (isTrue e X.env sy) (TP X aK σ Q) X.xe s
theorem PW.pt{t:TT}(h:PW X e t):PT X e t:=h _
def PA(X:Cx)(es:List Expr)(t:TA):Prop:=
 ∀(pos:Pos)(aK:List (Addr×Obj))(s:Shared)(σ:St)(H:Hp)(Q:List V→Hp→Prop),Inv X aK σ H s→t σ H Q→wpAny (model X.prog X.w) X.A (spliced (backTo pos (starEach es X.env))) (AP X aK σ Q) X.xe s
def PS(X:Cx)(st:Stmt)(t:TS):Prop:=
 ∀(aK:List (Addr×Obj))(s:Shared)(σ:St)(H:Hp)(D:Ends),Inv X aK σ H s→t D σ H→wpAny (model X.prog X.w) X.A (exec st X.env) (SP X aK D) X.xe s
def jh(X:Cx)(st:List Stmt)(t:TS):Prop:=
 ∀(aK:List (Addr×Obj))(s:Shared)(σ:St)(H:Hp)(D:Ends),Inv X aK σ H s→t D σ H→wpAny (model X.prog X.w) X.A (execs st X.env) (SP X aK D) X.xe s
theorem bt{α:Type}{t:Sem α}{Q Q':α→Shared→Prop}(h:wpAny M A t Q E s)(hQ:∀a s,Q a s→Q' a s):wpAny M A t Q' E s:=ai h hQ λ_ _ x=>x
section
variable{X:Cx}
theorem bin{a b:Expr}{ta tb:TE}(ha:PE X a ta)(hb:PE X b tb){R:V→V→Hp→Prop}(I:Inv X aK σ H s)(h:ta σ H λx H1=>tb σ H1 λy H2=>R x y H2)
  {α:Type} {Q:α→Shared→Prop} {f:Value→Value→Sem α}
  (hf:∀v u s2 x y H2,Inv X aK σ H2 s2→RelV x v→RelV y u→R x y H2→wpAny (model X.prog X.w) X.A (f v u) Q X.xe s2) :
  wpAny (model X.prog X.w) X.A (eval a X.env) (λv s₁=>wpAny (model X.prog X.w) X.A (eval b X.env) (λu s₂=>wpAny (model X.prog X.w) X.A (f v u) Q X.xe s₂) X.xe s₁) X.xe s:=by
 refine bt (ha aK s σ H _ I h) λv s1 ⟨x,H1,I1,r1,q1⟩=>?_;refine bt (hb aK s1 σ H1 _ I1 q1) λu s2 ⟨y,H2,I2,r2,q2⟩=>?_;exact hf v u s2 x y H2 I2 r1 r2 q2
def aR(i:Nat):TE:=λσ H Q=>∃v,σ[i]?=some (some v)∧Q v H
def tC(v:V):TE:=λ_ H Q=>Q v H
theorem Ja{pos:Pos}(hN:X.N[i]?=some x)(hv:uP X.env.scope x)(hd:(x==("__debug__":Str))=false:=by decide)(gZ:(x==("__classdict__":Str))=false:=by decide):PE X (.Name x pos) (aR i):=by
 intro aK s σ H Q I h;obtain⟨v,e,h⟩:=h;obtain⟨m,hn,hl⟩:=I.loc;obtain⟨u,r,l⟩:=hl i x v hN e hv;have fin:EP X aK σ Q u s:=⟨v,H,I,r,h⟩;rcases l with⟨hk,hm⟩|⟨hk,c,hc,sG⟩
 ·exact wpAny_Name (wpAny_loadName_local I.ok.kind hk hn hm fin) hd
 ·rcases hk with hk|hk
  ·exact wpAny_Name (wpAny_loadName_cell I.ok.kind hk hc sG fin) hd
  ·exact wpAny_Name (wpAny_loadName_free I.ok.kind hk hc sG fin gZ) hd
theorem aW{i j pos}:PE X (.Constant (.int i) j pos) (tC (.int i)):=λ_ _ _ H _ I h=>wpAny_Constant_int ⟨.int i,H,I.tok _,⟨_,rfl⟩,h⟩
theorem sH{j pos}:PE X (.Constant .none j pos) (tC .cE):=λ_ _ _ H _ I h=>Constant_none ⟨.cE,H,I,rfl,h⟩
theorem cP{x j pos}:PE X (.Constant (.str x) j pos) (tC (.str x)):=λ_ _ _ H _ I h=>Calls.Constant_str ⟨.str x,H,I.tok _,⟨_,rfl⟩,h⟩
def Gl(X:Cx)(x:Str):Prop:=X.env.kindOf x=some .globalImplicit
theorem xa{pos:Pos}{Q:QV}(I:Inv X aK σ H s)(hg:Gl X x)(hm:X.mg x=some u)(h:Q u s)
  (hd:(x==("__debug__":Str))=false:=by decide):wpAny (model X.prog X.w) X.A (eval (.Name x pos) X.env) Q E s:=
 Calls.Name_function_global I.ok.kind hg (Calls.loadGlobal_global (by rw[I.ok.glob];exact I.mod.glob.keeps I.bk) hm h) hd
theorem sJ{pos:Pos}{Q:QV}(I:Inv X aK σ H s)(hg:Gl X x)(hm:X.mg x=none)(hv:bootBuiltins x=some u)(h:Q u s)
  (hn:x ≠ "__name__":=by decide) (hd:(x==("__debug__":Str))=false:=by decide):wpAny (model X.prog X.w) X.A (eval (.Name x pos) X.env) Q E s:=by
 obtain⟨mb,h1,h2⟩:=I.mod.blt;exact Calls.Name_function_global I.ok.kind hg (Calls.loadGlobal_builtin (by rw[I.ok.glob];exact I.mod.glob.keeps I.bk) hm (by rw[I.ok.blt];exact h1.keeps I.bk) ((h2 x hn).trans hv) h) hd
theorem kY{pos:Pos}(hg:Gl X x)(hm:X.mg x=some u)(r:RelV v u)(hd:(x==("__debug__":Str))=false:=by decide):PE X (.Name x pos) (tC v):=
 λ_ _ _ H _ I h=>xa I hg hm ⟨v,H,I,r,h⟩ hd
theorem Rj{pos:Pos}(hg:Gl X x)(hm:X.mg x=none)(hv:bootBuiltins x=some u)(r:RelV v u)(hn:x ≠ "__name__":=by decide)(hd:(x==("__debug__":Str))=false:=by decide):PE X (.Name x pos) (tC v):=
 λ_ _ _ H _ I h=>sJ I hg hm hv ⟨v,H,I,r,h⟩ hn hd
def Rk(ta tb:TE)(k:Int→Int→Hp→Prop):St→Hp→Prop:=λσ H=>ta σ H λx H1=>tb σ H1 λy H2=>∃i j,x=.int i∧y=.int j∧k i j H2
variable{a b:Expr}{ta tb:TE}{pos:Pos}
def PC(X:Cx)(op:CmpOp)(a b:Expr)(t:TE):Prop:=
 ∀(aK:List (Addr×Obj))(s:Shared)(σ:St)(H:Hp)(Q:VK),Inv X aK σ H s→t σ H Q→
  wpAny (model X.prog X.w) X.A (eval a X.env) (λv s₁=>wpAny (model X.prog X.w) X.A (eval b X.env) (λu s₂=>wpAny (model X.prog X.w) X.A (compareOp op v u) (EP X aK σ Q) X.xe s₂) X.xe s₁) X.xe s
theorem Rl(b:Expr)(h:op≠.In)(h2:op≠.NotIn):behindInMarks op b=false:=by
 have e1:(op==CmpOp.In)=false:=by cases op<;>first|rfl|exact absurd rfl h
 have e2:(op==CmpOp.NotIn)=false:=by cases op<;>first|rfl|exact absurd rfl h2
 cases b<;>simp[behindInMarks,e1,e2]
def DH(p:Int→Int→Bool)(ta tb:TE):TE:=λσ H Q=>Rk ta tb (λi j H2=>Q (.bl (p i j)) H2) σ H
abbrev sM:TE→TE→TE:=DH λi j=>decide (i<j)
abbrev Rm:TE→TE→TE:=DH λi j=>decide (i≤j)
theorem Rn{p:Int→Int→Bool}(ha:PE X a ta)(hb:PE X b tb)
  (rule:∀(i j:Int)(t u:Tok)(Q:QV)(s:Shared),Q (.bool (p i j)) s→wpAny (model X.prog X.w) X.A (compareOp op (.int i t) (.int j u)) Q X.xe s):PC X op a b (DH p ta tb):=by
 intro aK s σ H Q I h;refine bin ha hb I h λv u s2 x y H2 I2 rx ry q=>?_;obtain⟨i,j,rfl,rfl,q⟩:=q;obtain⟨t,rfl⟩:=rx;obtain⟨t',rfl⟩:=ry;exact rule i j t t' _ s2 ⟨.bl _,H2,I2,rfl,q⟩
theorem Jb(ha:PE X a ta)(hb:PE X b tb):PC X .LtE a b (Rm ta tb):=Rn ha hb λ_ _ _ _ _ _ h=>le_int h
def tB(t:TE):TT:=λσ H Q=>t σ H λx H1=>∃c,x=.bl c∧Q c H1
theorem DI{t:TE}(h:PC X op a b t)(h1:behindInMarks op b=false:=by first|exact Rl _ (by decide) (by decide)|rfl):PT X (.Compare a [op] [b] pos) (tB t):=by
 intro aK s σ H Q I hw;refine wpAny_isTrue_Compare1 (bt (h aK s σ H _ I hw) λv s1 h1=>bt h1 λu s2 h2=>bt h2 λc s3 ⟨x,H1,I1,r1,q1⟩=>?_) h1;obtain⟨d,rfl,q⟩:=q1;cases r1;exact aj ⟨H1,I1,q⟩
theorem sN{t:TE}(h:PE X e t)(he:∀sy,isTrue e X.env sy=(do let v ← sy;standAt e.pos;holding [v] (truthy v)):=by intro _;rfl):PT X e (tB t):=by
 intro aK s σ H Q I hw;refine isTrue_plain (bt (h aK s σ H _ I hw) λv s1 ⟨x,H1,I1,r1,q1⟩=>?_) (he _);obtain⟨d,rfl,q⟩:=q1;cases r1;exact aj ⟨H1,I1,q⟩
variable{tA zE:TT}{dE:List Expr}
def uR(t u:TT):TT:=λσ H Q=>t σ H λc H1=>if c=true then u σ H1 Q else Q false H1
def Jc(t u:TT):TT:=λσ H Q=>t σ H λc H1=>if c=true then Q true H1 else u σ H1 Q
def Jd(t:TT):TT:=λσ H Q=>t σ H λc H1=>Q (!c) H1
theorem sO(ha:PT X a tA):PW X (.BoolOp .And [a] pos) tA:=by
 intro wh aK s σ H Q I h;refine isTrue_and (bt (ha aK s σ H Q I h) λc s1 e=>?_);cases c with
 |true=>exact isTrue_and_nil e
 |false=>exact e
theorem Je(ha:PT X a tA):PW X (.BoolOp .Or [a] pos) tA:=by
 intro wh aK s σ H Q I h;refine isTrue_or (bt (ha aK s σ H Q I h) λc s1 e=>?_);cases c with
 |false=>exact isTrue_or_nil e
 |true=>exact e
theorem pY(ha:PT X a tA)(hb:PW X (.BoolOp .And (b::dE) pos) zE):PW X (.BoolOp .And (a::b::dE) pos) (uR tA zE):=by
 intro wh aK s σ H Q I h;refine isTrue_and (bt (ha aK s σ H _ I h) λc s1 ⟨H1,I1,q1⟩=>?_);cases c with
 |true=>exact hb wh aK s1 σ H1 Q I1 q1
 |false=>exact⟨H1,I1,q1⟩
theorem DJ(ha:PT X a tA)(hb:PW X (.BoolOp .Or (b::dE) pos) zE):PW X (.BoolOp .Or (a::b::dE) pos) (Jc tA zE):=by
 intro wh aK s σ H Q I h;refine isTrue_or (bt (ha aK s σ H _ I h) λc s1 ⟨H1,I1,q1⟩=>?_);cases c with
 |true=>exact⟨H1,I1,q1⟩
 |false=>exact hb wh aK s1 σ H1 Q I1 q1
theorem Ro(ha:PT X a tA):PT X (.UnaryOp .Not a pos) (Jd tA):=by
 intro aK s σ H Q I h;exact isTrue_not (ha aK s σ H (λc H1=>Q (!c) H1) I h)
def Rp(t:TT)(ta tb:TE):TE:=λσ H Q=>t σ H λc H1=>if c=true then ta σ H1 Q else tb σ H1 Q
theorem DK(hc:PT X c tA)(ha:PE X a ta)(hb:PE X b tb):PE X (.IfExp c a b pos) (Rp tA ta tb):=by
 intro aK s σ H Q I h;refine wpAny_IfExp (bt (hc aK s σ H _ I h) λd s1 ⟨H1,I1,q1⟩=>?_);cases d with
 |true=>exact ha aK s1 σ H1 Q I1 q1
 |false=>exact hb aK s1 σ H1 Q I1 q1
end
def cV(K:Frag)(H:Hp)(a:Addr)(xs:List V):Prop:=
 Rd H a (.lst xs) ∨
  ∃(o:Obj)(its:Array Value)(n:Nat),K.lookup a=some o∧o.cls=.type "list"∧o.dict=none∧o.data=.seq its n∧its.size≤sizeLine∧Vals xs its.toList
def bh(K:Frag)(H:Hp)(a:Addr)(xs:List V):Prop:=
 Rd H a (.tup xs) ∨
  ∃(o:Obj)(its:Array Value)(n:Nat),K.lookup a=some o∧o.cls=.type "tuple"∧o.data=.seq its n∧its.size≤sizeLine∧Vals xs its.toList
noncomputable def Rq:Value→Option V
 | .none=>some .cE
 | .bool b=>some (.bl b)
 | .int i _=>some (.int i)
 | .str x _=>some (.str x)
 | .bytes b _=>some (.lX b)
 | .float b _=>some (.uN b)
 | .ref a=>some (.ref a)
 | .type n=>some (.ty n)
 |_=>none
theorem RelV.abs{x:V}(r:RelV x u):Rq u=some x:=by
 cases x with
 |cE=>cases r;rfl
 |bl _=>cases r;rfl
 |int _=>obtain⟨t,rfl⟩:=r;rfl
 |str _=>obtain⟨t,rfl⟩:=r;rfl
 |lX _=>obtain⟨t,rfl⟩:=r;rfl
 |uN _=>obtain⟨t,rfl⟩:=r;rfl
 |ref _=>cases r;rfl
 |ty _=>cases r;rfl
theorem RelV.inj{x y:V}{u:Value}(r:RelV x u)(q:RelV y u):x=y:=cY (r.abs.symm.trans q.abs)
theorem Vals.inj:∀{xs ys:List V}{us:List Value},Vals xs us→Vals ys us→xs=ys
 |_,_,_,.nil,.nil=>rfl
 |_,_,_,.cons r t,.cons r' t'=>by rw[r.inj r',Vals.inj t t']
section
variable{X:Cx}{aK:List (Addr×Obj)}{σ:St}{H:Hp}{s:Shared}{a:Addr}{xs ys:List V}
theorem cV.of{K:Frag}(h:H a=some (.lst xs)):cV K H a xs:=.inl (.inl h)
theorem bh.of{K:Frag}(h:H a=some (.tup xs)):bh K H a xs:=.inl (.inl h)
theorem Inv.list(I:Inv X aK σ H s)(h:cV X.K H a xs):∃its:List Value,Vals xs its∧PlainL s.heap a its.toArray∧xs.length≤sizeLine:=by
 rcases h with h|⟨o,its,n,hk,hc,hd,hs,hz,r⟩
 ·obtain⟨z,its,n,r,e⟩:=h.ok I.bQ;exact⟨its,r,⟨_,n,e,rfl,rfl,rfl⟩,z⟩
 ·refine⟨its.toList,r,⟨o,n,I.fh a o hk,hc,hd,by simpa using hs⟩,?_⟩;have e:=r.length;simp only[Array.length_toList]at e;lia
theorem Inv.tuple(I:Inv X aK σ H s)(h:bh X.K H a xs):∃its:List Value,Vals xs its∧IsTup s.heap a its.toArray∧xs.length≤sizeLine:=by
 rcases h with h|⟨o,its,n,hk,hc,hs,hz,r⟩
 ·obtain⟨z,its,r,p⟩:=h.ok I.bQ;exact⟨its,r,p.tup,z⟩
 ·refine⟨its.toList,r,⟨o,I.fh a o hk,hc,n,by simpa using hs⟩,?_⟩;have e:=r.length;simp only[Array.length_toList]at e;lia
theorem Inv.Jf(I:Inv X aK σ H s)(h:cV X.K H a xs)(h':cV X.K H a ys):xs=ys:=by
 obtain⟨its,r,⟨o,n,e,_,_,d⟩,_⟩:=I.list h;obtain⟨its',r',⟨o',n',e',_,_,d'⟩,_⟩:=I.list h';rw[e]at e';cases e';rw[d]at d';injection d' with d1 _
 have:its=its':=by simpa using ao Array.toList d1
 subst this;exact r.inj r'
theorem Inv.Jg(I:Inv X aK σ H s)(h:bh X.K H a xs)(h':bh X.K H a ys):xs=ys:=by
 obtain⟨its,r,⟨o,e,_,n,d⟩,_⟩:=I.tuple h;obtain⟨its',r',⟨o',e',_,n',d'⟩,_⟩:=I.tuple h';rw[e]at e';cases e';rw[d]at d';injection d' with d1 _
 have:its=its':=by simpa using ao Array.toList d1
 subst this;exact r.inj r'
end
noncomputable abbrev Cx.nV(X:Cx)(E:QV):Cx:={ X with xe:=E }
noncomputable abbrev Cx.kZ(X:Cx):Cx:=X.nV λ_ _=>False
theorem Cx.Ok.nV{X:Cx}(ok:X.Ok)(E:QV):(X.nV E).Ok:=
 ⟨ok.mod,ok.kind,ok.glob,ok.blt,ok.above,ok.inj,ok.has,ok.wV,ok.hd,ok.frames,ok.qN,ok.wW,ok.bs,ok.pW,ok.wX,ok.uQ,ok.lY,ok.qO⟩
theorem Cx.Ok.pZ(ok:(X.nV E).Ok):X.Ok:=
 ⟨ok.mod,ok.kind,ok.glob,ok.blt,ok.above,ok.inj,ok.has,ok.wV,ok.hd,ok.frames,ok.qN,ok.wW,ok.bs,ok.pW,ok.wX,ok.uQ,ok.lY,ok.qO⟩
section
variable{X:Cx}{aK:List (Addr×Obj)}{σ:St}{H:Hp}{s:Shared}{E:QV}
theorem Inv.nV(I:Inv X aK σ H s)(E:QV):Inv (X.nV E) aK σ H s:=⟨I.ok.nV E,I.os,I.bare,I.base,I.loc,I.cell,I.free,I.ni,I.pin,I.bQ,I.len⟩
theorem Inv.pZ(I:Inv (X.nV E) aK σ H s):Inv X aK σ H s:=⟨I.ok.pZ,I.os,I.bare,I.base,I.loc,I.cell,I.free,I.ni,I.pin,I.bQ,I.len⟩
theorem SP.pZ{D:Ends}{f:Flow}{s':Shared}(h:SP (X.nV E) aK D f s'):SP X aK D f s':=by
 cases f with
 |next=>obtain⟨σ',H',I,q⟩:=h;exact⟨σ',H',I.pZ,q⟩
 |brk=>obtain⟨σ',H',I,q⟩:=h;exact⟨σ',H',I.pZ,q⟩
 |cont=>obtain⟨σ',H',I,q⟩:=h;exact⟨σ',H',I.pZ,q⟩
 |ret u=>obtain⟨v,σ',H',I,r,q⟩:=h;exact⟨v,σ',H',I.pZ,r,q⟩
theorem PE.kZ{e:Expr}{t:TE}(h:PE X.kZ e t):PE X e t:=λaK s σ H Q I hw=>
 ai (h aK s σ H Q (I.nV _) hw) (λ_ _ ⟨v,H',I',r,q⟩=>⟨v,H',I'.pZ,r,q⟩) λ_ _ z=>False.elim z
theorem jh.kZ{st:List Stmt}{t:TS}(h:jh X.kZ st t):jh X st t:=λaK s σ H D I hw=>
 ai (h aK s σ H D (I.nV _) hw) (λ_ _ q=>q.pZ) λ_ _ z=>False.elim z
end
section
variable{X:Cx}{st:Stmt}{dE:List Stmt}{t u:TS}{e:Expr}{te:TE}{pos:Pos}
def gs:TS:=λD σ H=>D.nx σ H
def bY(t u:TS):TS:=λD σ H=>t { D with nx:=u D } σ H
theorem e8:jh X [] gs:=λ_ _ σ H _ I h=>aq ⟨σ,H,I,h⟩
theorem bo(h1:PS X st t)(h2:jh X dE u):jh X (st::dE) (bY t u):=by
 intro aK s σ H D I h;refine wpAny_execs_cons (bt (h1 aK s σ H { D with nx:=u D } I h) λf s1 q=>?_);cases f with
 |next=>
  obtain⟨σ',H',I',q⟩:=q;exact h2 aK s1 σ' H' D I' q
 |ret v=>exact q
 |brk=>exact q
 |cont=>exact q
theorem bV(h1:PS X st t):jh X [st] t:=by
 intro aK s σ H D I h;refine wpAny_execs_cons (bt (h1 aK s σ H D I h) λf s1 q=>?_);cases f with
 |next=>exact aq q
 |ret v=>exact q
 |brk=>exact q
 |cont=>exact q
def Jh:TS:=λD σ H=>D.ct σ H
theorem Rr:PS X (.Continue pos) Jh:=λ_ _ σ H _ I h=>wpAny_Continue ⟨σ,H,I,h⟩
theorem Inv.quiet(I:Inv X aK σ H s):interactive X.env=false:=by simp[interactive,I.ok.kind]
def sP(te:TE):TS:=λD σ H=>te σ H λ_ H1=>D.nx σ H1
theorem lZ(he:PE X e te)(hs:swapsWith e none pos.line X.env=pure false:=by rfl):PS X (.Expr e pos) (sP te):=by
 intro aK s σ H D I h;exact wpAny_Expr_any (bt (he aK s σ H _ I h) λv s1 ⟨x,H1,I1,r1,q1⟩=>⟨σ,H1,I1,q1⟩) I.quiet hs
def dI(te:TE):TS:=λD σ H=>te σ H D.rt
theorem cO(he:PE X e te):PS X (.Return (some e) pos) (dI te):=by
 intro aK s σ H D I h;exact wpAny_Return_some (bt (he aK s σ H _ I h) λv s1 ⟨x,H1,I1,r1,q1⟩=>⟨x,σ,H1,I1,r1,q1⟩)
def eP(c:TT)(t u:TS):TS:=λD σ H=>c σ H λb H1=>if b=true then t D σ H1 else u D σ H1
theorem dR{a b:List Stmt}{tc:TT}(hc:PT X c tc)(ha:jh X a t)(hb:jh X b u):PS X (.If c a b pos) (eP tc t u):=by
 intro aK s σ H D I h;refine wpAny_If (bt (hc aK s σ H _ I h) λd s1 ⟨H1,I1,q1⟩=>?_);cases d with
 |true=>exact ha aK s1 σ H1 D I1 q1
 |false=>exact hb aK s1 σ H1 D I1 q1
def Rt:TS:=λ_ _ _=>False
theorem Ru{Rv:List Stmt}:jh X Rv Rt:=λ_ _ _ _ _ _ h=>h.elim
end
abbrev TG:=V→St→Hp→(St→Hp→Prop)→Prop
abbrev qQ:=List V→St→Hp→(St→Hp→Prop)→Prop
def PG(X:Cx)(target:Expr)(t:TG):Prop:=
 ∀(aK:List (Addr×Obj))(s:Shared)(σ:St)(H:Hp)(v:V)(u:Value)(Q:St→Hp→Prop),Inv X aK σ H s→RelV v u→t v σ H Q→
  wpAny (model X.prog X.w) X.A (assign target X.env u) (λ_ s'=>∃σ' H',Inv X aK σ' H' s'∧Q σ' H') X.xe s
def xb(X:Cx)(ts:List Expr)(t:qQ):Prop:=
 ∀(aK:List (Addr×Obj))(s:Shared)(σ:St)(H:Hp)(vs:List V)(us:List Value)(Q:St→Hp→Prop),Inv X aK σ H s→Vals vs us→t vs σ H Q→
  wpAny (model X.prog X.w) X.A (assignInOrder ((assignEach ts X.env).map (·.2)) us) (λ_ s'=>∃σ' H',Inv X aK σ' H' s'∧Q σ' H') X.xe s
abbrev DM:=V→V→V→Hp→(Hp→Prop)→Prop
def Ji(X:Cx)(t:DM):Prop:=
 ∀(aK:List (Addr×Obj))(s:Shared)(σ:St)(H:Hp)(o i v:V)(ov iv u:Value)(Q:Hp→Prop),Inv X aK σ H s→RelV o ov→RelV i iv→RelV v u→t o i v H Q→
  wpAny (model X.prog X.w) X.A (setItem ov iv u) (λ_ s'=>∃H',Inv X aK σ H' s'∧Q H') X.xe s
section
variable{X:Cx}{pos:Pos}
def br(i:Nat):TG:=λv σ H Q=>Q (σ.set i (some v)) H
theorem cG(hN:X.N.Nodup)(hi:X.N[i]?=some x)(hx:Loc X.env.scope x)(hf:X.fn x=true∨X.env.scope.names.lookup x=some .local:=by first|exact .inl rfl|exact .inr rfl|assumption):PG X (.Name x pos) (br i):=by
 intro aK s σ H v u Q I r h;exact wpAny_assign_Name (w8 I hN hi hx r (λs' I'=>⟨_,H,I',h⟩) hf)
def uS:qQ:=λvs σ H Q=>vs=[]∧Q σ H
def jx(t:TG)(u:qQ):qQ:=λvs σ H Q=>∃v r,vs=v::r∧t v σ H λσ' H'=>u r σ' H' Q
theorem p3:xb X [] uS:=by
 intro aK s σ H vs us Q I r h;obtain⟨e,h⟩:=h;subst e;cases r;exact assignInOrder_nil ⟨σ,H,I,h⟩
theorem fG{es:List Expr}{t:TG}{u:qQ}(h1:PG X e t)(h2:xb X es u)
  (hs:(assignEach (e::es) X.env).map (·.2)=assign e X.env::(assignEach es X.env).map (·.2):=by rfl):xb X (e::es) (jx t u):=by
 intro aK s σ H vs us Q I r h;obtain⟨v,vr,e1,h⟩:=h;subst e1;cases r with
 |cons r rr=>
  rw[hs];refine assignInOrder_cons (bt (h1 aK s σ H _ _ _ I r h) λ_ s1 ⟨σ1,H1,I1,q1⟩=>?_);exact h2 aK s1 σ1 H1 _ _ Q I1 rr q1
def sQ(K:Frag)(n:Nat)(t:qQ):TG:=λv σ H Q=>∃a xs,v=.ref a∧bh K H a xs∧xs.length=n∧t xs σ H Q
theorem Rx{es:List Expr}{k:Nat}{t:qQ}{n:Nat}(hc:X.calm=true)(h:xb X es t)
  (hn:(assignEach es X.env).length=n:=by rfl) (DN:(assignEach es X.env).findIdx? (·.1)=none:=by rfl):PG X (.Tuple es k pos) (sQ X.K n t):=by
 intro aK s σ H v u Q I r hw;obtain⟨a,xs,e1,hq,hl,hw⟩:=hw;subst e1;cases r;obtain⟨its,rv,ht,hz⟩:=I.tuple hq;refine assign_Tuple_tuple (I.ok.hd hc) ht (by simp[hn,← hl,rv.length]) DN λh' hx=>?_;have I1:Inv X aK σ H { s with heap:=h' }:=I.kept (t':=s.toks) λb o e=>hx b o (ib (dO e)) e;exact h aK _ σ H xs _ Q I1 (by simpa using rv) hw
def Jj(to ti:TE)(t:DM):TG:=λv σ H Q=>to σ H λo H1=>ti σ H1 λi H2=>t o i v H2 λH3=>Q σ H3
theorem Ry{o i:Expr}{to ti:TE}{t:DM}(ho:PE X o to)(hi:PE X i ti)(hs:Ji X t)
  (ha:∀v,assign (.Subscript o i pos) X.env v=(do
   let ov ← holding [v] (eval o X.env)
   let iv ← holding [v,ov] (eval i X.env)
   standAt pos
   holding [v,ov,iv] (setItem ov iv v)
   release [v,ov,iv] []):=by intro _;rfl):PG X (.Subscript o i pos) (Jj to ti t):=by
 intro aK s σ H v u Q I r h;rw[ha];refine au (av (bt (ho aK s σ H _ I h) λov s1 ⟨x,H1,I1,r1,q1⟩=>?_));refine au (av (bt (hi aK s1 σ H1 _ I1 q1) λiv s2 ⟨y,H2,I2,r2,q2⟩=>?_));refine au (wpAny_standAt (au (av (bt (hs aK s2 σ H2 x y v ov iv u _ I2 r1 r2 r q2) λ_ s3 ⟨H3,I3,q3⟩=>?_))));exact wpAny_release ⟨σ,H3,I3,q3⟩
def cB(te:TE)(g:TG):TS:=λD σ H=>te σ H λx H1=>g x σ H1 D.nx
theorem uT{te:TE}(he:PE X e te)(hg:PG X tg g)(hs:swapsWithSole [tg] e pos.line X.env=pure false:=by rfl)(hw:swappedStores [tg] e X.env=pure none:=by rfl)
  (h1:(assignEach [tg] X.env).map (·.2)=[assign tg X.env]:=by rfl):PS X (.Assign [tg] e pos) (cB te g):=by
 intro aK s σ H D I h;refine wpAny_Assign_stores (bt (he aK s σ H _ I h) λv s1 ⟨x,H1,I1,r1,q1⟩=>?_) hs hw;rw[h1];exact bt (hg aK s1 σ H1 x v _ I1 r1 q1) λ_ s2 q=>q
theorem cg{te:TE}{nW:Pos}(hN:X.N.Nodup)(hi:X.N[i]?=some x)(hx:Loc X.env.scope x)(he:PE X e te)(hs:swapsWith e (some (.Name x nW)) pos.line X.env=pure false:=by rfl)(hf:X.fn x=true∨X.env.scope.names.lookup x=some .local:=by first|exact .inl rfl|exact .inr rfl|assumption) :
  PS X (.Assign [.Name x nW] e pos) (cB te (br i)):=by
 intro aK s σ H D I h;refine wpAny_Assign_Name (bt (he aK s σ H _ I h) λv s1 ⟨y,H1,I1,r1,q1⟩=>?_) hs;exact w8 I1 hN hi hx r1 (λs2 I2=>⟨_,H1,I2,q1⟩) hf
end
section
variable{X:Cx}{pos:Pos}
def Jk(c:TT)(tb:TS):TS:=λD σ H=>∃W:Nat→St→Hp→Prop,(∃m,W m σ H)∧∀m σ H,W m σ H→
 c σ H λb H1=>if b=true then ∃N:St→Hp→Prop,(∀σ' H',N σ' H'→∃m',m'<m∧W m' σ' H')∧tb { D with nx:=N,ct:=N,bk:=D.nx } σ H1 else D.nx σ H1
theorem Rz{tc:TT}(hp:PassesOwn (model X.prog X.w) X.A X.env X.xe)(hc:PT X c tc)(hb:jh X body tb):PS X (.While c body [] pos) (Jk tc tb):=by
 intro aK s σ H D I h;obtain⟨W,⟨m0,w0⟩,nX⟩:=h;refine wpAny_While (codeAny_whileLoop (λn s'=>∃σ' H',Inv X aK σ' H' s'∧W n σ' H') ?_ m0 ⟨σ,H,I,w0⟩);rintro n s1 ⟨σ1,H1,I1,w1⟩;refine ax hp (bt (hc aK s1 σ1 H1 _ I1 (nX n σ1 H1 w1)) λb s2 ⟨H2,I2,q2⟩=>?_);cases b with
 |true=>
  obtain⟨N,hN,q2⟩:=q2;rw[ae rfl];refine ax hp (bt (hb aK s2 σ1 H2 _ I2 q2) λf s3 q3=>?_);cases f with
  |next=>
   obtain⟨σ3,H3,I3,n3⟩:=q3;obtain⟨m',hm,w3⟩:=hN σ3 H3 n3;exact⟨m',hm,σ3,H3,I3,w3⟩
  |cont=>
   obtain⟨σ3,H3,I3,n3⟩:=q3;obtain⟨m',hm,w3⟩:=hN σ3 H3 n3;exact⟨m',hm,σ3,H3,I3,w3⟩
  |brk=>exact q3
  |ret v=>exact q3
 |false=>
  rw[ah ic];exact aq ⟨σ1,H2,I2,q2⟩
end
structure It where
 go:Nat→Hp→Prop
 qR:Nat→Hp→V→Hp→Prop
 stop:Nat→Hp→Prop
def jK(X:Cx)(aK:List (Addr×Obj))(H:Hp)(b:Addr):Prop:=
 H b=none∧b≠X.env.locals∧b ∉ X.fs∧(b∈X.ex∨X.s₀.heap.objs.size≤b)∧(∀x c,X.env.cells.lookup x=some c→c≠b)∧∀p∈X.pn++aK,p.1≠b
theorem Inv.qS{H':Hp}(I:Inv X aK σ H s)(hb:s.heap.objs.size≤b)(hn:H' b=none):jK X aK H' b:=by
 refine⟨hn,Nat.ne_of_gt (iJ I.lt hb),I.Rh hb,.inr (gp I.sz hb),λx c e z=>?_,λp hp z=>?_⟩
 ·obtain⟨v,q⟩:=I.cell x c e;exact absurd (iJ q.lt (by rw[z];exact hb)) (uF _)
 ·exact absurd (iJ (dO (I.pin p hp).1) (by rw[z];exact hb)) (uF _)
structure Turn(P:Program)(w:World)(K:Frag)(tg:Expr)(J:It)(fp:List Addr)(it:Addr)(tn:Nat→Heap→Prop):Prop where
 mem:it∈fp
 obj:∀i h,tn i h→∀b∈fp,∃o,h.get? b=some o∧∀v,o.data≠.cell v
 keep:∀i h h',tn i h→(∀b∈fp,∀o,h.get? b=some o→h'.get? b=some o)→tn i h'
 item:∀(X:Cx),X.prog=P→X.w=w→X.K=K→X.calm=true→∀(i:Nat)(aK:List (Addr×Obj))(s:Shared)(σ:St)(H:Hp)(E:QV),Inv X aK σ H s→(∀b∈fp,jK X aK H b)→tn i s.heap→J.go i H→
  wpAny (model P w) X.A (pyNext (.ref it)) (λr s1=>∃u,r=some u∧
   wpAny (model P w) X.A (letOwnedTupleGo tg (.ref it) u) (λ_ s2=>∃x H',Inv X aK σ H' s2∧RelV x u∧J.qR i H x H'∧tn (i+1) s2.heap∧∀b∈fp,H' b=none) E s1) E s
 done:∀(X:Cx),X.prog=P→X.w=w→X.K=K→X.calm=true→∀(i:Nat)(aK:List (Addr×Obj))(s:Shared)(σ:St)(H:Hp)(E:QV),Inv X aK σ H s→(∀b∈fp,jK X aK H b)→tn i s.heap→J.stop i H→
  wpAny (model P w) X.A (pyNext (.ref it)) (λr s1=>r=none∧Inv X aK σ H s1) E s
 self:∀(A:Around)(i:Nat)(s:Shared)(Q:QV)(E:QV),tn i s.heap→Q (.ref it) s→wpAny (model P w) A (pyIter (.ref it)) Q E s
abbrev TI:=St→Hp→(It→Hp→Prop)→Prop
def DO(X:Cx)(aK:List (Addr×Obj))(σ:St)(tg:Expr)(R:It→Hp→Prop)(zF:Value)(s2:Shared):Prop:=
 ∃(it:Addr)(fp:List Addr)(tn:Nat→Heap→Prop)(J:It)(H':Hp),zF=.ref it∧Inv X aK σ H' s2∧Turn X.prog X.w X.K tg J fp it tn∧tn 0 s2.heap∧(∀b∈fp,jK X aK H' b)∧R J H'
def PI(X:Cx)(tg iter:Expr)(wi:TI):Prop:=
 ∀(aK:List (Addr×Obj))(s:Shared)(σ:St)(H:Hp)(R:It→Hp→Prop),Inv X aK σ H s→wi σ H R→
  wpAny (model X.prog X.w) X.A (eval iter X.env) (λv s1=>wpAny (model X.prog X.w) X.A (pyIter v) (DO X aK σ tg R) X.xe s1) X.xe s
theorem zG{it:Addr}{n:String}{vs:Array Value}(ho:s.heap.get? it=some o)(hc:o.cls=.type n)(hd:o.data=.fields vs)
  (hn:["enumerate","zip","dict_itemiterator","dict_reverseitemiterator","odict_iterator","itertools.zip_longest","itertools.pairwise"].contains n=false) (hQ:Q () s):wpAny M A (letOwnedTupleGo tg (.ref it) u) Q E s:=by
 unfold letOwnedTupleGo;cases tg<;>first
  |exact ay hQ
  |(cases u<;>first
    |exact ay hQ
    |(refine au (wpAny_load ho ?_);rw[hc,hd];show wpAny M A (if(["enumerate","zip","dict_itemiterator","dict_reverseitemiterator","odict_iterator","itertools.zip_longest","itertools.pairwise"].contains n&&vs[0]? == some (rawInt _))=true then _ else _) Q E s;rw[ah (by intro h;rw[hn,Bool.false_and]at h;cases h)];exact ay hQ))
noncomputable def nY(K:Frag)(a:Addr):It:=
 ⟨λi H=>∃xs x,cV K H a xs∧xs[i]?=some x,λi H x H'=>H'=H∧∀xs,cV K H a xs→xs[i]?=some x,λi H=>∃xs,cV K H a xs∧xs.length≤i⟩
noncomputable def sR(K:Frag)(a:Addr):It:=
 ⟨λi H=>∃xs x,bh K H a xs∧xs[i]?=some x,λi H x H'=>H'=H∧∀xs,bh K H a xs→xs[i]?=some x,λi H=>∃xs,bh K H a xs∧xs.length≤i⟩
noncomputable def p4(lo:Int)(n:Nat):It:=⟨λi _=>i<n,λi H x H'=>H'=H∧x=.int (lo+i),λi _=>n≤i⟩
theorem RA{P:Program}{w:World}{K:Frag}(a it:Addr):Turn P w K tg (nY K a) [it] it (λi h=>h.IsListIter it a i) where
 mem:=by simp
 obj:=λi h st b hb=>by
  have e:b=it:=by simpa using hb
  subst e;obtain⟨o,e,c,d⟩:=st;exact⟨o,e,λv z=>by rw[d]at z;cases z⟩
 keep:=λi h h' st k=>st.at λo e=>k it (by simp) o e
 item:=by
  intro X hP hw hK hc i aK s σ H E I hf st hg;subst hP hw hK;obtain⟨xs,x,hq,hx⟩:=hg;obtain⟨its,rv,p,hz⟩:=I.list hq;obtain⟨u,hu,ru⟩:=rv.get hx;obtain⟨f0,f1,f2,f3,f4,f5⟩:=hf it (by simp);refine wpAny_pyNext_list_item st p.isList (x:=u) (by simpa using hu) λh' nZ sb=>?_;have I1:Inv X aK σ H { s with heap:=h' }:=I.turned (t':=s.toks) (λb o hb e=>(sb.2 b hb).trans e) f0 f1 f3 f4 f5;obtain⟨o,e,c,d⟩:=id nZ;exact⟨u,rfl,zG (s:={ s with heap:=h' }) e c d (by decide) ⟨x,H,I1,ru,⟨rfl,λys hy=>by rw[I.Jf hy hq];exact hx⟩,nZ,λb hb=>(hf b hb).1⟩⟩
 done:=by
  intro X hP hw hK hc i aK s σ H E I hf st hg;subst hP hw hK;obtain⟨xs,hq,hx⟩:=hg;obtain⟨its,rv,p,hz⟩:=I.list hq;obtain⟨f0,f1,f2,f3,f4,f5⟩:=hf it (by simp);have hl:=rv.length;exact wpAny_pyNext_list_end (I.ok.hd hc) st p.isList (by simp;lia) λh' eb=>⟨rfl,I.turned (t':=s.toks) (λb o hb e=>eb b o hb e) f0 f1 f3 f4 f5⟩
 self:=λ_ _ _ _ _ st h=>wpAny_pyIter_listiter st h
theorem RB{P:Program}{w:World}{K:Frag}(a it:Addr):Turn P w K tg (sR K a) [it] it (λi h=>h.IsTupleIter it a i) where
 mem:=by simp
 obj:=λi h st b hb=>by
  have e:b=it:=by simpa using hb
  subst e;obtain⟨o,e,c,d⟩:=st;exact⟨o,e,λv z=>by rw[d]at z;cases z⟩
 keep:=λi h h' st k=>st.at λo e=>k it (by simp) o e
 item:=by
  intro X hP hw hK hc i aK s σ H E I hf st hg;subst hP hw hK;obtain⟨xs,x,hq,hx⟩:=hg;obtain⟨its,rv,p,hz⟩:=I.tuple hq;obtain⟨u,hu,ru⟩:=rv.get hx;obtain⟨f0,f1,f2,f3,f4,f5⟩:=hf it (by simp);refine wpAny_pyNext_tuple_item st (show s.heap.IsTuple a its.toArray from p) (x:=u) (by simpa using hu) λh' nZ sb=>?_
  have I1:Inv X aK σ H { s with heap:=h' }:=I.turned (t':=s.toks) (λb o hb e=>(sb.2 b hb).trans e) f0 f1 f3 f4 f5;obtain⟨o,e,c,d⟩:=id nZ;exact⟨u,rfl,zG (s:={ s with heap:=h' }) e c d (by decide) ⟨x,H,I1,ru,⟨rfl,λys hy=>by rw[I.Jg hy hq];exact hx⟩,nZ,λb hb=>(hf b hb).1⟩⟩
 done:=by
  intro X hP hw hK hc i aK s σ H E I hf st hg;subst hP hw hK;obtain⟨xs,hq,hx⟩:=hg;obtain⟨its,rv,p,hz⟩:=I.tuple hq;obtain⟨f0,f1,f2,f3,f4,f5⟩:=hf it (by simp);have hl:=rv.length;exact wpAny_pyNext_tuple_end (I.ok.hd hc) st (show s.heap.IsTuple a its.toArray from p) (by simp;lia) λh' eb=>⟨rfl,I.turned (t':=s.toks) (λb o hb e=>eb b o hb e) f0 f1 f3 f4 f5⟩
 self:=λ_ _ _ _ _ st h=>wpAny_pyIter_tupleiter st h
theorem RC{P:Program}{w:World}{K:Frag}(it:Addr)(lo:Int)(n:Nat):Turn P w K tg (p4 lo n) [it] it (λi h=>IsRangeIter h it (lo+(i:Nat)*1) ((n:Int)-(i:Nat)) 1) where
 mem:=by simp
 obj:=λi h st b hb=>by
  have e:b=it:=by simpa using hb
  subst e;exact⟨_,st,λv z=>by
   have z':Data.fields _=Data.cell v:=z;cases z'⟩
 keep:=λi h h' st k=>k it (by simp) _ st
 item:=by
  intro X hP hw hK hc i aK s σ H E I hf st hg;subst hP hw hK;obtain⟨f0,f1,f2,f3,f4,f5⟩:=hf it (by simp);have W:=Walks.range (prog:=X.prog) (w:=X.w) (I.ok.hd hc) it lo 1 n;refine W.item i s _ _ hg st λv h' tk hv nZ kk=>?_;obtain⟨t,rfl⟩:=hv;have I1:Inv X aK σ H { s with heap:=h',toks:=tk }:=I.turned (λb o hb e=>kk b o (by simpa using hb) e) f0 f1 f3 f4 f5;refine⟨_,rfl,zG (s:={ s with heap:=h',toks:=tk }) (n := "range_iterator") nZ rfl rfl (by decide) ⟨.int (lo+i),H,I1,⟨t,?_⟩,⟨rfl,rfl⟩,nZ,λb hb=>(hf b hb).1⟩⟩;rw[Int.mul_one]
 done:=by
  intro X hP hw hK hc i aK s σ H E I hf st hg;subst hP hw hK;obtain⟨f0,f1,f2,f3,f4,f5⟩:=hf it (by simp);exact wpAny_pyNext_range_end (I.ok.hd hc) st (by have:n≤i:=hg;lia) λh' eb=>⟨rfl,I.turned (t':=s.toks) (λb o hb e=>eb b o hb e) f0 f1 f3 f4 f5⟩
 self:=λ_ _ _ _ _ st h=>wpAny_pyIter_rangeiter st h
section
variable{X:Cx}{tg:Expr}
def n5(K:Frag)(tl:TE):TI:=λσ H R=>tl σ H λx H1=>∃a,x=.ref a∧(∃xs,cV K H1 a xs)∧R (nY K a) H1
def lj(K:Frag)(tl:TE):TI:=λσ H R=>tl σ H λx H1=>∃a,x=.ref a∧(∃xs,bh K H1 a xs)∧R (sR K a) H1
theorem RD{l:Expr}{tl:TE}(hl:PE X l tl):PI X tg l (n5 X.K tl):=by
 intro aK s σ H R I h;refine bt (hl aK s σ H _ I h) λv s1 ⟨x,H1,I1,r1,q1⟩=>?_;obtain⟨a,e,⟨xs,hq⟩,q⟩:=q1;subst e;cases r1;obtain⟨its,rv,p,hz⟩:=I1.list hq;refine wpAny_pyIter_list p.isList ?_;refine⟨s1.heap.objs.size,[s1.heap.objs.size],_,_,H1,rfl,I1.kept (t':=s1.toks) λb o e=>eh _ e,RA a _,⟨_,iW _ rfl,rfl,rfl⟩,λb hb=>?_,q⟩;have e:b=s1.heap.objs.size:=by simpa using hb
 subst e;exact I1.qS (cC _) (I1.bQ.fresh (cC _))
theorem RE{l:Expr}{tl:TE}(hl:PE X l tl):PI X tg l (lj X.K tl):=by
 intro aK s σ H R I h;refine bt (hl aK s σ H _ I h) λv s1 ⟨x,H1,I1,r1,q1⟩=>?_;obtain⟨a,e,⟨xs,hq⟩,q⟩:=q1;subst e;cases r1;obtain⟨its,rv,p,hz⟩:=I1.tuple hq;refine wpAny_pyIter_tuple (show s1.heap.IsTuple a its.toArray from p) ?_
 refine⟨s1.heap.objs.size,[s1.heap.objs.size],_,_,H1,rfl,I1.kept (t':=s1.toks) λb o e=>eh _ e,RB a _,⟨_,iW _ rfl,rfl,rfl⟩,λb hb=>?_,q⟩;have e:b=s1.heap.objs.size:=by simpa using hb
 subst e;exact I1.qS (cC _) (I1.bQ.fresh (cC _))
theorem Jl{R:It→Hp→Prop}{lo hi:Int}{t u v:Tok}{tk:Nat}(I:Inv X aK σ H s)(h1:-(2^62)≤lo)(h2:lo<2^62)(h3:-(2^62)≤hi)(h4:hi<2^62)
  (q:R (p4 lo (hi-lo).toNat) H):wpAny (model X.prog X.w) X.A (pyIter (.ref s.heap.objs.size)) (DO X aK σ tg R) E { s with heap:=s.heap.push { cls:=.type "range",data:=.fields #[.int lo t,.int hi u,.int 1 v] },toks:=tk }:=by
 refine wpAny_pyIter_range (IsRange.new ..) (small_one h1 h2 h3 h4) ?_;have I1:Inv X aK σ H { s with heap:=s.heap.push { cls:=.type "range",data:=.fields #[.int lo t,.int hi u,.int 1 v] },toks:=tk }:=I.kept λb o e=>eh _ e;refine⟨(s.heap.push { cls:=.type "range",data:=.fields #[.int lo t,.int hi u,.int 1 v] }).objs.size,[(s.heap.push { cls:=.type "range",data:=.fields #[.int lo t,.int hi u,.int 1 v] }).objs.size],_,_,H,rfl,
  I1.kept (t':=tk) λb o e=>eh _ e,RC _ lo (hi-lo).toNat,?_,λb hb=>?_,q⟩
 ·have e1:lo+((0:Nat):Int)*1=lo:=by simp
  have e2:(((hi-lo).toNat:Nat):Int)-((0:Nat):Int)=Builtin.Range.rangeSize lo hi 1:=by rw[rangeSize_one];split<;>lia
  show IsRangeIter _ _ (lo+((0:Nat):Int)*1) ((((hi-lo).toNat:Nat):Int)-((0:Nat):Int)) 1;rw[e1,e2];exact iW _ rfl
 ·have e:b=(s.heap.push { cls:=.type "range",data:=.fields #[.int lo t,.int hi u,.int 1 v] }).objs.size:=by simpa using hb
  subst e;exact I1.qS (cC _) (I1.bQ.fresh (cC _))
def zH(ta:TA):TI:=λσ H R=>ta σ H λvs H1=>∃j:Int,vs=[.int j]∧-(2^62)≤j∧j<2^62∧R (p4 0 j.toNat) H1
def RF(ta:TA):TI:=λσ H R=>ta σ H λvs H1=>∃i j:Int,vs=[.int i,.int j]∧(-(2^62)≤i∧i<2^62∧-(2^62)≤j∧j<2^62)∧R (p4 i (j-i).toNat) H1
theorem l5{a:Expr}{ta:TA}{p pos:Pos}(hg:Gl X "range")(hm:X.mg "range"=none)(ha:PA X [a] ta)(hs:starEach [a] X.env=[(false,eval a X.env)]:=by rfl):PI X tg (.Call (.Name "range" p) [a] [] pos) (zH ta):=by
 intro aK s σ H R I h;refine Call_ (sJ I hg hm boot_range (Dq (bt (ha pos aK s σ H _ I h) λus s1 ⟨vs,H1,I1,r1,q1⟩=>?_) hs rfl));obtain⟨j,e,q1,q2,q⟩:=q1;subst e;cases r1 with
 |cons r rr=>
  cases rr;obtain⟨t,rfl⟩:=r;exact call_range_1 (Jl I1 (by lia) (by lia) q1 q2 (by simpa using q))
theorem RG{a b:Expr}{ta:TA}{p pos:Pos}(hg:Gl X "range")(hm:X.mg "range"=none)(ha:PA X [a,b] ta)(hs:starEach [a,b] X.env=[(false,eval a X.env),(false,eval b X.env)]:=by rfl)(nj:starEach [b] X.env=[(false,eval b X.env)]:=by rfl) :
  PI X tg (.Call (.Name "range" p) [a,b] [] pos) (RF ta):=by
 intro aK s σ H R I h;refine Call_ (sJ I hg hm boot_range (Dq (bt (ha pos aK s σ H _ I h) λus s1 ⟨vs,H1,I1,r1,q1⟩=>?_) (by rw[hs,nj]) (by rw[nj];rfl)));obtain⟨i,j,e,⟨q1,q2,q3,q4⟩,q⟩:=q1;subst e;cases r1 with
 |cons r rr=>
  cases rr with
  |cons r' rr=>
   cases rr;obtain⟨t,rfl⟩:=r;obtain⟨t',rfl⟩:=r';exact call_range_2 (Jl I1 q1 q2 q3 q4 q)
def sS(wi:TI)(g:TG)(tb:TS):TS:=λD σ H=>wi σ H λJ H1=>∃W:Nat→Nat→St→Hp→Prop,(∃m,W 0 m σ H1)∧∀i m σ H,W i m σ H→
 (J.stop i H∧D.nx σ H)∨(J.go i H∧∃N:St→Hp→Prop,(∀σ' H',N σ' H'→∃m',m'<m∧W (i+1) m' σ' H')∧∀x H',J.qR i H x H'→g x σ H' λσ2 H2=>tb { D with nx:=N,ct:=N,bk:=D.nx } σ2 H2)
noncomputable def xf(fp:List Addr)(h:Heap):List (Addr×Obj):=fp.filterMap λb=>(h.get? b).map λo=>(b,o)
theorem zI(hb:b∈fp)(e:h.get? b=some o):(b,o)∈xf fp h:=List.mem_filterMap.mpr ⟨b,hb,by rw[e];rfl⟩
theorem RH{p:Addr×Obj}(hp:p∈xf fp h):p.1∈fp∧h.get? p.1=some p.2:=by
 obtain⟨b,hb,e⟩:=List.mem_filterMap.mp hp;cases q:h.get? b with
 |none=>rw[q]at e;cases e
 |some o=>
  rw[q]at e;have e':(b,o)=p:=cY e;subst e';exact⟨hb,q⟩
theorem Inv.pinned(I:Inv X aK σ H s)(hf:∀b∈fp,jK X aK H b)(ho:∀b∈fp,∃o,s.heap.get? b=some o∧∀v,o.data≠.cell v):Inv X (aK++xf fp s.heap) σ H s:=
 I.zC λp hp=>(eT.mp hp).elim (λz=>I.pin p (jv _ z)) λz=>by
  obtain⟨hb,e⟩:=RH z;obtain⟨f0,f1,f2,_⟩:=hf p.1 hb;obtain⟨o,e',d⟩:=ho p.1 hb;rw[e]at e';cases e';exact⟨e,f0,f1,f2,d⟩
theorem Inv.DP{pl:List (Addr×Obj)}(I:Inv X (aK++pl) σ H s):Inv X aK σ H s:=I.zC λp hp=>I.pin p (jv _ (nN _ hp))
theorem nk{iter:Expr}{wi:TI}{pos:Pos}(hp:PassesOwn (model X.prog X.w) X.A X.env X.xe)(hc:X.calm=true)(hi:PI X tg iter wi)(hg:PG X tg g)(hb:jh X body tb)
  (hs:∀x,foldedSetIterable iter X.env x=pure x:=by intro _;rfl):PS X (.For tg iter body [] pos) (sS wi g tb):=by
 intro aK s σ H D I h;refine wpAny_For (bt (hi aK s σ H _ I h) λv s1 h1=>bt h1 λzF s2 h2=>?_) hs;obtain⟨it,fp,tn,J,H2,e,I2,T,lB,f2,W,⟨m0,w0⟩,nX⟩:=h2;subst e;have DQ:∀{H':Hp},(∀b∈fp,H' b=none)→∀b∈fp,jK X aK H' b:=λhn b hb=>⟨hn b hb,(f2 b hb).2⟩;refine codeAny_forLoop_any (λn s'=>∃i σ' H',Inv X aK σ' H' s'∧tn i s'.heap∧(∀b∈fp,H' b=none)∧W i n σ' H') ?_ m0 ⟨0,σ,H2,I2,lB,λb hb=>(f2 b hb).1,w0⟩;rintro n s3 ⟨i,σ3,H3,I3,Jm,Jn,w3⟩;rcases nX i n σ3 H3 w3 with⟨stop,qn⟩|⟨go,N,hN,step⟩
 ·refine ax hp (bt (T.done X rfl rfl rfl hc i aK s3 σ3 H3 X.xe I3 (DQ Jn) Jm stop) λr s4 ⟨hr,I4⟩=>?_);subst hr;exact aq ⟨σ3,H3,I4,qn⟩
 ·refine ax hp (bt (T.item X rfl rfl rfl hc i aK s3 σ3 H3 X.xe I3 (DQ Jn) Jm go) λr s4 ⟨u,hr,h4⟩=>?_);subst hr;refine ax hp (bt h4 λ_ s5 ⟨x,H5,I5,r5,y5,DR,zJ⟩=>?_);have RI:=I5.pinned (DQ zJ) (T.obj _ _ DR);refine ax hp (bt (hg _ s5 σ3 H5 x u _ RI r5 (step x H5 y5)) λ_ s6 ⟨σ6,H6,I6,q6⟩=>?_);refine ax hp (bt (hb _ s6 σ6 H6 _ I6 q6) λf s7 q7=>?_);have again:∀{σ7:St}{H7:Hp},Inv X (aK++xf fp s5.heap) σ7 H7 s7→N σ7 H7→∃m,m<n∧∃i σ' H',Inv X aK σ' H' s7∧tn i s7.heap∧(∀b∈fp,H' b=none)∧W i m σ' H':=λ{σ7 H7} I7 n7=>by
   obtain⟨m',hm,w7⟩:=hN σ7 H7 n7;refine⟨m',hm,i+1,σ7,H7,I7.DP,T.keep _ _ _ DR λb hb o e=>(I7.pin (b,o) (jv _ (jv _ (zI hb e)))).1,λb hb=>?_,w7⟩;obtain⟨o,e,d⟩:=T.obj _ _ DR b hb;exact(I7.pin (b,o) (jv _ (jv _ (zI hb e)))).2.1
  cases f with
  |next=>obtain⟨σ7,H7,I7,n7⟩:=q7;exact again I7 n7
  |cont=>obtain⟨σ7,H7,I7,n7⟩:=q7;exact again I7 n7
  |brk=>obtain⟨σ7,H7,I7,q7⟩:=q7;exact⟨σ7,H7,I7.DP,q7⟩
  |ret v=>obtain⟨x7,σ7,H7,I7,r7,q7⟩:=q7;exact⟨x7,σ7,H7,I7.DP,r7,q7⟩
end
theorem zK{K:Frag}{xs:List V}{D:Ends}(Pv:Nat→St→Hp→Prop)(h0:Pv 0 σ H)(hl:∀i σ H,i≤xs.length→Pv i σ H→cV K H a xs)
  (hs:∀i x σ H,xs[i]?=some x→Pv i σ H→g x σ H λσ2 H2=>tb { D with nx:=Pv (i+1),ct:=Pv (i+1),bk:=D.nx } σ2 H2) (hd:∀σ H,Pv xs.length σ H→D.nx σ H) :
  ∃W:Nat→Nat→St→Hp→Prop,(∃m,W 0 m σ H)∧∀i m σ H,W i m σ H→
   ((nY K a).stop i H∧D.nx σ H)∨((nY K a).go i H∧∃N:St→Hp→Prop,(∀σ' H',N σ' H'→∃m',m'<m∧W (i+1) m' σ' H')∧∀x H',(nY K a).qR i H x H'→g x σ H' λσ2 H2=>tb { D with nx:=N,ct:=N,bk:=D.nx } σ2 H2):=by
 refine⟨λi m σ H=>m=xs.length-i∧i≤xs.length∧Pv i σ H,⟨xs.length,by simp,nO _,h0⟩,?_⟩;rintro i m σ H ⟨rfl,hi,p⟩;have q:=hl i σ H hi p;by_cases c7:i<xs.length
 ·refine .inr ⟨⟨xs,xs[i],q,by simp[c7]⟩,Pv (i+1),λσ' H' p'=>⟨xs.length-(i+1),by lia,rfl,c7,p'⟩,λx H' y=>?_⟩;obtain⟨e,y⟩:=y;subst e;exact hs i x σ _ (y xs q) p
 ·have e:i=xs.length:=by lia
  subst e;exact .inl ⟨⟨xs,q,cC _⟩,hd σ H p⟩
theorem sT{lo:Int}{n:Nat}{D:Ends}(Pv:Nat→St→Hp→Prop)(h0:Pv 0 σ H)
  (hs:∀i σ H,i<n→Pv i σ H→g (.int (lo+i)) σ H λσ2 H2=>tb { D with nx:=Pv (i+1),ct:=Pv (i+1),bk:=D.nx } σ2 H2) (hd:∀σ H,Pv n σ H→D.nx σ H) :
  ∃W:Nat→Nat→St→Hp→Prop,(∃m,W 0 m σ H)∧∀i m σ H,W i m σ H→
   ((p4 lo n).stop i H∧D.nx σ H)∨((p4 lo n).go i H∧∃N:St→Hp→Prop,(∀σ' H',N σ' H'→∃m',m'<m∧W (i+1) m' σ' H')∧∀x H',(p4 lo n).qR i H x H'→g x σ H' λσ2 H2=>tb { D with nx:=N,ct:=N,bk:=D.nx } σ2 H2):=by
 refine⟨λi m σ H=>m=n-i∧i≤n∧Pv i σ H,⟨n,by simp,nO _,h0⟩,?_⟩;rintro i m σ H ⟨rfl,hi,p⟩;by_cases c7:i<n
 ·refine .inr ⟨c7,Pv (i+1),λσ' H' p'=>⟨n-(i+1),by lia,rfl,c7,p'⟩,λx H' y=>?_⟩;obtain⟨e,y⟩:=y;subst e y;exact hs i σ _ c7 p
 ·have e:i=n:=by lia
  subst e;exact .inl ⟨cC _,hd σ H p⟩
abbrev R2:=V→V→Hp→VK→Prop
def eX(X:Cx)(f:Value→Value→Sem Value)(r:R2):Prop:=
 ∀(aK:List (Addr×Obj))(s:Shared)(σ:St)(H:Hp)(x y:V)(v u:Value)(Q:VK),Inv X aK σ H s→RelV x v→RelV y u→r x y H Q→
  wpAny (model X.prog X.w) X.A (f v u) (EP X aK σ Q) X.xe s
def DT(X:Cx)(f:Value→Sem Value)(r:V→Hp→VK→Prop):Prop:=
 ∀(aK:List (Addr×Obj))(s:Shared)(σ:St)(H:Hp)(x:V)(v:Value)(Q:VK),Inv X aK σ H s→RelV x v→r x H Q→
  wpAny (model X.prog X.w) X.A (f v) (EP X aK σ Q) X.xe s
def gI(X:Cx)(f:Value)(r:List V→Hp→VK→Prop):Prop:=
 ∀(aK:List (Addr×Obj))(s:Shared)(σ:St)(H:Hp)(xs:List V)(us:List Value)(Q:VK),Inv X aK σ H s→Vals xs us→r xs H Q→
  wpAny (model X.prog X.w) X.A (call f us) (EP X aK σ Q) X.xe s
def RJ(X:Cx)(r:V→Hp→(Bool→Hp→Prop)→Prop):Prop:=
 ∀(aK:List (Addr×Obj))(s:Shared)(σ:St)(H:Hp)(x:V)(v:Value)(Q:Bool→Hp→Prop),Inv X aK σ H s→RelV x v→r x H Q→
  wpAny (model X.prog X.w) X.A (truthy v) (TP X aK σ Q) X.xe s
def cf(r:R2)(ta tb:TE):TE:=λσ H Q=>ta σ H λx H1=>tb σ H1 λy H2=>r x y H2 Q
def zL(r:V→Hp→VK→Prop)(ta:TE):TE:=λσ H Q=>ta σ H λx H1=>r x H1 Q
def rI(C:Int→Int→Prop)(g:Int→Int→V):R2:=λx y H Q=>∃i j,x=.int i∧y=.int j∧C i j∧Q (g i j) H
def iC(g:Int→Int→V):R2:=λx y H Q=>∃i j,x=.int i∧y=.int j∧Q (g i j) H
def rU(g:Int→V):V→Hp→VK→Prop:=λx H Q=>∃i,x=.int i∧Q (g i) H
section
variable{X:Cx}{a b c:Expr}{ta tb tc:TE}{pos:Pos}
theorem DU(ha:PE X a ta)(hb:PE X b tb){R:V→V→Hp→Prop}(I:Inv X aK σ H s)
  (h:ta σ H λx H1=>tb σ H1 λy H2=>R x y H2) {Q:QV} {f:Value→Value→Sem Value}
  (hf:∀v u s2 x y H2,Inv X aK σ H2 s2→RelV x v→RelV y u→R x y H2→wpAny (model X.prog X.w) X.A (f v u) Q X.xe s2) :
  wpAny (model X.prog X.w) X.A (eval a X.env) (λv s₁=>wpAny (model X.prog X.w) X.A (eval b X.env) (λu s₂=>wpAny (model X.prog X.w) X.A (f v u) Q X.xe s₂) X.xe s₁) X.xe s:=by
 refine bt (ha aK s σ H _ I h) λv s1 ⟨x,H1,I1,r1,q1⟩=>?_;refine bt (hb aK s1 σ H1 _ I1 q1) λu s2 ⟨y,H2,I2,r2,q2⟩=>?_;exact hf v u s2 x y H2 I2 r1 r2 q2
theorem bc{op:Operator}{r:R2}(ho:eX X (binaryOp op) r)(ha:PE X a ta)(hb:PE X b tb):PE X (.BinOp a op b pos) (cf r ta tb):=by
 intro aK s σ H Q I h;exact wpAny_BinOp (DU ha hb I h λv u s2 x y H2 I2 rx ry q=>ho aK s2 σ H2 x y v u Q I2 rx ry q)
theorem n6{op:UnaryOp}{r:V→Hp→VK→Prop}(ho:DT X (unaryOp op) r)(ha:PE X a ta):PE X (.UnaryOp op a pos) (zL r ta):=by
 intro aK s σ H Q I h;exact UnaryOp_ (bt (ha aK s σ H _ I h) λv s1 ⟨x,H1,I1,r1,q1⟩=>ho aK s1 σ H1 x v Q I1 r1 q1)
theorem DV{C:Int→Int→Prop}{g:Int→Int→Int}
  (rule:∀(i j:Int)(t u:Tok)(s:Shared)(Q:QV)(E:QV),C i j→Q (.int (g i j) s.toks) { s with toks:=s.toks+1 }→wpAny (model X.prog X.w) X.A (f (.int i t) (.int j u)) Q E s) :
  eX X f (rI C λi j=>.int (g i j)):=by
 intro aK s σ H x y v u Q I rx ry h;obtain⟨i,j,rfl,rfl,hc,q⟩:=h;obtain⟨t,rfl⟩:=rx;obtain⟨t',rfl⟩:=ry;exact rule i j t t' s _ _ hc ⟨.int (g i j),H,I.tok _,⟨_,rfl⟩,q⟩
theorem Jo{g:Int→Int→Int}
  (rule:∀(i j:Int)(t u:Tok)(s:Shared)(Q:QV)(E:QV),Q (.int (g i j) s.toks) { s with toks:=s.toks+1 }→wpAny (model X.prog X.w) X.A (f (.int i t) (.int j u)) Q E s) :
  eX X f (iC λi j=>.int (g i j)):=by
 intro aK s σ H x y v u Q I rx ry h;obtain⟨i,j,rfl,rfl,q⟩:=h;obtain⟨t,rfl⟩:=rx;obtain⟨t',rfl⟩:=ry;exact rule i j t t' s _ _ ⟨.int (g i j),H,I.tok _,⟨_,rfl⟩,q⟩
theorem Jp{g:Int→Int→Bool}
  (rule:∀(i j:Int)(t u:Tok)(s:Shared)(Q:QV)(E:QV),Q (.bool (g i j)) s→wpAny (model X.prog X.w) X.A (f (.int i t) (.int j u)) Q E s) :
  eX X f (iC λi j=>.bl (g i j)):=by
 intro aK s σ H x y v u Q I rx ry h;obtain⟨i,j,rfl,rfl,q⟩:=h;obtain⟨t,rfl⟩:=rx;obtain⟨t',rfl⟩:=ry;exact rule i j t t' s _ _ ⟨.bl (g i j),H,I,rfl,q⟩
def Jq(i j:Int):Prop:=0<j∧j<1073741824
def sU(i j:Int):Prop:=(-(2^64)<i∧i<2^64)∨(-(2^64)<j∧j<2^64)
theorem sU.ok{i j:Int}(h:sU i j):IntMulOk i j:=by
 rcases h with⟨h1,h2⟩|⟨h1,h2⟩
 ·exact .of_left (intBits_le_64 h1 h2)
 ·exact .of_right (intBits_le_64 h1 h2)
theorem eK:eX X (binaryOp .Add) (iC λi j=>.int (i+j)):=Jo λ_ _ _ _ _ _ _ q=>add_int q
theorem jy:eX X (binaryOp .Sub) (iC λi j=>.int (i-j)):=Jo λ_ _ _ _ _ _ _ q=>sub_int q
theorem l6:eX X (binaryOp .Mult) (rI sU λi j=>.int (i*j)):=DV λ_ _ _ _ _ _ _ hc q=>mul_int q hc.ok
theorem zM:eX X (binaryOp .FloorDiv) (rI Jq λi j=>.int (i/j)):=DV λi j _ _ _ _ _ hc q=>by
 have h1:(0:Int)<j:=hc.1;have h2:j<1073741824:=hc.2;exact floordiv_int (by lia) (by rw[Int.fdiv_eq_ediv_of_nonneg i (by lia)];exact q) (.inl (PyProof.noPylong_small (by lia)))
theorem fH:eX X (binaryOp .Mod) (rI (λ_ j=>0<j) λi j=>.int (i%j)):=DV λi j _ _ _ _ _ hc q=>by
 have h1:(0:Int)<j:=hc;exact mod_int' (by lia) (by rw[Int.fmod_eq_emod_of_nonneg i (by lia)];exact q)
theorem RK{f:Value→Sem Value}{g:Int→Int}
  (rule:∀(i:Int)(t:Tok)(s:Shared)(Q:QV)(E:QV),Q (.int (g i) s.toks) { s with toks:=s.toks+1 }→wpAny (model X.prog X.w) X.A (f (.int i t)) Q E s) :
  DT X f (rU λi=>.int (g i)):=by
 intro aK s σ H x v Q I rx h;obtain⟨i,rfl,q⟩:=h;obtain⟨t,rfl⟩:=rx;exact rule i t s _ _ ⟨.int (g i),H,I.tok _,⟨_,rfl⟩,q⟩
theorem n8:DT X (unaryOp .USub) (rU λi=>.int (-i)):=RK λ_ _ _ _ _ q=>neg_int q
end
noncomputable def Jr:V→V→Bool
 | .cE,.cE=>true | .cE,.int _=>true | .int _,.cE=>true | .cE,.bl _=>true | .bl _,.cE=>true | .cE,.str _=>true | .str _,.cE=>true
 | .int _,.int _=>true | .bl _,.bl _=>true | .str _,.str _=>true | .lX _,.lX _=>true
 | .int _,.str _=>true | .str _,.int _=>true | .bl _,.str _=>true | .str _,.bl _=>true
 |_,_=>false
def nq:R2:=λx y H Q=>Jr x y=true∧Q (.bl (decide (x=y))) H
def RL:R2:=λx y H Q=>Jr x y=true∧Q (.bl (!decide (x=y))) H
theorem Js{i j:Int}:decide (V.int i=V.int j)=(i==j):=by
 rw[Bool.eq_iff_iff];simp
theorem Jt{i j:Bool}:decide (V.bl i=V.bl j)=(i==j):=by
 rw[Bool.eq_iff_iff];simp
theorem Ju{i j:Str}:decide (V.str i=V.str j)=(i==j):=by
 rw[Bool.eq_iff_iff];simp
theorem Jv{i j:Array UInt8}:decide (V.lX i=V.lX j)=(i.toList==j.toList):=by
 rw[Bool.eq_iff_iff];cases i;cases j;simp
section
variable{X:Cx}{a b c:Expr}{ta tb tc:TE}{pos:Pos}
theorem e7{Q:VK}{k k':Bool}(I:Inv X aK σ H s)(q:Q (.bl k) H)(e:k=k'):EP X aK σ Q (.bool k') s:=by
 subst e;exact⟨.bl k,H,I,rfl,q⟩
theorem gJ:eX X (compareOp .Eq) nq:=by
 intro aK s σ H x y v u Q I rx ry h;obtain⟨hs,q⟩:=h;cases x with
 |cE=>
  cases rx;cases y with
  |cE=>cases ry;exact PySem.EqNone.eq_none_none (e7 I q (by simp))
  |bl j=>cases ry;exact PySem.EqNone.eq_none_bool (e7 I q (by simp))
  |int j=>obtain⟨t',rfl⟩:=ry;exact PySem.EqNone.eq_none_int (e7 I q (by simp))
  |str j=>obtain⟨t',rfl⟩:=ry;exact PySem.EqNone.eq_none_str (e7 I q (by simp))
  |_=>exact absurd (show false=true from hs) ic
 |bl i=>
  cases rx;cases y with
  |cE=>cases ry;exact PySem.EqNone.eq_bool_none (e7 I q (by simp))
  |bl j=>cases ry;exact eq_bool (e7 I q Jt)
  |str j=>obtain⟨t',rfl⟩:=ry;exact PySem.EqMixed.eq_bool_str (e7 I q (by simp))
  |_=>exact absurd (show false=true from hs) ic
 |int i=>
  obtain⟨t,rfl⟩:=rx;cases y with
  |cE=>cases ry;exact PySem.EqNone.eq_int_none (e7 I q (by simp))
  |int j=>obtain⟨t',rfl⟩:=ry;exact eq_int (e7 I q Js)
  |str j=>obtain⟨t',rfl⟩:=ry;exact PySem.EqMixed.eq_int_str (e7 I q (by simp))
  |_=>exact absurd (show false=true from hs) ic
 |str i=>
  obtain⟨t,rfl⟩:=rx;cases y with
  |cE=>cases ry;exact PySem.EqNone.eq_str_none (e7 I q (by simp))
  |bl j=>cases ry;exact PySem.EqMixed.eq_str_bool (e7 I q (by simp))
  |int j=>obtain⟨t',rfl⟩:=ry;exact PySem.EqMixed.eq_str_int (e7 I q (by simp))
  |str j=>obtain⟨t',rfl⟩:=ry;exact eq_str (e7 I q Ju)
  |_=>exact absurd (show false=true from hs) ic
 |lX i=>
  obtain⟨t,rfl⟩:=rx;cases y with
  |lX j=>obtain⟨t',rfl⟩:=ry;exact PySem.W.eq_bytes (e7 I q Jv)
  |_=>exact absurd (show false=true from hs) ic
 |_=>cases y<;>exact absurd (show false=true from hs) ic
theorem zN:eX X (compareOp .NotEq) RL:=by
 intro aK s σ H x y v u Q I rx ry h;obtain⟨hs,q⟩:=h;cases x with
 |cE=>
  cases rx;cases y with
  |cE=>cases ry;exact PySem.EqNone.ne_none_none (e7 I q (by simp))
  |bl j=>cases ry;exact PySem.EqNone.ne_none_bool (e7 I q (by simp))
  |int j=>obtain⟨t',rfl⟩:=ry;exact PySem.EqNone.ne_none_int (e7 I q (by simp))
  |str j=>obtain⟨t',rfl⟩:=ry;exact PySem.EqNone.ne_none_str (e7 I q (by simp))
  |_=>exact absurd (show false=true from hs) ic
 |bl i=>
  cases rx;cases y with
  |cE=>cases ry;exact PySem.EqNone.ne_bool_none (e7 I q (by simp))
  |bl j=>cases ry;exact ne_bool (e7 I q (ao not Jt))
  |str j=>obtain⟨t',rfl⟩:=ry;exact PySem.EqMixed.ne_bool_str (e7 I q (by simp))
  |_=>exact absurd (show false=true from hs) ic
 |int i=>
  obtain⟨t,rfl⟩:=rx;cases y with
  |cE=>cases ry;exact PySem.EqNone.ne_int_none (e7 I q (by simp))
  |int j=>obtain⟨t',rfl⟩:=ry;exact ne_int (e7 I q (ao not Js))
  |str j=>obtain⟨t',rfl⟩:=ry;exact PySem.EqMixed.ne_int_str (e7 I q (by simp))
  |_=>exact absurd (show false=true from hs) ic
 |str i=>
  obtain⟨t,rfl⟩:=rx;cases y with
  |cE=>cases ry;exact PySem.EqNone.ne_str_none (e7 I q (by simp))
  |bl j=>cases ry;exact PySem.EqMixed.ne_str_bool (e7 I q (by simp))
  |int j=>obtain⟨t',rfl⟩:=ry;exact PySem.EqMixed.ne_str_int (e7 I q (by simp))
  |str j=>obtain⟨t',rfl⟩:=ry;exact ne_str (e7 I q (ao not Ju))
  |_=>exact absurd (show false=true from hs) ic
 |lX i=>
  obtain⟨t,rfl⟩:=rx;cases y with
  |lX j=>obtain⟨t',rfl⟩:=ry;exact PySem.W.ne_bytes (e7 I q (ao not Jv))
  |_=>exact absurd (show false=true from hs) ic
 |_=>cases y<;>exact absurd (show false=true from hs) ic
theorem DW:eX X (compareOp .Lt) (iC λi j=>.bl (decide (i<j))):=Jp λ_ _ _ _ _ _ _ q=>lt_int q
theorem sV:eX X (compareOp .Gt) (iC λi j=>.bl (decide (j<i))):=Jp λ_ _ _ _ _ _ _ q=>gt_int q
theorem RM:eX X (compareOp .Is) (λx y H Q=>y=.cE∧Q (.bl (decide (x=.cE))) H):=by
 intro aK s σ H x y v u Q I rx ry h;obtain⟨rfl,q⟩:=h;cases ry;refine is_none_gen (e7 I q ?_);cases x<;>first
  |(cases rx;rfl)
  |(obtain⟨t,rfl⟩:=rx;rfl)
theorem RN:eX X (compareOp .IsNot) (λx y H Q=>y=.cE∧Q (.bl (!decide (x=.cE))) H):=by
 intro aK s σ H x y v u Q I rx ry h;obtain⟨rfl,q⟩:=h;cases ry;refine isnot_none_gen (e7 I q ?_);cases x<;>first
  |(cases rx;rfl)
  |(obtain⟨t,rfl⟩:=rx;rfl)
theorem de(b:Expr)(h:op≠.In:=by decide)(h2:op≠.NotIn:=by decide):behindInMarks op b=false:=by
 have e1:(op==CmpOp.In)=false:=by cases op<;>first|rfl|exact absurd rfl h
 have e2:(op==CmpOp.NotIn)=false:=by cases op<;>first|rfl|exact absurd rfl h2
 cases b<;>simp[behindInMarks,e1,e2]
theorem DX{r:R2}(ho:eX X (compareOp op) r)(ha:PE X a ta)(hb:PE X b tb)(hm:behindInMarks op b=false):PE X (.Compare a [op] [b] pos) (cf r ta tb):=by
 intro aK s σ H Q I h;exact wpAny_Compare1 (DU ha hb I h λv u s2 x y H2 I2 rx ry q=>ho aK s2 σ H2 x y v u Q I2 rx ry q) hm
def gu(t:TE):TT:=λσ H Q=>t σ H λx H'=>∃k,x=.bl k∧Q k H'
theorem df{r:R2}(ho:eX X (compareOp op) r)(ha:PE X a ta)(hb:PE X b tb)(hm:behindInMarks op b=false):PT X (.Compare a [op] [b] pos) (gu (cf r ta tb)):=by
 intro aK s σ H Q I h;refine wpAny_isTrue_Compare1 (bt (ha aK s σ H _ I h) λv s1 ⟨x,H1,I1,r1,q1⟩=>bt (hb aK s1 σ H1 _ I1 q1) λu s2 ⟨y,H2,I2,r2,q2⟩=>
  bt (ho aK s2 σ H2 x y v u _ I2 r1 r2 q2) λc s3 ⟨z,H3,I3,r3,k,e,q3⟩=>?_) hm
 subst e;cases r3;exact aj ⟨H3,I3,q3⟩
def Jw(K:Frag)(x:V)(H:Hp)(k:Bool):Prop:=
 match x with
 | .cE=>k=false
 | .bl b=>k=b
 | .int i=>k=(i != 0)
 | .str y=>y.length≤sizeLine∧k=((y.length:Int) != 0)
 | .lX y=>y.size≤sizeLine∧k=((y.size:Int) != 0)
 | .ref p=>(∃xs,cV K H p xs∧k=!xs.isEmpty)∨(∃xs,bh K H p xs∧k=!xs.isEmpty)∨∃aZ,H p=some (.dK aZ)∧k=!aZ.isEmpty
 |_=>False
theorem RP{κ:Type}{aZ:List (κ×V)}{vs:List (κ×Value)}(r:KV aZ vs):(!vs.isEmpty)=!aZ.isEmpty:=by
 cases r<;>rfl
theorem Jx{xs:List V}{its:List Value}(r:Vals xs its):(!its.toArray.isEmpty)=!xs.isEmpty:=by
 cases r<;>simp
theorem xg:(sizeLine:Nat)<2^63:=by rw[sizeLine_eq];decide
theorem RQ:RJ X (λx H Q=>∃k,Jw X.K x H k∧Q k H):=by
 intro aK s σ H x v Q I rx h;obtain⟨k,e,q⟩:=h;have hl:=xg;have hs:sizeLine=16777216:=sizeLine_eq;cases x with
 |cE=>
  cases rx;have e':k=false:=e;subst e';exact truthy_none ⟨H,I,q⟩
 |bl b=>
  cases rx;have e':k=b:=e;subst e';exact aj ⟨H,I,q⟩
 |int i=>
  obtain⟨t,rfl⟩:=rx;have e':k=(i != 0):=e;subst e';exact PySem.P.truthy_int ⟨H,I,q⟩
 |str y=>
  obtain⟨t,rfl⟩:=rx;obtain⟨hy,e'⟩:y.length≤sizeLine∧k=((y.length:Int) != 0):=e;subst e';exact PySem.P.truthy_str (by lia) ⟨H,I.tok _,q⟩
 |lX y=>
  obtain⟨t,rfl⟩:=rx;obtain⟨hy,e'⟩:y.size≤sizeLine∧k=((y.size:Int) != 0):=e;subst e';exact PySem.W.truthy_bytes (by lia) ⟨H,I.tok _,q⟩
 |ref p=>
  cases rx;have e':(∃xs,cV X.K H p xs∧k=!xs.isEmpty)∨(∃xs,bh X.K H p xs∧k=!xs.isEmpty)∨∃aZ,H p=some (.dK aZ)∧k=!aZ.isEmpty:=e;rcases e' with⟨xs,hx,e'⟩|⟨xs,hx,e'⟩|⟨aZ,hx,e'⟩
  ·subst e';obtain⟨its,r,pl,hz⟩:=I.list hx;have cJ:=r.length;exact wpAny_truthy_list pl.isList (by simp only[dP];lia) ⟨H,I.tok _,by rw[Jx r];exact q⟩
  ·subst e';obtain⟨its,r,pl,hz⟩:=I.tuple hx;have cJ:=r.length;exact truthy_tuple pl (by simp only[dP];lia) ⟨H,I.tok _,by rw[Jx r];exact q⟩
  ·subst e';obtain⟨hz,hS,vs,r,m⟩:aZ.length≤sizeLine∧(p==sysModules)=false∧∃vs,KV aZ vs∧s.heap.DictOf (kQ X.prog X.w) p vs:=I.bQ p _ hx;have cJ:aZ.length=vs.length:=Paired.length r;exact wpAny_truthy_dict hS m (by lia) ⟨H,I.tok _,by rw[RP r];exact q⟩
 |_=>exact(show False from e).elim
theorem DY(ha:PE X a ta)(he:∀sy,isTrue a X.env sy=(do let v ← sy;standAt a.pos;holding [v] (truthy v))) :
  PT X a (λσ H Q=>ta σ H λx H'=>∃k,Jw X.K x H' k∧Q k H'):=by
 intro aK s σ H Q I h;exact isTrue_plain (bt (ha aK s σ H _ I h) λv s1 ⟨x,H1,I1,r1,q1⟩=>RQ aK s1 σ H1 x v Q I1 r1 q1) (he _)
theorem vals1{x:V}(r:Vals [x] us):∃u,us=[u]∧RelV x u:=by
 cases r with
 |cons r1 r2=>cases r2;exact⟨_,rfl,r1⟩
theorem vals2{x y:V}(r:Vals [x,y] us):∃u w',us=[u,w']∧RelV x u∧RelV y w':=by
 cases r with
 |cons r1 r2=>
  cases r2 with
  |cons r3 r4=>cases r4;exact⟨_,_,rfl,r1,r3⟩
theorem RR(hc:X.calm=true):gI X (.builtin "max") (λxs H Q=>∃i j,xs=[.int i,.int j]∧Q (.int (if j>i then j else i)) H):=by
 intro aK s σ H xs us Q I r h;obtain⟨i,j,rfl,q⟩:=h;obtain⟨u,w',rfl,⟨t,rfl⟩,⟨t',rfl⟩⟩:=vals2 r;refine max_two_ints (I.ok.hd hc) λh' tk k=>⟨_,H,I.kept k,?_,q⟩;by_cases hj:j>i
 ·rw[ae hj,ae hj];exact⟨_,rfl⟩
 ·rw[ah hj,ah hj];exact⟨_,rfl⟩
theorem RT(hc:X.calm=true):gI X (.builtin "min") (λxs H Q=>∃i j,xs=[.int i,.int j]∧Q (.int (if j<i then j else i)) H):=by
 intro aK s σ H xs us Q I r h;obtain⟨i,j,rfl,q⟩:=h;obtain⟨u,w',rfl,⟨t,rfl⟩,⟨t',rfl⟩⟩:=vals2 r;refine min_two_ints (I.ok.hd hc) λh' tk k=>⟨_,H,I.kept k,?_,q⟩;by_cases hj:j<i
 ·rw[ae hj,ae hj];exact⟨_,rfl⟩
 ·rw[ah hj,ah hj];exact⟨_,rfl⟩
theorem DZ:gI X (.type "int") (λxs H Q=>(∃i,xs=[.int i]∧Q (.int i) H)∨∃k,xs=[.bl k]∧Q (.int (if k then 1 else 0)) H):=by
 intro aK s σ H xs us Q I r h;rcases h with⟨i,rfl,q⟩|⟨k,rfl,q⟩
 ·obtain⟨u,rfl,t,rfl⟩:=vals1 r;exact call_int_int ⟨.int i,H,I,⟨_,rfl⟩,q⟩
 ·obtain⟨u,rfl,r1⟩:=vals1 r;cases r1;exact call_int_bool ⟨.int (if k then 1 else 0),H,I.tok _,⟨_,rfl⟩,q⟩
end
structure D0(h:Heap)(x dx C:Addr)(mA:Str→Option Value):Prop where
 obj:h.get? x=some (PySem.W.instObj C dx)
 ns:h.Ns1 dx mA
 ne:dx≠x
theorem RU{dx:Addr}{mA:Str→Option Value}(n:h.Ns1 dx mA):∃od,h.get? dx=some od∧∀name,PySem.W.lookIn name od=some (mA name):=by
 obtain⟨o,es,ep,ho,hd,hk,_,hm⟩:=n;refine⟨o,ho,λname=>?_⟩;have e:=hm name;unfold nsFind findBy at e;rw[← Array.find?_toList]at e;unfold PySem.W.lookIn;rw[hd];dsimp only;split
 ·rename_i y q
  rw[q]at e;exact ao some e
 ·rename_i q
  rw[q]at e;have a:es.toList.any (·.refKey)=false:=by
   rw[List.any_eq_false];intro y hy;obtain⟨z,t,RV⟩:=hk y (Array.mem_toList_iff.mp hy);simp[DictEntry.refKey,RV]
  have a':¬es.toList.any (·.refKey)=true:=by rw[a];exact ic
  rw[ah a'];exact ao some e
theorem D0.look{x dx C:Addr}{mA:Str→Option Value}(I:D0 h x dx C mA):∃od,PySem.W.InstAt h x (PySem.W.instObj C dx) C (some od)∧∀name,PySem.W.lookIn name od=some (mA name):=
 let ⟨od,ho,hl⟩:=RU I.ns
 ⟨od,⟨I.obj,rfl,rfl,ho⟩,hl⟩
section
variable{prog:Program}{w:World}{A:Around}{E:QV}{s:Shared}{K:Frag}{x dx C f:Addr}{mA:Str→Option Value}{name:Str}{v:Value}
end
theorem nT.some_of{o:Option Value}(r:nT (some v) o):∃u,o=some u∧RelV v u:=by
 cases o with
 |none=>exact(show False from r).elim
 |some u=>exact⟨u,rfl,r⟩
section
variable{P:Program}{w:World}{H H':Hp}{h h':Heap}{a C dx:Addr}{fs Dx:List (Str×V)}
theorem RW(bQ:dy P w H h)(e:H a=some (.ins C dx fs)):∃mA,D0 h a dx C mA∧(∀f,nT (fs.lookup f) (mA f))∧PySem.Within mA (fs.map (·.1))∧fs.length≤1000∧H dx=some (.own a):=by
 obtain⟨d,z,ne,ob,mA,n,r,q⟩:=(show eB P w H h a (.ins C dx fs) from bQ a _ e)
 exact⟨mA,⟨ob,n,ne⟩,r,q,z,d⟩
end
structure D3(K:Frag)(C:Addr):Prop where
 pg:PySem.W.plainGet K C Str.empty=true
 hd:PySem.W.hasDictIn K C=true
 po:PySem.W.plainOver K C=true
 sa:PySem.W.findIn K (.ref C) "__setattr__"=some (some (.builtin "object.__setattr__"))
theorem D3.get{K:Frag}{C:Addr}(c:D3 K C)(f:Str):PySem.W.plainGet K C f=true:=c.pg
section
variable{X:Cx}{aK:List (Addr×Obj)}{σ:St}{H:Hp}{s:Shared}{a C dx:Addr}{fs:List (Str×V)}{f:Str}{v:V}{A:Around}{E:QV}
end
section
variable{X:Cx}{o e value:Expr}{f:Str}{pos nW RX:Pos}{ta tv:TE}
end
section
variable{X:Cx}{aK:List (Addr×Obj)}{σ:St}{H:Hp}{s:Shared}{A:Around}{E:QV}{Q:QV}{c:Value}{b:Bool}
inductive l7(K:Frag)(H:Hp):V→Value→Prop where
 |cE:l7 K H .cE (.type "NoneType")
 |bl (x:Bool):l7 K H (.bl x) (.type "bool")
 |int (i:Int):l7 K H (.int i) (.type "int")
 |str (x:Str):l7 K H (.str x) (.type "str")
 |uN (x:UInt64):l7 K H (.uN x) (.type "float")
 |lst {a:Addr} {xs:List V} (e:H a=some (.lst xs)):l7 K H (.ref a) (.type "list")
 |jg {a:Addr} {o:Obj} {xs:List V} (e:H a=some (.jg o (.lst xs))):l7 K H (.ref a) (.type "list")
 |tup {a:Addr} {xs:List V} (e:H a=some (.tup xs)):l7 K H (.ref a) (.type "tuple")
 |dK {a:Addr} {aZ:List (Key×V)} (e:H a=some (.dK aZ)):l7 K H (.ref a) (.type "dict")
 |dT {a:Addr} {aZ:List (List Key×V)} (e:H a=some (.dT aZ)):l7 K H (.ref a) (.type "dict")
 |ins {a C dx:Addr} {fs:List (Str×V)} (e:H a=some (.ins C dx fs)) (cl:D3 K C) (ha:PySem.W.findIn K (.ref C) "__class__"=some (some (.builtin "object.__class__")))
   (hn:PySem.W.specialIn K (.builtin "object.__class__") "__get__"=some (some (.builtin "getset_descriptor.__get__"))) (xh:PySem.W.takesIn K (.builtin "object.__class__")=some true)
   (hm:PySem.W.mroIn K C (.type "object")=some true):l7 K H (.ref a) (.ref C)
theorem Jy{x:V}{t:Value}(I:Inv X aK σ H s)(rx:RelV x u)(ty:l7 X.K H x t)(e:kitOne X.K t c=some b)(h:∀tk,Q (.bool b) { s with toks:=tk }) :
  wpAny (model X.prog X.w) A (call (.builtin "isinstance") [u,c]) Q E s:=by
 cases ty with
 |cE=>cases(show u=Value.none from rx);exact oT PySem.W.kitx_none I.fh True.intro e (λz=>nomatch z) h
 |bl y=>cases(show u=Value.bool y from rx);exact oT PySem.W.kitx_bool I.fh True.intro e (λz=>nomatch z) h
 |int i=>obtain⟨t,q⟩:=(show ∃t,u=Value.int i t from rx);cases q;exact oT PySem.W.kitx_int I.fh True.intro e (λz=>nomatch z) h
 |str y=>obtain⟨t,q⟩:=(show ∃t,u=Value.str y t from rx);cases q;exact oT PySem.W.kitx_str I.fh True.intro e (λz=>nomatch z) h
 |uN y=>obtain⟨t,q⟩:=(show ∃t,u=Value.float y t from rx);cases q;exact oT PySem.W.kitx_float I.fh True.intro e (λz=>nomatch z) h
 | @lst a xs ea=>
  cases(show u=Value.ref a from rx)
  obtain⟨_,_,n,_,h1⟩:=(show eB X.prog X.w H s.heap a (.lst xs) from I.bQ a _ ea)
  exact oT PySem.W.kitx_list I.fh ⟨_,h1,rfl⟩ e (λz=>nomatch z) h
 | @jg a ob xs ea=>
  cases(show u=Value.ref a from rx)
  obtain⟨_,_,_,n,_,h1⟩:=(show eB X.prog X.w H s.heap a (.jg ob (.lst xs)) from I.bQ a _ ea)
  exact oT PySem.W.kitx_list I.fh ⟨_,h1,rfl⟩ e (λz=>nomatch z) h
 | @tup a xs ea=>
  cases(show u=Value.ref a from rx)
  obtain⟨_,_,_,p⟩:=(show eB X.prog X.w H s.heap a (.tup xs) from I.bQ a _ ea)
  obtain⟨o,h1,h2,_⟩:=p;exact oT PySem.W.kitx_tuple I.fh ⟨o,h1,h2⟩ e (λz=>nomatch z) h
 | @dK a aZ ea=>
  cases(show u=Value.ref a from rx)
  obtain⟨_,_,vs,_,p⟩:=(show eB X.prog X.w H s.heap a (.dK aZ) from I.bQ a _ ea)
  obtain⟨o,es,ep,h1,h2,_⟩:=p;exact oT PySem.W.kitx_dict I.fh ⟨o,h1,h2.1⟩ e (λz=>nomatch z) h
 | @dT a aZ ea=>
  cases(show u=Value.ref a from rx)
  obtain⟨_,_,xs,_,o,es,ep,h1,h2,_⟩:=(show eB X.prog X.w H s.heap a (.dT aZ) from I.bQ a _ ea)
  exact oT PySem.W.kitx_dict I.fh ⟨o,h1,h2.1⟩ e (λz=>nomatch z) h
 | @ins a C dx fs ea cl ha hn xh hm=>
  cases(show u=Value.ref a from rx)
  obtain⟨mA,O,_⟩:=RW I.bQ ea;obtain⟨od,J,_⟩:=O.look;exact oT (PySem.W.kitx_own (cl.get _) cl.hd ha hn xh hm) I.fh J e (λz=>nomatch z) h
end
structure dv(k:Nat)(A:Around):Prop where
 hd:A.handled=none
 dp:A.depth+3*k+5<recursionLimit
 un:A.units+16*k+200<cLine
theorem dv.mono{j k:Nat}(r:dv k A)(h:j≤k):dv j A:=⟨r.hd,by have:=r.dp;lia,by have:=r.un;lia⟩
theorem dv.deeper{k:Nat}{A:Around}(r:dv (k+1) A)(env:Env):dv k (A.deeper env):=
 ⟨r.hd,by have:=r.dp;show A.depth+1+3*k+5<_;lia,by have:=r.un;show A.units+3+16*k+200<_;lia⟩
theorem dv.depth{k:Nat}{A:Around}(r:dv k A):A.depth<recursionLimit:=by have:=r.dp;lia
theorem dv.units{k:Nat}{A:Around}(r:dv k A):A.units+64<cLine:=by have:=r.un;lia
def bq:TA:=λ_ H Q=>Q [] H
def aX(ta:TE)(tr:TA):TA:=λσ H Q=>ta σ H λx H1=>tr σ H1 λxs H2=>Q (x::xs) H2
section
variable{X:Cx}{e:Expr}{es:List Expr}{te:TE}{t:TA}{pos:Pos}
theorem aU:PA X [] bq:=λ_ _ _ _ H Q I h=>Calls.spliced_nil ⟨[],H,I,.nil,h⟩
theorem aN(ha:PE X e te)(hr:PA X es t)(hs:starEach (e::es) X.env=(false,eval e X.env)::starEach es X.env:=by rfl):PA X (e::es) (aX te t):=by
 intro pos aK s σ H Q I h;rw[hs];show wpAny _ _ (spliced ((false,eval e X.env)::backTo pos (starEach es X.env))) _ _ s;refine Calls.spliced_cons (bt (ha aK s σ H _ I h) λu s1 ⟨x,H1,I1,r1,q1⟩=>?_);exact bt (hr pos aK s1 σ H1 _ I1 q1) λus s2 ⟨xs,H2,I2,r2,q2⟩=>⟨x::xs,H2,I2,.cons r1 r2,q2⟩
def eC(t:TA):TE:=λσ H Q=>t σ H λxs H1=>xs.length≤sizeLine∧∀p,H1 p=none→Q (.ref p) (upd H1 p (.tup xs))
def iL(t:TA):TE:=λσ H Q=>t σ H λxs H1=>xs.length≤sizeLine∧∀p,H1 p=none→Q (.ref p) (upd H1 p (.lst xs))
theorem cI{x1}(h:PA X es t):PE X (.Tuple es x1 pos) (eC t):=by
 intro aK s σ H Q I hq;refine wpAny_Tuple_spliced (bt (h pos aK s σ H _ I hq) λus s1 ⟨xs,H1,I1,r,z,q⟩=>⟨by rw[← r.length];exact z,?_⟩);have hf:H1 s1.heap.objs.size=none:=I1.bQ.fresh (cC _);refine⟨.ref s1.heap.objs.size,upd H1 s1.heap.objs.size (.tup xs),I1.laid (t':=s1.toks) (λb u e=>eh _ e) (cC _) ?_,rfl,q _ hf⟩;exact⟨z,us,r,⟨_,iW _ rfl,rfl,rfl,_,rfl⟩⟩
theorem gK(h:PA X es t):PE X (.List es pos) (iL t):=by
 intro aK s σ H Q I hq;refine wpAny_List_spliced (bt (h pos aK s σ H _ I hq) λus s1 ⟨xs,H1,I1,r,z,q⟩=>⟨by rw[← r.length];exact z,?_⟩);have hf:H1 s1.heap.objs.size=none:=I1.bQ.fresh (cC _);refine⟨.ref s1.heap.objs.size,upd H1 s1.heap.objs.size (.lst xs),I1.laid (t':=s1.toks) (λb u e=>eh _ e) (cC _) ?_,rfl,q _ hf⟩;exact⟨z,us,0,r,iW _ rfl⟩
end
abbrev Sp:=List V→Hp→VK→XK→Prop
abbrev n9:=List Env→Hp→Shared→XK→Value→Shared→Prop
structure uU(P:Program)(w:World)(K:Frag)(mg:Str→Option Value)(base:Heap)(A:Around)(outer:List Env)(s:Shared)(H:Hp):Prop where
 frames:A.frames=some outer
 mod:Mod K mg base
 bs:∀b o,base.get? b=some o→s.heap.get? b=some o∧H b=none
 pW:base.objs.size≤s.heap.objs.size
 lY:s.heap.FunFrames base outer
 qO:∀b∈fq outer,H b=none
 bQ:dy P w H s.heap
 bare:AllBare s.gens
def CE(outer:List Env)(P:Program)(w:World)(H:Hp)(s:Shared)(Q:VK)(u:Value)(s':Shared):Prop:=
 ∃v H',s'.os=s.os∧AllBare s'.gens∧Un (fq outer) [] H H' s.heap s'.heap∧dy P w H' s'.heap∧RelV v u∧Q v H'
def CR(CX:n9)(outer:List Env)(P:Program)(w:World)(H:Hp)(s:Shared)(Q:VK)(E:XK)(r:Result)(s':Shared):Prop:=
 match r with
 | .ok (.ret u)=>CE outer P w H s Q u s'
 | .ok _=>False
 | .error e=>CX outer H s E e s'
structure bz(P:Program)(w:World)(K:Frag)(mg:Str→Option Value)(base:Heap)(CX:n9)(k:Nat)(f:Addr)(fd:FuncData)(ps:List Str)(sp:Sp):Prop where
 len:∀vs H Q E,sp vs H Q E→vs.length=ps.length
 run:∀(A:Around)(outer:List Env)(s:Shared)(H:Hp)(args:Args)(us:List Value)(vs:List V)(Q:VK)(E:XK),dv k A→uU P w K mg base A outer s H→BindsTo s fd args (ps.zip us)→Vals vs us→sp vs H Q E→
  codeAny (model P w) A (.call (.ref f) args) (CR CX outer P w H s Q E) s
theorem bz.mono{P:Program}{w:World}{K:Frag}{mg:Str→Option Value}{base:Heap}{CX:n9}{j k:Nat}{f:Addr}{fd:FuncData}{ps:List Str}{sp:Sp}(F:bz P w K mg base CX j f fd ps sp)(h:j≤k) :
  bz P w K mg base CX k f fd ps sp:=⟨F.len,λA outer s H args us vs Q E hr=>F.run A outer s H args us vs Q E (hr.mono h)⟩
section
variable{X:Cx}{aK:List (Addr×Obj)}{σ:St}{H:Hp}{s s':Shared}
theorem Inv.zO(I:Inv X aK σ H s):uU X.prog X.w X.K X.mg X.base X.A X.stack s H:=
 ⟨I.ok.frames,I.ok.mod,I.bs,gp I.ok.pW I.sz,I.stack,I.zA,I.bQ,I.bare⟩
theorem Inv.after{Q:VK}(I:Inv X aK σ H s)(h:CE X.stack X.prog X.w H s Q u s'):EP X aK σ Q u s':=by
 obtain⟨v,H',os,bare,un,bQ,r,q⟩:=h;obtain⟨hh,g,d,t,RY⟩:=s';obtain rfl:RY=s.os:=os;exact⟨v,H',I.call (h':=hh) (g':=g) (d':=d) (t':=t) (ch:=[]) un bQ bare (λb z=>absurd z (by simp)),r,q⟩
end
def e9(sp:Sp)(iM:List V)(E:XK)(t:TA):TE:=λσ H Q=>t σ H λvs H1=>sp (vs++iM) H1 Q E
def Binds(K:Frag)(fd:FuncData)(ps:List Str)(ds:List Value):Prop:=
 ∀(s:Shared)(us:List Value),K.In s.heap→(us++ds).length=ps.length→BindsTo s fd ⟨us,[]⟩ (ps.zip (us++ds))
theorem Binds.all{K:Frag}{fd:FuncData}{ps:List Str}(h:∀us:List Value,us.length=ps.length→bindArgs fd ⟨us,[]⟩=pure (ps.zip us)):Binds K fd ps []:=λs us _ hl=>by
 rw[ij]at hl ⊢;exact .of_eq (h us hl)
def Passes(CX:n9)(X:Cx)(E:XK):Prop:=∀(aK:List (Addr×Obj))(σ:St)(H:Hp)(s:Shared)(e:Value)(s':Shared),Inv X aK σ H s→CX X.stack H s E e s'→X.xe e s'
section
variable{X:Cx}{CX:n9}{k:Nat}{f C:Addr}{fd:FuncData}{ps:List Str}{sp:Sp}{iM:List V}{ds:List Value}{E:XK}{x m:Str}{p pos ji:Pos}{e o:Expr}{es:List Expr}{ta:TE}{t:TA}
theorem RZ{Q:VK}{vs:List V}(F:bz X.prog X.w X.K X.mg X.base CX k f fd ps sp)(hr:dv k X.A)(hb:Binds X.K fd ps ds)(hd:Vals iM ds)(hx:Passes CX X E)
  (I:Inv X aK σ H s) (r:Vals vs us) (h:sp (vs++iM) H Q E):wpAny (model X.prog X.w) X.A (call (.ref f) us) (EP X aK σ Q) X.xe s:=by
 have r2:Vals (vs++iM) (us++ds):=r.append hd;have hl:(us++ds).length=ps.length:=by rw[← r2.length];exact F.len _ _ _ _ h
 refine wpAny_call (codeAny_mono (F.run X.A X.stack s H ⟨us,[]⟩ (us++ds) (vs++iM) Q E hr I.zO (hb s us I.fh hl) r2 h) λr s' hq=>?_);cases r with
 |error e=>exact hx aK σ H s e s' I hq
 |ok fl=>
  cases fl with
  |ret u=>exact I.after hq
  |next=>exact False.elim hq
  |brk=>exact False.elim hq
  |cont=>exact False.elim hq
theorem cQ(F:bz X.prog X.w X.K X.mg X.base CX k f fd ps sp)(hr:dv k X.A)(hg:Gl X x)(hm:X.mg x=some (.ref f))(hk:Kp X.K f)(hb:Binds X.K fd ps ds)(hd:Vals iM ds)(hx:Passes CX X E)
  (ha:PA X (e::es) t) (p5:(x==("__debug__":Str))=false:=by decide) (he:starEach (e::es) X.env=(false,eval e X.env)::starEach es X.env:=by rfl) (iN:(backTo pos (starEach es X.env)).any (·.1)=false:=by rfl) :
  PE X (.Call (.Name x p) (e::es) [] pos) (e9 sp iM E t):=by
 intro aK s σ H Q I h;refine az (xa I hg hm ?_ p5);refine PySem.W.callWith_K (h₀:=X.base) I.ok.mod.pV hk (bt (ha pos aK s σ H _ I h) λus s1 ⟨vs,H1,I1,r,q⟩=>⟨I1.fh,?_⟩) he iN;exact RZ F hr hb hd hx I1 r q
end
section
variable{X:Cx}{CX:n9}{k:Nat}{f C:Addr}{fd:FuncData}{ps ks:List Str}{sp:Sp}{E:XK}{x m:Str}{p pos ji abM:Pos}{e o:Expr}{es:List Expr}{kws:List Keyword}{te ta:TE}{t tk:TA}{nm:Option Str}
variable{g:List Value→List Value→List Value}{gV:List V→List V→List V}
end
structure c8(N P:List Str)(sc:Scope):Prop where
 kind:sc.kind=.function
 co:sc.isCoroutine=false
 gen:sc.isGenerator=false
 nd:N.Nodup
 pre:N.take P.length=P
 par:∀x∈P,sc.names.lookup x=some .local∨sc.names.lookup x=some .cell
 R0:∀y∈sc.names,y.2≠.free
theorem dz{N P:List Str}{sc:Scope}(a:sc.kind=.function)(b:sc.isCoroutine=false)(c:sc.isGenerator=false)(h:N.Nodup∧(∀x∈P,sc.names.lookup x=some .local∨sc.names.lookup x=some .cell)∧∀y∈sc.names,y.2≠.free)(e:N.take P.length=P):c8 N P sc:=⟨a,b,c,h.1,e,h.2.1,h.2.2⟩
theorem Jz{kindOf:Str→Option NameKind}{x:Str}:∀{binds:List (Str×Value)}{m:Str→Option Value},(∀v,(x,v) ∉ binds)→bindL kindOf binds m x=m x
 | [],_,_=>rfl
 |(n,v)::r,m,h=>by
  unfold bindL;rw[Jz λw hw=>h w (gq _ hw)];split
  ·have:x≠n:=by rintro rfl;exact h v dj
   simp[this]
  ·rfl
theorem JA{kindOf:Str→Option NameKind}{x:Str}:∀{binds:List (Str×Value)}{m:Str→Option Value},(∀v,(x,v) ∉ binds)→bindC kindOf binds m x=m x
 | [],_,_=>rfl
 |(n,v)::r,m,h=>by
  unfold bindC;rw[JA λw hw=>h w (gq _ hw)];split
  ·rfl
  ·have:x≠n:=by rintro rfl;exact h v dj
   simp[this]
theorem JB{kindOf:Str→Option NameKind}{x:Str}{v:Value}:∀{P:List Str}{vs:List Value}{i:Nat}{m:Str→Option Value},P.Nodup→P[i]?=some x→vs[i]?=some v→kindOf x=some .local→
  bindL kindOf (P.zip vs) m x=some v
 | [],_,_,_,_,h,_,_=>by simp at h
 |_::_,[],_,_,_,_,h,_=>by simp at h
 |p::P,w::vs,0,m,nd,h1,h2,hk=>by
  simp at h1 h2;subst h1;subst h2;show bindL kindOf ((p,w)::P.zip vs) m p=_;unfold bindL;rw[Jz λv hv=>(List.nodup_cons.mp nd).1 (wK hv).1,ae hk];simp
 |p::P,w::vs,i+1,m,nd,h1,h2,hk=>by
  show bindL kindOf ((p,w)::P.zip vs) m x=_;unfold bindL;exact JB (i:=i) (List.nodup_cons.mp nd).2 (by simpa using h1) (by simpa using h2) hk
theorem JC{kindOf:Str→Option NameKind}{x:Str}{v:Value}:∀{P:List Str}{vs:List Value}{i:Nat}{m:Str→Option Value},P.Nodup→P[i]?=some x→vs[i]?=some v→kindOf x≠some .local→
  bindC kindOf (P.zip vs) m x=some v
 | [],_,_,_,_,h,_,_=>by simp at h
 |_::_,[],_,_,_,_,h,_=>by simp at h
 |p::P,w::vs,0,m,nd,h1,h2,hk=>by
  simp at h1 h2;subst h1;subst h2;show bindC kindOf ((p,w)::P.zip vs) m p=_;unfold bindC;rw[JA λv hv=>(List.nodup_cons.mp nd).1 (wK hv).1,ah hk];simp
 |p::P,w::vs,i+1,m,nd,h1,h2,hk=>by
  show bindC kindOf ((p,w)::P.zip vs) m x=_;unfold bindC;exact JC (i:=i) (List.nodup_cons.mp nd).2 (by simpa using h1) (by simpa using h2) hk
noncomputable def start(N:List Str)(vs:List V):St:=vs.map some++List.replicate (N.length-vs.length) none
noncomputable def jL(CX:n9)(P:Program)(w:World)(K:Frag)(mg:Str→Option Value)(base:Heap)(N:List Str)(qual:Str)(scope:Scope)(f:Addr)(cd:Value)(A:Around)(outer:List Env)(s:Shared)(H:Hp)(E:XK):Cx where
 prog:=P
 w:=w
 K:=K
 mg:=mg
 base:=base
 A:=A.deeper (envOfC qual scope s.heap.objs.size f cd)
 N:=N
 s₀:=s
 H₀:=H
 env:=envOfC qual scope s.heap.objs.size f cd
 outer:=outer
 stack:=envOfC qual scope s.heap.objs.size f cd::outer
 ex:=[]
 calm:=true
 fn:=λ_=>true
 pn:=[]
 xe:=λe s'=>wpAny (model P w) (A.deeper (envOfC qual scope s.heap.objs.size f cd)) (leaving (envOfC qual scope s.heap.objs.size f cd) e) (λ_ l8=>CX outer H s E e l8) (λe' l8=>CX outer H s E e' l8) s'
theorem D4{sc:Scope}{n:Nat}(h:sc.names.lookup x=some .cell):∃c,(cellsFrom n sc.names []).lookup x=some c:=by
 have q:=Dr sc.names n [] (.inl h);exact zp.mp q
theorem D5{CX:n9}{P:Program}{w:World}{K:Frag}{mg:Str→Option Value}{base:Heap}{N ps:List Str}{qual:Str}{scope:Scope}{f:Addr}{cd:Value}{outer:List Env}{s1:Shared}{E:XK}{vs:List V}
  (S:c8 N ps scope) (hd:A.handled=none) (e0:uU P w K mg base A outer s H) (hl:vs.length=ps.length) (r:Vals vs us)
  (x:InCallC s s.heap.objs.size (bindL (envOfC qual scope s.heap.objs.size f cd).kindOf (ps.zip us) λ_=>none) (cellsFrom (s.heap.objs.size+1) scope.names []) (bindC (envOfC qual scope s.heap.objs.size f cd).kindOf (ps.zip us) λ_=>none) s1) :
  Inv (jL CX P w K mg base N qual scope f cd A outer s H E) [] (start N vs) H s1:=by
 have iN:ps.length≤N.length:=by have:=ao List.length S.pre;rw[da]at this;lia
 obtain⟨h1,tk,rfl,hk⟩:=x.done;have sW:∀b:Addr,b ∉ (jL CX P w K mg base N qual scope f cd A outer s H E).ex:=λb z=>absurd (show b∈([]:List Addr) from z) (by simp)
 refine⟨⟨e0.mod,S.kind,rfl,rfl,cC _,λy z c h1 h2=>?_,λy hy=>?_,λy c _ h=>?_,λ_=>hd,Around.frames_deeper e0.frames,.inr ⟨rfl,rfl⟩,λb z=>absurd z (sW b),e0.bs,e0.pW,λb _ _=>sW b,λb z=>absurd z (sW b),e0.lY,e0.qO⟩,
  rfl,e0.bare,Un.kept hk,⟨_,x.toInCall.ns,λi y v h1 h2 h3=>?_⟩,λy c h=>⟨_,x.cell y c h⟩,e0.bQ.fresh (cC _),λy c h=>?_,λp hp=>absurd (show p∈([]:List (Addr×Obj)) from hp) (by simp),e0.bQ.kept hk,?_⟩
 ·exact name_of_addr x.apart (oU h1) (oU h2)
 ·have hy:scope.names.lookup y=some .cell∨scope.names.lookup y=some .free:=hy;rcases hy with hy|hy
  ·exact D4 hy
  ·exact absurd rfl (S.R0 _ (oU hy))
 ·exact pR (x.above y c (oU h))
 ·have hi:i<vs.length:=by
   unfold start at h2;by_cases hi:i<vs.length
   ·exact hi
   ·rw[iK (by simpa using hi)]at h2;rw[wL]at h2;split at h2<;>cases h2
  have ha:vs[i]?=some v:=by
   unfold start at h2;rw[ip (by simpa using hi),eU]at h2;cases e:vs[i]? with
   |none=>rw[e]at h2;cases h2
   |some a=>rw[e]at h2;cases h2;rfl
  obtain⟨u,hu,rv⟩:=r.get ha;have hp:ps[i]?=some y:=by
   rw[← S.pre,List.getElem?_take_of_lt (by lia)];exact h1
  have JD:ps.Nodup:=by rw[← S.pre];exact S.nd.sublist (List.take_sublist _ _)
  refine⟨u,rv,?_⟩;rcases S.par y (gT hp)with k|k
  ·exact .inl ⟨k,JB JD hp hu k⟩
  ·obtain⟨c,e⟩:=D4 (n:=s.heap.objs.size+1) k;refine .inr ⟨.inl k,c,e,?_⟩;have q:=x.cell y c e;rw[JC JD hp hu (by show scope.names.lookup y≠_;rw[k];decide)]at q;exact q
 ·exact e0.bQ.fresh (pR (x.above y c (oU h)))
 ·unfold start;show _=N.length;rw[cq,bI,eV];lia
theorem D6{CX:n9}{P:Program}{w:World}{K:Frag}{mg:Str→Option Value}{base:Heap}{k:Nat}{f:Addr}{name qual:Str}{params:Arguments}{scope:Scope}{dV kV doc pm bZ ct oc:Value}{an od:Option Addr}
  {ma:Array (Option Value)} {N ps:List Str} {sp:Sp} (lk:K.lookup f=some ⟨oc,od,.func (fnOf name qual params body scope dV kV doc pm an bZ ct),ma⟩) (gZ:PySem.W.codeIn K bZ qual=true) (S:c8 N ps scope)
  (len:∀vs H Q E,sp vs H Q E→vs.length=ps.length)
  (oa:∀(A:Around)(outer:List Env)(s:Shared)(H:Hp)(vs:List V)(Q:VK)(E:XK),dv k (A.deeper (envOfC qual scope s.heap.objs.size f bZ))→sp vs H Q E→
   ∃t,jh (jL CX P w K mg base N qual scope f bZ A outer s H E) body t∧t { nx:=λ_ H'=>Q .cE H',rt:=Q } (start N vs) H) :
  bz P w K mg base CX (k+1) f (fnOf name qual params body scope dV kV doc pm an bZ ct) ps sp:=by
 refine⟨len,λA outer s H args us vs Q E hr e0 hb r jj=>?_⟩;have hl:=len _ _ _ _ jj;have KX:K.In s.heap:=e0.mod.pV.keeps λb o e=>(e0.bs b o e).1;have sX:s.heap.NoLimit:=e0.mod.nolimit.keeps λb o e=>(e0.bs b o e).1;have xi:∀y∈ps.zip us,scope.names.lookup y.1=some .local∨(scope.names.lookup y.1=some .cell∧((cellsFrom (s.heap.objs.size+1) scope.names []).lookup y.1).isSome=true):=λ⟨n,v⟩ hy=>by
  rcases S.par n (wK hy).1 with q|q
  ·exact .inl q
  ·exact .inr ⟨q,Dr _ _ _ (.inl q)⟩
 refine codeAny_call_function hr.depth (KX _ _ lk) rfl S.co S.gen rfl (PySem.W.codeRec_of KX gZ) (hb _ _ _ _ ?_);refine aA S.kind xi λenv he s1 x=>?_;subst he;refine⟨sX.keeps x.toInCall.keep,codeAny_func ?_⟩;obtain⟨t,ht,hq⟩:=oa A outer s H vs Q E (hr.deeper _) jj;have I:Inv (jL CX P w K mg base N qual scope f bZ A outer s H E) [] (start N vs) H s1:=D5 S hr.hd e0 hl r x;refine ai (ht [] s1 (start N vs) H _ I hq) (λfl s' hs=>?_) λe s' hs=>hs;have fin:∀{σ':St}{H':Hp}{v:V}{u:Value},Inv (jL CX P w K mg base N qual scope f bZ A outer s H E) [] σ' H' s'→RelV v u→Q v H'→CE outer P w H s Q u s':=
  λ{σ' H' v u} J rv q=>⟨v,H',J.os,J.bare,J.base,J.bQ,rv,q⟩
 cases fl with
 |ret u=>
  obtain⟨v,σ',H',J,rv,q⟩:=hs;exact fin J rv q
 |next=>
  obtain⟨σ',H',J,q⟩:=hs;exact fin (v:=V.cE) (u:=Value.none) J rfl q
 |brk=>
  obtain⟨_,_,_,q⟩:=hs;exact False.elim q
 |cont=>
  obtain⟨_,_,_,q⟩:=hs;exact False.elim q
section
variable{X:Cx}{x:Str}{p pos:Pos}{e:Expr}{es:List Expr}{t:TA}{id T:String}{r:List V→Hp→VK→Prop}
def fI(r:List V→Hp→VK→Prop)(t:TA):TE:=λσ H Q=>t σ H λvs H1=>r vs H1 Q
theorem gv(hc:gI X (.builtin id) r)(hg:Gl X x)(hm:X.mg x=none)(hv:bootBuiltins x=some (.builtin id))(ha:PA X (e::es) t)(hn:x ≠ "__name__":=by decide)(p5:(x==("__debug__":Str))=false:=by decide)
  (he:starEach (e::es) X.env=(false,eval e X.env)::starEach es X.env:=by rfl) (iN:(backTo pos (starEach es X.env)).any (·.1)=false:=by rfl):PE X (.Call (.Name x p) (e::es) [] pos) (fI r t):=by
 intro aK s σ H Q I h;refine az (sJ I hg hm hv ?_ hn p5);exact PyProof.Rows.callWith_builtin1 (bt (ha pos aK s σ H _ I h) λus s1 ⟨vs,H1,I1,r1,q1⟩=>hc aK s1 σ H1 vs us Q I1 r1 q1) he iN
theorem iX(hc:gI X (.type T) r)(hg:Gl X x)(hm:X.mg x=none)(hv:bootBuiltins x=some (.type T))(ha:PA X (e::es) t)(hn:x ≠ "__name__":=by decide)(p5:(x==("__debug__":Str))=false:=by decide)
  (he:starEach (e::es) X.env=(false,eval e X.env)::starEach es X.env:=by rfl) (iN:(backTo pos (starEach es X.env)).any (·.1)=false:=by rfl):PE X (.Call (.Name x p) (e::es) [] pos) (fI r t):=by
 intro aK s σ H Q I h;refine az (sJ I hg hm hv ?_ hn p5);exact Dq (bt (ha pos aK s σ H _ I h) λus s1 ⟨vs,H1,I1,r1,q1⟩=>hc aK s1 σ H1 vs us Q I1 r1 q1) he iN
end
end L2
namespace HT
open PySem PyProof.Rows
section
open PySem.SeqAt
open PySem.AutoSeq1 (wpAny_loadPart')
open PySem.MeetsSeq PySem.MeetsSeq2 PySem.MeetsSeq3
end
section
variable{prog:Program}{w:World}{A:Around}{E:QV}{s:Shared}
theorem R1{t b:Addr}{vs ws:List Value}{Q:QV}(ht:IsTup s.heap t vs.toArray)(hb:IsTup s.heap b ws.toArray)(hv:vs≠[])
  (h1:ws=[]→Q (.ref t) s) (h2:ws≠[]→Q (.ref s.heap.objs.size) { s with heap:=s.heap.push { cls:=.type "tuple",data:=.seq (vs++ws).toArray } })
  (hsz:vs.length+ws.length≤sizeLine):wpAny (model prog w) A (binaryOp .Add (.ref t) (.ref b)) Q E s:=by
 obtain⟨⟨cls,dd,data,sl⟩,ho,hc,n,hd⟩:=id ht;obtain⟨⟨abN,zP,data2,zQ⟩,sY,sZ,n2,JE⟩:=id hb;simp only at hc hd sZ JE;subst hc hd sZ JE;have e:vs.toArray++ws.toArray=(vs++ws).toArray:=by simp
 by_cases hw:ws=[]
 ·exact concat_meets ⟨_,ho,rfl⟩ ⟨_,sY,rfl⟩ noFill_tuple_add seq_tuple_add PySem.F.slot_tuple_add PySem.F.entry_tuple_add (PySem.F.args_tuple_add_2 _ _)
   (tuple_addW1 t b vs.toArray ws.toArray n n2 dd zP sl zQ (by simpa using hv) (by simp[hw])) ⟨ho,sY,h1 hw⟩
 ·refine concat_meets ⟨_,ho,rfl⟩ ⟨_,sY,rfl⟩ noFill_tuple_add seq_tuple_add PySem.F.slot_tuple_add PySem.F.entry_tuple_add (PySem.F.args_tuple_add_2 _ _)
   (tuple_addW2 t b vs.toArray ws.toArray n n2 dd zP sl zQ (by simpa using hv) (by simpa using hw) (by rw[dP,dP];exact hsz)) ⟨ho,sY,?_⟩
  rw[e];exact h2 hw
noncomputable def cK(n d:Nat):Option Int→Nat
 |none=>d
 |some v=>if v<0 then(v+(n:Int)).toNat else min v.toNat n
theorem zR(n d:Nat):cK n d none=d:=rfl
theorem uV(n d k:Nat):cK n d (some (k:Int))=min k n:=by
 show(if(k:Int)<0 then((k:Int)+(n:Int)).toNat else min (k:Int).toNat n)=min k n
 rw[ah (by lia),Int.toNat_natCast]
theorem R3(n d:Nat)(hd:d≤n)(o:Option Int):cK n d o≤n:=by
 cases o with
 |none=>exact hd
 |some v=>
  show(if v<0 then(v+(n:Int)).toNat else min v.toNat n)≤n
  by_cases hv:v<0
  ·rw[ae hv];lia
  ·rw[ah hv];exact Nat.min_le_right _ _
theorem JF(v:Int)(n d:Nat):(if v<0 then max (v+(n:Int)) 0 else min v (n:Int))=((cK n d (some v):Nat):Int):=by
 show(if v<0 then max (v+(n:Int)) 0 else min v (n:Int))=(((if v<0 then(v+(n:Int)).toNat else min v.toNat n):Nat):Int)
 by_cases hv:v<0
 ·simp only[ae hv];lia
 ·simp only[ah hv];lia
theorem R4(lo hi:Option Int)(n:Nat):Builtin.Slice.sliceAdjust lo hi 1 (n:Int)=(((cK n 0 lo:Nat):Int),((cK n n hi:Nat):Int)):=by
 have h1:¬((1:Int)<0):=by lia
 unfold Builtin.Slice.sliceAdjust;simp only[h1,if_false];refine Prod.ext ?_ ?_
 ·cases lo with
  |none=>rfl
  |some v=>exact JF v n 0
 ·cases hi with
  |none=>rfl
  |some v=>exact JF v n n
theorem R5(i j:Nat):Builtin.Slice.slicePlaces (i:Int) (j:Int) 1=j-i:=by
 unfold Builtin.Slice.slicePlaces;have h1:(1:Int)>0:=by lia
 simp only[h1,if_true,Int.ediv_one];split<;>lia
theorem JG{v:Value}{o:Option Int}{Q:Option Int→Shared→Prop}(p:IsPart v o)(h:Q o s):wpAny (model prog w) A (Builtin.Slice.slicePartIndex v) Q E s:=by
 cases p with
 |none=>exact slicePart_none h
 |int i t=>exact slicePart_int h
theorem JH{sl:Addr}{vl vu:Value}{lo hi:Option Int}{n:Nat}{Q:Int×Int×Nat→Shared→Prop}(hs:s.heap.IsSliceOf sl vl vu .none)(pl:IsPart vl lo)(pu:IsPart vu hi)
  (h:Q (((cK n 0 lo:Nat):Int),1,cK n n hi-cK n 0 lo) s):wpAny (model prog w) A (Builtin.Slice.sliceApplied (.ref sl) (pure (n:Int))) Q E s:=by
 obtain⟨os,tj,zS,xj⟩:=id hs;unfold Builtin.Slice.sliceApplied Builtin.Slice.sliceFields;refine au (au (wpAny_field tj xj (x:=vl) rfl (au (wpAny_field tj xj (x:=vu) rfl (au (wpAny_field tj xj (x:=.none) rfl (ay ?_)))))));refine au (slicePart_none ?_);show wpAny _ _ (if((1:Int)==0)=true then _ else _) _ _ s
 rw[ah (by decide)];refine au (JG pl (au (JG pu (au (ay ?_)))));show wpAny _ _ (match Builtin.Slice.sliceAdjust lo hi 1 (n:Int)with|(lo,hi)=>pure (lo,(1:Int),Builtin.Slice.slicePlaces lo hi 1)) _ _ s
 rw[R4 lo hi n];show wpAny _ _ (pure (((cK n 0 lo:Nat):Int),(1:Int),Builtin.Slice.slicePlaces ((cK n 0 lo:Nat):Int) ((cK n n hi:Nat):Int) 1)) _ _ s;rw[R5];exact ay h
theorem R6(xs:Array Value)(i k:Nat):((List.range k).filterMap λ(m:Nat)=>xs[((i:Int)+(m:Int)*1).toNat]?).toArray=((xs.toList.drop i).take k).toArray:=by
 have e:(λ(m:Nat)=>xs[((i:Int)+(m:Int)*1).toNat]?)=λm=>xs[i+m]?:=by
  funext m
  have:((i:Int)+(m:Int)*1).toNat=i+m:=by lia
  rw[this]
 rw[e]
 have:=pick_run xs i k
 rw[List.filterMap_map]at this;have e2:((λx=>xs[x]?) ∘ λx=>i+x)=λm=>xs[i+m]?:=rfl;rw[e2]at this;rw[this]
theorem R7{t sl:Addr}{items:Array Value}{vl vu:Value}{lo hi:Option Int}{Q:QV}(ht:IsTup s.heap t items)(hs:s.heap.IsSliceOf sl vl vu .none)(pl:IsPart vl lo)(pu:IsPart vu hi)
  (hw:¬(cK items.size 0 lo=0∧cK items.size items.size hi=items.size))
  (h:Q (.ref s.heap.objs.size) { s with heap:=s.heap.push { cls:=.type "tuple",data:=.seq ((items.toList.drop (cK items.size 0 lo)).take (cK items.size items.size hi-cK items.size 0 lo)).toArray } })
  (hsz:items.size≤sizeLine):wpAny (model prog w) A (getItem (.ref t) (.ref sl)) Q E s:=by
 have zT:sizeOk (.seq ((items.toList.drop (cK items.size 0 lo)).take (cK items.size items.size hi-cK items.size 0 lo)).toArray):=by
  show((items.toList.drop (cK items.size 0 lo)).take (cK items.size items.size hi-cK items.size 0 lo)).toArray.size≤sizeLine;rw[dP,da,ff,Array.length_toList];lia
 have hj:cK items.size items.size hi≤items.size:=R3 _ _ (cC _) hi;obtain⟨os,tj,zS,xj⟩:=id hs;have uW:s.TypeIs (.ref sl) "slice":=⟨os,tj,zS⟩;unfold getItem
 try with_reducible refine av ?_
 first|refine au (ay ?_)|skip
 refine au (wpAny_sequenceKey ht.typeIs (by decide) ?_);refine au (aC (name:=Str.ofString "__getitem__") ht.typeIs zq (aD zq ht.typeIs entry_tuple_getitem ?_ (args_tuple_getitem _ _)));show wpAny _ _ (Builtin.Tuple.tupleItemsOf (.ref t) >>= _) _ _ s;refine au (tupleItemsOf_ ht ?_);refine au (wpAny_typeOf uW ?_);rw[ae (by decide)];refine au (JH hs pl pu ?_);have D7:¬((((cK items.size 0 lo:Nat):Int)==0&&(1:Int)==1&&(cK items.size items.size hi-cK items.size 0 lo)==items.size)=true):=by
  intro q;rw[fo,fo]at q;have q1:((cK items.size 0 lo:Nat):Int)=0:=eq_of_beq q.1.1;have q2:cK items.size items.size hi-cK items.size 0 lo=items.size:=eq_of_beq q.2;exact hw ⟨by lia,by lia⟩
 show wpAny _ _ (if(((cK items.size 0 lo:Nat):Int)==0&&(1:Int)==1&&(cK items.size items.size hi-cK items.size 0 lo)==items.size)=true then _ else _) _ _ s
 rw[ah D7,R6];first
  |exact au (m:=Builtin.Tuple.tupleExact _) (aE (ay ⟨_,rfl,ay h⟩) zT)
  |exact au (m:=Builtin.Tuple.tupleExact _) (aE (au (ay (ay ⟨_,rfl,ay h⟩))) zT)
  |exact au (au (m:=Builtin.Tuple.tupleExact _) (aE (ay (ay ⟨_,rfl,ay h⟩)) zT))
  |exact au (au (m:=Builtin.Tuple.tupleExact _) (aE (ay ⟨_,rfl,ay h⟩) zT))
end
end HT
namespace L2
open PySem PySem.Spec PyProof.Rows
variable{its:List Value}{s:Shared}{x:V}{α:Type}
abbrev TO:=St→Hp→(Option Int→Hp→Prop)→Prop
def PO(X:Cx)(e:Option Expr)(t:TO):Prop:=
 ∀(aK:List (Addr×Obj))(s:Shared)(σ:St)(H:Hp)(Q:Option Int→Hp→Prop),Inv X aK σ H s→t σ H Q→
  wpAny (model X.prog X.w) X.A (evalPart e X.env) (λu s'=>∃o H',Inv X aK σ H' s'∧IsPart u o∧Q o H') X.xe s
def iq:TO:=λ_ H Q=>Q none H
def fi(t:TE):TO:=λσ H Q=>t σ H λx H1=>∃i,x=.int i∧Q (some i) H1
section
variable{X:Cx}{e:Expr}{te:TE}{lo hi:Option Expr}{tl th:TO}{pos p2:Pos}
theorem fK:PO X none iq:=by
 intro aK s σ H Q I h;rw[evalPart_none];exact ay ⟨none,H,I,.none,h⟩
theorem dJ(h:PE X e te):PO X (some e) (fi te):=by
 intro aK s σ H Q I hw;rw[evalPart_some];refine bt (h aK s σ H _ I hw) λu s1 ⟨x,H1,I1,r1,q1⟩=>?_;obtain⟨i,rfl,q⟩:=q1;obtain⟨t,rfl⟩:=r1;exact⟨some i,H1,I1,.int i t,q⟩
def tm(X:Cx)(r:V→Option Int→Option Int→Hp→VK→Prop):Prop:=
 ∀(aK:List (Addr×Obj))(s:Shared)(σ:St)(H:Hp)(x:V)(v vl vu:Value)(lo hi:Option Int)(sl:Addr)(Q:VK),Inv X aK σ H s→RelV x v→s.heap.IsSliceOf sl vl vu .none→IsPart vl lo→IsPart vu hi→r x lo hi H Q→
  ∃T id,typeLookup (.type T) "__getitem__"=pure (some (.builtin id))∧s.TypeIs v T∧wpAny (model X.prog X.w) X.A (getItem v (.ref sl)) (EP X aK σ Q) X.xe s
def gw(r:V→Option Int→Option Int→Hp→VK→Prop)(te:TE)(tl th:TO):TE:=λσ H Q=>te σ H λx H1=>tl σ H1 λl H2=>th σ H2 λu H3=>r x l u H3 Q
theorem eQ{r:V→Option Int→Option Int→Hp→VK→Prop}(hr:tm X r)(he:PE X e te)(hl:PO X lo tl)(hu:PO X hi th):PE X (.Subscript e (.Slice lo hi none p2) pos) (gw r te tl th):=by
 intro aK s σ H Q I h;refine Subscript_ (bt (he aK s σ H _ I h) λv s1 ⟨x,H1,I1,r1,q1⟩=>?_);refine wpAny_Slice (bt (hl aK s1 σ H1 _ I1 q1) λvl s2 ⟨l,H2,I2,pl,q2⟩=>bt (hu aK s2 σ H2 _ I2 q2) λvu s3 ⟨u,H3,I3,pu,q3⟩=>?_);rw[evalPart_none];refine ay ?_;have I4:Inv X aK σ H3 { s3 with heap:=s3.heap.push { cls:=.type "slice",data:=.fields #[vl,vu,.none] } }:=I3.kept (t':=s3.toks) λb ob q=>eh _ q;obtain⟨T,id,hT,ht,hg⟩:=hr aK { s3 with heap:=s3.heap.push { cls:=.type "slice",data:=.fields #[vl,vu,.none] } } σ H3 x v vl vu l u s3.heap.objs.size Q I4 r1 (Heap.IsSliceOf.new ..) pl pu q3;show wpAny (model X.prog X.w) X.A (subscriptTail e (.Slice lo hi none p2) v (.ref s3.heap.objs.size)) (EP X aK σ Q) X.xe { s3 with heap:=s3.heap.push { cls:=.type "slice",data:=.fields #[vl,vu,.none] } };exact tail_any (ops:=[.ref s3.heap.objs.size,v]) ht hT hg (by with_unfolding_all rfl)
noncomputable def iY(xs:List V)(lo hi:Option Int):List V:=(xs.drop (HT.cK xs.length 0 lo)).take (HT.cK xs.length xs.length hi-HT.cK xs.length 0 lo)
theorem JI(xs:List V)(lo hi:Option Int):(iY xs lo hi).length≤xs.length:=by
 unfold iY;rw[da,ff];lia
def zU(K:Frag):V→Option Int→Option Int→Hp→VK→Prop:=λx lo hi H Q=>∃a xs,x=.ref a∧bh K H a xs∧
 ¬(HT.cK xs.length 0 lo=0∧HT.cK xs.length xs.length hi=xs.length)∧∀p,H p=none→Q (.ref p) (upd H p (.tup (iY xs lo hi)))
theorem JJ:tm X (zU X.K):=by
 intro aK s σ H x v vl vu lo hi sl Q I rx hs pl pu h;obtain⟨a,xs,rfl,hx,hw,q⟩:=h;cases rx;obtain⟨its,r,ht,hz⟩:=I.tuple hx;have cJ:its.toArray.size=xs.length:=by rw[dP];exact r.length.symm
 refine⟨"tuple",_,zq.lookup,ht.typeIs,?_⟩;refine HT.R7 ht hs pl pu (by rw[cJ];exact hw) ?_ (by rw[cJ];exact hz);rw[cJ];refine⟨.ref s.heap.objs.size,_,I.laid (t':=s.toks) (o:=.tup (iY xs lo hi)) (λb ob q=>eh _ q) (cC _) ?_,rfl,q _ (I.bQ.fresh (cC _))⟩;exact⟨gp (JI xs lo hi) hz,_,(r.drop (HT.cK xs.length 0 lo)).take (HT.cK xs.length xs.length hi-HT.cK xs.length 0 lo),oY.new _ _⟩
def R8(K:Frag):R2:=λx y H Q=>∃a b xs ys,x=.ref a∧y=.ref b∧bh K H a xs∧bh K H b ys∧xs≠[]∧xs.length+ys.length≤sizeLine∧
 (ys=[]→Q (.ref a) H)∧(ys≠[]→∀p,H p=none→Q (.ref p) (upd H p (.tup (xs++ys))))
theorem Vals.zV{xs:List V}{us:List Value}(r:Vals xs us):us=[]↔xs=[]:=by
 cases r with
 |nil=>simp
 |cons _ _=>simp
theorem JK:eX X (binaryOp .Add) (R8 X.K):=by
 intro aK s σ H x y v u Q I rx ry h;obtain⟨a,b,xs,ys,rfl,rfl,ha,hb,hx,hz,q1,q2⟩:=h;cases rx;cases ry;obtain⟨its,r1,p1,_⟩:=I.tuple ha;obtain⟨tq,r2,p2,_⟩:=I.tuple hb;refine HT.R1 p1 p2 (λz=>hx (r1.zV.mp z)) (λz=>⟨.ref a,H,I,rfl,q1 (r2.zV.mp z)⟩) (λz=>?_) (by rw[← r1.length,← r2.length];exact hz);refine⟨.ref s.heap.objs.size,_,I.laid (t':=s.toks) (o:=.tup (xs++ys)) (λb ob q=>eh _ q) (cC _) ?_,rfl,q2 (λw=>z (r2.zV.mpr w)) _ (I.bQ.fresh (cC _))⟩;exact⟨by rw[cq];exact hz,_,r1.append r2,oY.new _ _⟩
end
noncomputable def og(n:Nat)(i:Int):Option Nat:=if 0≤i then(if i<n then some i.toNat else none)else if -(n:Int)≤i then some (i+n).toNat else none
noncomputable def qT(xs:List α)(i:Int):Option α:=(og xs.length i).bind λj=>xs[j]?
theorem JL{n:Nat}{i:Int}{j:Nat}(h:og n i=some j):seqIndex? i n=some j∧j<n∧-(n:Int)≤i∧i<n:=by
 unfold og at h;by_cases h0:0≤i
 ·rw[ae h0]at h;by_cases h1:i<n
  ·rw[ae h1]at h;have e:i.toNat=j:=cY h;exact⟨by rw[seqIndex_of h0 h1,e],by lia,by lia,h1⟩
  ·rw[ah h1]at h;cases h
 ·rw[ah h0]at h;by_cases h1:-(n:Int)≤i
  ·rw[ae h1]at h;have e:(i+n).toNat=j:=cY h;exact⟨by rw[seqIndex_neg (by lia) h1,e],by lia,h1,by lia⟩
  ·rw[ah h1]at h;cases h
theorem JM{xs:List α}{i:Int}{v:α}(h:qT xs i=some v):∃j,seqIndex? i xs.length=some j∧xs[j]?=some v∧j<xs.length∧-(xs.length:Int)≤i∧i<xs.length:=by
 unfold qT at h;cases e:og xs.length i with
 |none=>rw[e]at h;cases h
 |some j=>
  rw[e]at h;obtain⟨h1,h2,h3,h4⟩:=JL e;exact⟨j,h1,h,h2,h3,h4⟩
theorem cm{xs:List α}{j:Nat}{v:α}(h:xs[j]?=some v):qT xs (j:Int)=some v:=by
 have hj:j<xs.length:=(gc.mp h).1;have e:og xs.length (j:Int)=some j:=by
  unfold og;rw[ae (by lia),ae (by lia)];simp
 unfold qT;rw[e];exact h
theorem zW(xs:List α)(v:α):qT (xs++[v]) (-1)=some v:=by
 have hl:(xs++[v]).length=xs.length+1:=by simp
 have e:og (xs++[v]).length (-1)=some xs.length:=by
  unfold og;rw[hl,ah (by decide),ae (by lia)]
  congr 1
  lia
 unfold qT;rw[e];show(xs++[v])[xs.length]?=some v;simp
def R9(b:Expr):Prop:=∀o i,subscripted b false o i=operate [o,i] (getItem o i)
def xk(X:Cx)(r:R2):Prop:=
 ∀(value slice:Expr)(aK:List (Addr×Obj))(s:Shared)(σ:St)(H:Hp)(x y:V)(v u:Value)(Q:VK),Inv X aK σ H s→RelV x v→RelV y u→r x y H Q→
  subscripted slice false v u=operate [v,u] (getItem v u)→wpAny (model X.prog X.w) X.A (subscriptTail value slice v u) (EP X aK σ Q) X.xe s
def zX(X:Cx)(id:String)(r:V→List V→Hp→VK→Prop):Prop:=
 ∀(aK:List (Addr×Obj))(s:Shared)(σ:St)(H:Hp)(x:V)(xs:List V)(v:Value)(us:List Value)(Q:VK),Inv X aK σ H s→RelV x v→Vals xs us→r x xs H Q→
  wpAny (model X.prog X.w) X.A (call (.builtin id) (v::us)) (EP X aK σ Q) X.xe s
section
variable{X:Cx}{a b:Expr}{ta tb:TE}{pos:Pos}
theorem bH{r:R2}(hr:xk X r)(ha:PE X a ta)(hb:PE X b tb)(hs:R9 b):PE X (.Subscript a b pos) (cf r ta tb):=by
 intro aK s σ H Q I h;exact Subscript_ (DU ha hb I h λv u s2 x y H2 I2 rx ry q=>hr a b aK s2 σ H2 x y v u Q I2 rx ry q (hs _ _))
def o7(K:Frag):R2:=λx y H Q=>∃p xs i v,x=.ref p∧y=.int i∧cV K H p xs∧qT xs i=some v∧Q v H
def jM(K:Frag):R2:=λx y H Q=>∃p xs i v,x=.ref p∧y=.int i∧bh K H p xs∧qT xs i=some v∧Q v H
theorem Sa:xk X (o7 X.K):=by
 intro value slice aK s σ H x y v u Q I rx ry h hs;obtain⟨p,xs,i,z,rfl,rfl,hq,he,q⟩:=h;cases rx;obtain⟨t,rfl⟩:=ry;obtain⟨its,r,pl,hz⟩:=I.list hq;obtain⟨j,h1,h2,h3,h4,h5⟩:=JM he;obtain⟨w,ew,oh⟩:=r.get h2;have hl:=r.length;have hn:=xg;have fin:EP X aK σ Q w s:=⟨z,H,I,oh,q⟩;by_cases h0:0≤i
 ·have hj:i.toNat=j:=by
   rw[seqIndex_of h0 h5]at h1;exact cY h1
  exact item_listR pl.isList h0 (by lia) (by rw[hj];simpa using ew) fin hs
 ·have hj:(i+(its.toArray.size:Int)).toNat=j:=by
   rw[seqIndex_neg (by lia) h4]at h1;rw[dP,← hl];exact cY h1
  exact subscriptTail_builtinR (x:=w) pl.isList.typeIs slot_list_getitem.lookup
   (wpAny_getItem_list_neg (Q:=λr s'=>r=w∧EP X aK σ Q r s') pl.isList (by lia) (by rw[dP]<;>lia) (by lia) (by rw[hj];simpa using ew) ⟨rfl,fin⟩) hs
theorem Sb:xk X (jM X.K):=by
 intro value slice aK s σ H x y v u Q I rx ry h hs;obtain⟨p,xs,i,z,rfl,rfl,hq,he,q⟩:=h;cases rx;obtain⟨t,rfl⟩:=ry;obtain⟨its,r,pl,hz⟩:=I.tuple hq;obtain⟨j,h1,h2,h3,h4,h5⟩:=JM he;obtain⟨w,ew,oh⟩:=r.get h2;have hl:=r.length;have hn:=xg;have fin:EP X aK σ Q w s:=⟨z,H,I,oh,q⟩;exact subscriptTail_builtinR (x:=w) pl.typeIs slot_tuple_getitem.lookup
  (getItem_tuple (j:=j) (Q:=λr s'=>r=w∧EP X aK σ Q r s') pl (by lia) (by lia) (by rw[dP,← hl];exact h1) (by simpa using ew) ⟨rfl,fin⟩) hs
theorem Sd(its:List Value)(n j:Nat)(u:Value):Obj.mapSeq (·.setIfInBounds j u) { cls:=.type "list",data:=.seq its.toArray n }={ cls:=.type "list",data:=.seq (its.set j u).toArray n }:=by
 simp[Obj.mapSeq]
theorem Inv.lst{aK:List (Addr×Obj)}{σ:St}{H:Hp}{s:Shared}{p:Addr}{xs:List V}(I:Inv X aK σ H s)(h:H p=some (.lst xs)) :
  ∃(its:List Value)(n:Nat),Vals xs its∧s.heap.get? p=some { cls:=.type "list",data:=.seq its.toArray n }∧xs.length≤sizeLine:=by
 obtain⟨z,its,n,r,e⟩:=I.bQ p _ h;exact⟨its,n,r,e,z⟩
theorem Inv.Se{aK:List (Addr×Obj)}{σ:St}{H:Hp}{p:Addr}{xs ys:List V}{its':List Value}{n n':Nat}{f:Obj→Obj}(I:Inv X aK σ H s)(h:H p=some (.lst xs))
  (ho:s.heap.get? p=some { cls:=.type "list",data:=.seq its.toArray n }) (hf:f { cls:=.type "list",data:=.seq its.toArray n }={ cls:=.type "list",data:=.seq its'.toArray n' }) (r:Vals ys its') (hz:ys.length≤sizeLine) (t:Nat) :
  Inv X aK σ (upd H p (.lst ys)) { s with heap:=s.heap.update p f,toks:=t }:=by
 have e:(s.heap.update p f).get? p=some { cls:=.type "list",data:=.seq its'.toArray n' }:=by
  rw[uG f ho (by rw[hf]<;>rfl),hf]
 refine I.write (x:=p) (e:=p) (by rw[h];trivial) (.inl rfl) (λb u hb q=>(Heap.get?_update_other _ _ (Ne.symm hb)).trans q) ⟨_,e⟩ ?_;exact⟨hz,its',n',r,e⟩
def JN:V→V→V→Hp→(Hp→Prop)→Prop:=λo i v H Q=>∃p xs k j,o=.ref p∧i=.int k∧H p=some (.lst xs)∧og xs.length k=some j∧Q (upd H p (.lst (xs.set j v)))
theorem Sf:Ji X JN:=by
 intro aK s σ H o i v ov iv u Q I ro ri rv h;obtain⟨p,xs,k,j,rfl,rfl,hp,hj,q⟩:=h;cases ro;obtain⟨t,rfl⟩:=ri;obtain⟨its,n,r,ho,hz⟩:=I.lst hp;obtain⟨h1,h2,h3,h4⟩:=JL hj;have hl:=r.length;have hn:=xg;have I':Inv X aK σ (upd H p (.lst (xs.set j v))) { s with heap:=s.heap.update p (Obj.mapSeq (·.setIfInBounds j u)) }:=
  I.Se hp ho (Sd its n j u) (r.set rv j) (by rw[List.length_set];exact hz) s.toks
 by_cases h0:0≤k
 ·have hk:k.toNat=j:=by
   rw[seqIndex_of h0 h4]at h1;exact cY h1
  exact PySem.W.ki_setAt ho h0 (by lia) (by rw[dP,← hl];exact h4) (by rw[hk];exact⟨_,I',q⟩)
 ·have hk:(k+(its.toArray.size:Int)).toNat=j:=by
   rw[seqIndex_neg (by lia) h3]at h1;rw[dP,← hl];exact cY h1
  exact PySem.W.ki_setBack ho (by lia) (by rw[dP,← hl];exact h3) (by lia) (by rw[hk];exact⟨_,I',q⟩)
theorem Sh(lo hi:Option Int)(n:Nat):(sliceBounds lo hi none n).1=((HT.cK n 0 lo:Nat):Int)∧(sliceBounds lo hi none n).2.1=((HT.cK n n hi:Nat):Int)∧(sliceBounds lo hi none n).2.2=1:=by
 refine⟨?_,?_,rfl⟩
 ·cases lo with
  |none=>simp[sliceBounds,HT.cK]
  |some i=>
   simp only[sliceBounds,HT.cK,Option.getD_none,show(1:Int)>0 by decide,if_true];by_cases h:i<0
   ·simp only[h,if_true]<;>lia
   ·simp only[h,if_false]<;>lia
 ·cases hi with
  |none=>simp[sliceBounds,HT.cK]
  |some i=>
   simp only[sliceBounds,HT.cK,Option.getD_none,show(1:Int)>0 by decide,if_true];by_cases h:i<0
   ·simp only[h,if_true]<;>lia
   ·simp only[h,if_false]<;>lia
theorem Si(its:List Value)(lo hi:Option Int):slicePick its.toArray lo hi none=((its.drop (HT.cK its.length 0 lo)).take (HT.cK its.length its.length hi-HT.cK its.length 0 lo)).toArray:=by
 obtain⟨h1,h2,h3⟩:=Sh lo hi its.toArray.size;unfold slicePick;rw[h1,h2,h3];simp only[sliceRange_one,pick_run,dP]<;>rfl
def zY(K:Frag):V→Option Int→Option Int→Hp→VK→Prop:=λx lo hi H Q=>∃a xs,x=.ref a∧cV K H a xs∧∀p,H p=none→Q (.ref p) (upd H p (.lst (iY xs lo hi)))
theorem Sj:tm X (zY X.K):=by
 intro aK s σ H x v vl vu lo hi sl Q I rx hs pl pu h;obtain⟨a,xs,rfl,hx,q⟩:=h;cases rx;obtain⟨its,r,ht,hz⟩:=I.list hx;have cJ:=r.length;refine⟨"list",_,slot_list_getitem.lookup,ht.isList.typeIs,?_⟩;refine wpAny_getItem_list_slice ht.isList hs pl pu .none (by simp) ?_ (by rw[dP]<;>lia)
 rw[Si,← cJ];refine⟨.ref s.heap.objs.size,_,I.laid (t':=s.toks) (o:=.lst (iY xs lo hi)) (λb ob q=>eh _ q) (cC _) ?_,rfl,q _ (I.bQ.fresh (cC _))⟩;exact⟨gp (JI xs lo hi) hz,_,0,(r.drop (HT.cK xs.length 0 lo)).take (HT.cK xs.length xs.length hi-HT.cK xs.length 0 lo),iW _ rfl⟩
noncomputable def qU:V→Bool
 | .cE=>true
 | .bl _=>true
 | .int _=>true
 | .str _=>true
 |_=>false
noncomputable def iO:V→V→Bool
 | .cE,.cE=>true
 | .bl a,.bl b=>a==b
 | .bl a,.int b=>(if a then 1 else 0)==b
 | .int a,.bl b=>a==(if b then 1 else 0)
 | .int a,.int b=>a==b
 | .str a,.str b=>a==b
 |_,_=>false
theorem Sk{A:Around}{y:V}{u v:Value}(ry:RelV y u)(rx:RelV x v)(fy:qU y=true)(fx:qU x=true):SeqAt.EqAt A s u v (iO y x):=by
 cases y with
 |cE=>
  cases ry;cases x with
  |cE=>cases rx;exact SeqAt.EqAt.same _
  |bl b=>cases rx;exact SeqAt.EqAt.none_bool b
  |int b=>obtain⟨t,rfl⟩:=rx;exact SeqAt.EqAt.none_int b t
  |str b=>obtain⟨t,rfl⟩:=rx;exact SeqAt.EqAt.none_str b t
  |_=>exact absurd (show false=true from fx) ic
 |bl a=>
  cases ry;cases x with
  |cE=>cases rx;exact SeqAt.EqAt.bool_none a
  |bl b=>cases rx;exact SeqAt.EqAt.bool_bool a b
  |int b=>obtain⟨t,rfl⟩:=rx;exact SeqAt.EqAt.bool_int a b t
  |str b=>obtain⟨t,rfl⟩:=rx;exact SeqAt.EqAt.bool_str a b t
  |_=>exact absurd (show false=true from fx) ic
 |int a=>
  obtain⟨t',rfl⟩:=ry;cases x with
  |cE=>cases rx;exact SeqAt.EqAt.int_none a t'
  |bl b=>cases rx;exact SeqAt.EqAt.int_bool a t' b
  |int b=>obtain⟨t,rfl⟩:=rx;exact SeqAt.EqAt.int_int a t' b t
  |str b=>obtain⟨t,rfl⟩:=rx;exact SeqAt.EqAt.int_str a t' b t
  |_=>exact absurd (show false=true from fx) ic
 |str a=>
  obtain⟨t',rfl⟩:=ry;cases x with
  |cE=>cases rx;exact SeqAt.EqAt.str_none a t'
  |bl b=>cases rx;exact SeqAt.EqAt.str_bool a t' b
  |int b=>obtain⟨t,rfl⟩:=rx;exact SeqAt.EqAt.str_int a t' b t
  |str b=>obtain⟨t,rfl⟩:=rx;exact SeqAt.EqAt.str_str a t' b t
  |_=>exact absurd (show false=true from fx) ic
 |_=>exact absurd (show false=true from fy) ic
noncomputable def p6(x:V)(u:Value):Bool:=match u with
 | .none=>iO .cE x
 | .bool b=>iO (.bl b) x
 | .int i _=>iO (.int i) x
 | .str z _=>iO (.str z) x
 |_=>false
theorem JO{y:V}{u:Value}(r:RelV y u)(f:qU y=true):p6 x u=iO y x:=by
 cases y with
 |cE=>cases r;rfl
 |bl b=>cases r;rfl
 |int i=>obtain⟨t,rfl⟩:=r;rfl
 |str z=>obtain⟨t,rfl⟩:=r;rfl
 |_=>exact absurd (show false=true from f) ic
theorem D8{x:V}:∀{xs:List V}{us:List Value},Vals xs us→xs.all qU=true→us.any (p6 x)=xs.any λy=>iO y x
 |_,_,.nil,_=>rfl
 |y::xs,u::us,.cons r t,f=>by
  rw[List.all_cons,fo]at f;rw[List.any_cons,List.any_cons,JO r f.1,D8 t f.2]
theorem D9{A:Around}{s:Shared}{x:V}{v:Value}(rx:RelV x v)(fx:qU x=true):∀{xs:List V}{us:List Value},Vals xs us→xs.all qU=true→∀u∈us,SeqAt.EqAt A s u v (p6 x u)
 |_,_,.nil,_=>λu hu=>by cases hu
 |y::xs,u::us,.cons r t,f=>λu' hu=>by
  rw[List.all_cons,fo]at f;rcases eJ.mp hu with rfl|hu
  ·rw[JO r f.1];exact Sk r rx f.1 fx
  ·exact D9 rx fx t f.2 u' hu
noncomputable def uX(x:V)(xs:List V):Bool:=xs.any λy=>iO y x
def Ea(K:Frag)(neg:Bool):R2:=λx y H Q=>∃p xs,y=.ref p∧(cV K H p xs∨bh K H p xs)∧qU x=true∧xs.all qU=true∧Q (.bl (if neg then !uX x xs else uX x xs)) H
theorem Sl:eX X (compareOp .In) (Ea X.K false):=by
 intro aK s σ H x y v u Q I rx ry h;obtain⟨p,xs,rfl,hq,fx,fs,q⟩:=h;cases ry;rcases hq with hq|hq
 ·obtain⟨its,r,pl,hz⟩:=I.list hq;refine SeqAt.in_listAt (p6 x) pl.isList (λw hw=>D9 rx fx r fs w (by simpa using hw)) ⟨.bl _,H,I,rfl,?_⟩;rw[show its.toArray.any (p6 x)=its.any (p6 x) by simp,D8 r fs];exact q
 ·obtain⟨its,r,pl,hz⟩:=I.tuple hq;refine SeqAt.in_tupleAt (p6 x) pl (λw hw=>D9 rx fx r fs w (by simpa using hw)) ⟨.bl _,H,I,rfl,?_⟩;rw[show its.toArray.any (p6 x)=its.any (p6 x) by simp,D8 r fs];exact q
theorem Sm:gI X (.builtin "len") (λxs H Q=>∃p ys,xs=[.ref p]∧(cV X.K H p ys∨bh X.K H p ys)∧Q (.int ys.length) H):=by
 intro aK s σ H xs us Q I r h;obtain⟨p,ys,rfl,hq,q⟩:=h;obtain⟨u,rfl,rx⟩:=vals1 r;cases rx;have hn:=xg;rcases hq with hq|hq
 ·obtain⟨its,r',pl,hz⟩:=I.list hq;have cJ:=r'.length;exact Calls.call_len_list pl.isList (by simp only[dP]<;>lia) ⟨.int ys.length,H,I.tok _,⟨s.toks+1,by rw[dP,cJ]⟩,q⟩
 ·obtain⟨its,r',pl,hz⟩:=I.tuple hq;have cJ:=r'.length;exact len_tuple pl (by simp only[dP]<;>lia) ⟨.int ys.length,H,I.tok _,⟨s.toks+1,by rw[dP,cJ]⟩,q⟩
theorem gI.or{f:Value}{r r':List V→Hp→VK→Prop}(h:gI X f r)(h':gI X f r'):gI X f (λxs H Q=>r xs H Q∨r' xs H Q):=by
 intro aK s σ H xs us Q I rs q;rcases q with q|q
 ·exact h aK s σ H xs us Q I rs q
 ·exact h' aK s σ H xs us Q I rs q
theorem Sn:gI X (.type "list") (λxs H Q=>∃p ys,xs=[.ref p]∧(cV X.K H p ys∨bh X.K H p ys)∧∀l,H l=none→Q (.ref l) (upd H l (.lst ys))):=by
 intro aK s σ H xs us Q I r h;obtain⟨p,ys,rfl,hq,q⟩:=h;obtain⟨u,rfl,rx⟩:=vals1 r;cases rx;have fin:∀(its:List Value),Vals ys its→ys.length≤sizeLine→∀(h':Heap)(c':Nat),(∀b o',s.heap.get? b=some o'→h'.get? b=some o')→
   h'.get? s.heap.objs.size=some { cls:=.type "list",dict:=none,data:=.seq its.toArray c',slots:=#[] }→EP X aK σ Q (.ref s.heap.objs.size) { s with heap:=h' }:=λits r' hz h' c' kp e=>
  ⟨.ref s.heap.objs.size,_,I.laid (t':=s.toks) kp (cC _) (show eB X.prog X.w _ h' _ (.lst ys) from⟨hz,its,c',r',e⟩),rfl,q _ (I.bQ.fresh (cC _))⟩
 rcases hq with hq|hq
 ·obtain⟨its,r',pl,hz⟩:=I.list hq;have cJ:=r'.length;obtain⟨o,ho,hc,n,hd⟩:=pl.isList;exact call_list_seq p (.inl rfl) ho hc hd (λh' c' kp e=>fin its r' hz h' c' kp e) (by simp only[dP]<;>lia)
 ·obtain⟨its,r',pl,hz⟩:=I.tuple hq;have cJ:=r'.length;obtain⟨o,ho,hc,n,hd⟩:=pl;exact call_list_seq p (.inr rfl) ho hc hd (λh' c' kp e=>fin its r' hz h' c' kp e) (by simp only[dP]<;>lia)
theorem So:gI X (.type "tuple") (λxs H Q=>∃p ys,xs=[.ref p]∧((cV X.K H p ys∧∀l,H l=none→Q (.ref l) (upd H l (.tup ys)))∨(bh X.K H p ys∧Q (.ref p) H))):=by
 intro aK s σ H xs us Q I r h;obtain⟨p,ys,rfl,h⟩:=h;obtain⟨u,rfl,rx⟩:=vals1 r;cases rx;rcases h with⟨hq,q⟩|⟨hq,q⟩
 ·obtain⟨its,r',pl,hz⟩:=I.list hq;have cJ:=r'.length;refine call_tuple_list pl.isList (λh' kp=>?_) (by simp only[dP]<;>lia)
  have I1:Inv X aK σ H { s with heap:=h' }:=I.kept (t':=s.toks) kp;have I2:Inv X aK σ (upd H h'.objs.size (.tup ys)) { s with heap:=h'.push { cls:=.type "tuple",data:=.seq its.toArray } }:=
   I1.laid (t':=s.toks) (λb o e=>eh _ e) (cC _) (show eB X.prog X.w _ _ _ (.tup ys) from⟨hz,its,r',oY.new _ _⟩)
  exact⟨.ref h'.objs.size,_,I2,rfl,q _ (I1.bQ.fresh (cC _))⟩
 ·obtain⟨its,r',pl,hz⟩:=I.tuple hq;exact call_tuple_same pl ⟨.ref p,H,I,rfl,q⟩
def Eb(K:Frag)(T:String)(x:V)(H:Hp):Prop:=match x with
 | .str _=>T="str"
 | .int _=>T="int"
 | .ref p=>(T="list"∧∃xs,cV K H p xs)∨(T="tuple"∧∃o,K.lookup p=some o∧o.cls=.type "tuple"∧o.dict=none) ∨
   (T="dict"∧((∃aZ,H p=some (.dK aZ))∨∃aZ,H p=some (.dT aZ)))∨(T="set"∧∃S n,H p=some (.set S n))
 |_=>False
theorem JP{aK:List (Addr×Obj)}{σ:St}{H:Hp}{T:String}{v:Value}(I:Inv X aK σ H s)(r:RelV x v)(ty:Eb X.K T x H) :
  s.TypeIs v T∧∀a,v=.ref a→∃ob,s.heap.get? a=some ob∧ob.dict=none:=by
 cases x with
 |str z=>
  obtain⟨t,rfl⟩:=r;cases(show T="str" from ty)
  exact⟨typeIs_str s z t,λ_ e=>nomatch e⟩
 |int i=>
  obtain⟨t,rfl⟩:=r;cases(show T="int" from ty)
  exact⟨typeIs_int s i t,λ_ e=>nomatch e⟩
 |ref p=>
  cases r;rcases ty with⟨rfl,xs,hq⟩|⟨rfl,o,hk,hc,hd⟩|⟨rfl,hk⟩|⟨rfl,S,n,hk⟩
  ·obtain⟨its,_,pl,_⟩:=I.list hq;refine⟨pl.isList.typeIs,λa e=>?_⟩;cases e;obtain⟨o,n,e,c,hd,_⟩:=pl;exact⟨o,e,hd⟩
  ·refine⟨⟨o,I.fh p o hk,hc⟩,λa e=>?_⟩;cases e;exact⟨o,I.fh _ o hk,hd⟩
  ·have z:∃o,s.heap.get? p=some o∧o.ExactDict:=by
    rcases hk with⟨aZ,hk⟩|⟨aZ,hk⟩
    ·obtain⟨_,_,_,_,o,_,_,e,ex,_⟩:=I.bQ p _ hk;exact⟨o,e,ex⟩
    ·obtain⟨_,_,_,_,o,_,_,e,ex,_⟩:=I.bQ p _ hk;exact⟨o,e,ex⟩
   obtain⟨o,e,ex⟩:=z;refine⟨⟨o,e,ex.1⟩,λa e2=>?_⟩;cases e2;exact⟨o,e,ex.2.1⟩
  ·obtain⟨o,_,_,_,e,ex,_⟩:=I.bQ p _ hk;refine⟨⟨o,e,ex.1⟩,λa e2=>?_⟩;cases e2;exact⟨o,e,ex.2.1⟩
 |_=>exact False.elim ty
def JQ(K:Frag)(T:String)(r:V→List V→Hp→VK→Prop)(to:TE):TE:=λσ H Q=>to σ H λx H1=>Eb K T x H1∧r x [] H1 Q
def jk(K:Frag)(T:String)(r:V→List V→Hp→VK→Prop)(to:TE)(t:TA):TE:=λσ H Q=>to σ H λx H1=>Eb K T x H1∧t σ H1 λxs H2=>r x xs H2 Q
variable{o e:Expr}{es:List Expr}{to:TE}{t:TA}{name:Str}{ji eM:Pos}{T id:String}{r:V→List V→Hp→VK→Prop}
theorem Sr(pa:PlainAttrs T)(slot:Slot T name id)(xm:typeOf (.builtin id)=pure (.type "method_descriptor"))(hm:zX X id r)(ho:PE X o to)
  (tw:attributeBase o name X.env (eval o X.env)=eval o X.env:=by rfl) (tD:(ji.endLine==eM.line)=true:=by rfl):PE X (.Call (.Attribute o name ji) [] [] eM) (JQ X.K T r to):=by
 intro aK s σ H Q I h;refine wpAny_Call_method0_late tw tD (bt (ho aK s σ H _ I h) λv s1 ⟨x,H1,I1,r1,ty,q1⟩=>?_);obtain⟨h1,h2⟩:=JP I1 r1 ty;exact⟨T,id,pa,slot,xm,h1,h2,Calls.callWith_builtin rfl (PySem.evalArgs_none (hm aK s1 σ H1 x [] v [] Q I1 r1 .nil q1))⟩
theorem jz(pa:PlainAttrs T)(slot:Slot T name id)(xm:typeOf (.builtin id)=pure (.type "method_descriptor"))(hm:zX X id r)(ho:PE X o to)(ha:PA X (e::es) t)
  (tw:attributeBase o name X.env (eval o X.env)=eval o X.env:=by rfl)
  (xn:((backTo eM (starEach (e::es) X.env)).all (λx=>!x.1)&&(backToKw eM (keywordEach [] X.env)).all (λx=>x.1.isSome)
   && decide ((e::es).length+([]:List Keyword).length+(if([]:List Keyword).isEmpty then 0 else 1)<30))=true:=by rfl)
  (tD:(ji.endLine==eM.line)=true:=by rfl) (hs:starEach (e::es) X.env=(false,eval e X.env)::starEach es X.env:=by rfl) (Ec:(backTo eM (starEach es X.env)).any (·.1)=false:=by rfl) :
  PE X (.Call (.Attribute o name ji) (e::es) [] eM) (jk X.K T r to t):=by
 intro aK s σ H Q I h;refine wpAny_Call_method_late tw xn tD rfl (bt (ho aK s σ H _ I h) λv s1 ⟨x,H1,I1,r1,ty,q1⟩=>?_);obtain⟨h1,h2⟩:=JP I1 r1 ty;refine⟨T,id,pa,slot,xm,h1,h2,?_⟩;have hA:=ha eM aK s1 σ H1 _ I1 q1;rw[hs]at hA ⊢;refine Calls.callWith_builtin (by show(false||(backTo eM (starEach es X.env)).any (·.1))=false;rw[Ec]<;>rfl) (Calls.evalArgs_plain ?_)
 exact bt hA λus s2 ⟨vs,H2,I2,r2,q2⟩=>hm aK s2 σ H2 x vs v us Q I2 r1 r2 q2
end
def Ed(X:Cx)(id:String)(r:V→List V→Hp→VK→Prop):Prop:=
 ∀(aK:List (Addr×Obj))(s:Shared)(σ:St)(H:Hp)(x:V)(xs:List V)(v:Value)(us:List Value)(Q:VK),Inv X aK σ H s→RelV x v→Vals xs us→r x xs H Q→
  wpAny (model X.prog X.w) X.A (call (.builtin id) (v::us)) (EP X aK σ Q) X.xe s
theorem Vals.one:∀{x:V}{us:List Value},Vals [x] us→∃u,us=[u]∧RelV x u
 |_,_,.cons r .nil=>⟨_,rfl,r⟩
theorem Vals.zero:∀{us:List Value},Vals [] us→us=[]
 |_,.nil=>rfl
theorem Vals.dropLast{xs:List V}{us:List Value}(h:Vals xs us):Vals xs.dropLast us.dropLast:=by
 induction h with
 |nil=>exact .nil
 |cons r t ih=>
  cases t with
  |nil=>exact .nil
  |cons q t'=>exact .cons r ih
theorem Vals.eraseIdx:∀{xs:List V}{us:List Value}(i:Nat),Vals xs us→Vals (xs.eraseIdx i) (us.eraseIdx i)
 |_,_,_,.nil=>.nil
 |_,_,0,.cons _ t=>t
 |_,_,i+1,.cons r t=>.cons r (Vals.eraseIdx i t)
theorem Vals.rep{xs:List V}{us:List Value}(h:Vals xs us):∀k:Nat,Vals (List.replicate k xs).flatten (List.replicate k us).flatten
 |0=>.nil
 |k+1=>by
  rw[oV,oV,uH,uH];exact Vals.append h (Vals.rep h k)
theorem Ss(l:List α):l.eraseIdx (l.length-1)=l.dropLast:=by
 induction l with
 |nil=>rfl
 |cons a r ih=>
  cases r with
  |nil=>rfl
  |cons b r=>
   have e:(a::b::r).length-1=((b::r).length-1)+1:=by
    have h1:(a::b::r).length=r.length+2:=rfl;have h2:(b::r).length=r.length+1:=rfl;lia
   rw[e,List.eraseIdx_cons_succ,ih];all_goals rfl
theorem JR{α:Type}:∀(l:List α)(i:Nat),(l.eraseIdx i).length≤l.length
 | [],_=>cC _
 |_::_,0=>Nat.le_succ _
 |_::r,i+1=>Nat.succ_le_succ (JR r i)
theorem foldl_rep(its:List Value):∀(k:Nat)(cZ:List Value),
  List.foldl (λx1 x2=>x1++x2) cZ.toArray (List.replicate k its.toArray)=(cZ++(List.replicate k its).flatten).toArray
 |0,cZ=>by simp
 |k+1,cZ=>by
  have e:cZ.toArray++its.toArray=(cZ++its).toArray:=by simp
  have e2:(cZ++its)++(List.replicate k its).flatten=cZ++(List.replicate (k+1) its).flatten:=by
   rw[oV,uH,dQ]
  rw[← e2,← foldl_rep its k (cZ++its),← e,oV,List.foldl_cons]
section
variable{X:Cx}{aK:List (Addr×Obj)}{σ:St}{H:Hp}{s:Shared}{l b:Addr}{xs ys zs:List V}
theorem Inv.Ee{its':List Value}{n:Nat}{f:Array Value→Array Value}{t':Nat}(I:Inv X aK σ H s)(hH:H l=some (.lst xs))
  (e:s.heap.get? l=some { cls:=.type "list",data:=.seq its.toArray n }) (hf:f its.toArray=its'.toArray) (hv:Vals ys its') (hz:ys.length≤sizeLine) :
  Inv X aK σ (upd H l (.lst ys)) { s with heap:=s.heap.update l (Obj.mapSeq f),toks:=t' }:=by
 have q:=PySem.IsL.update e f;rw[hf]at q;refine I.write (x:=l) (e:=l) (by rw[hH];exact trivial) (.inl rfl) (λb' u hb hu=>(Heap.get?_update_other s.heap (Obj.mapSeq f) (Ne.symm hb)).trans hu) ⟨_,q⟩ ?_;exact⟨hz,its',_,hv,q⟩
theorem Inv.JS{t':Nat}(I:Inv X aK σ H s)(hv:Vals ys its)(hz:ys.length≤sizeLine) :
  Inv X aK σ (upd H s.heap.objs.size (.lst ys)) { s with heap:=s.heap.push { cls:=.type "list",data:=.seq its.toArray },toks:=t' }:=
 I.laid (λ_ _ q=>eh _ q) (cC _) ⟨hz,its,0,hv,iW _ rfl⟩
theorem Inv.fresh(I:Inv X aK σ H s):H s.heap.objs.size=none:=I.bQ.fresh (cC _)
theorem Inv.uY(I:Inv X aK σ H s)(hH:H l=some (.lst xs)):xs.length≤sizeLine∧∃(its:List Value)(n:Nat),Vals xs its∧xs.length=its.length∧s.heap.get? l=some { cls:=.type "list",data:=.seq its.toArray n }:=by
 obtain⟨z,its,n,r,e⟩:=I.bQ l _ hH;exact⟨z,its,n,r,r.length,e⟩
theorem Su{n:Nat}(h:n≤sizeLine):Builtin.List.listTooLong n=false:=by
 unfold Builtin.List.listTooLong;exact aa (by lia)
end
section
variable{X:Cx}
def jA:V→List V→Hp→VK→Prop:=λx vs H Q=>∃l xs y,x=.ref l∧vs=[y]∧H l=some (.lst xs)∧xs.length<sizeLine∧Q .cE (upd H l (.lst (xs++[y])))
theorem md:Ed X "list.append" jA:=by
 intro aK s σ H x vs v us Q I rx rv h;obtain⟨l,xs,y,rfl,rfl,hH,hz,q⟩:=h;cases rx;obtain⟨u,rfl,ru⟩:=rv.one;obtain⟨z,its,n,r,hl,e⟩:=I.uY hH;refine aF F.slot_list_append ⟨_,e,rfl⟩ F.entry_list_append (F.args_list_append_2 _ _) (PySem.list_append l its.toArray n u (by rw[dP];lia)) ⟨e,?_⟩;refine⟨.cE,_,I.Ee (its':=its++[u]) hH e (by simp) (r.append (.cons ru .nil)) ?_,rfl,q⟩;rw[cq,List.length_singleton];lia
def JT:V→List V→Hp→VK→Prop:=λx vs H Q=>∃l xs y,x=.ref l∧vs=[]∧H l=some (.lst xs)∧xs[xs.length-1]?=some y∧Q y (upd H l (.lst xs.dropLast))
theorem Sv:Ed X "list.pop" JT:=by
 intro aK s σ H x vs v us Q I rx rv h;obtain⟨l,xs,y,rfl,rfl,hH,hy,q⟩:=h;cases rx;have Sw:=rv.zero;subst Sw;obtain⟨z,its,n,r,hl,e⟩:=I.uY hH;obtain⟨u,hu,ru⟩:=r.get hy;have zZ:its.toArray[its.toArray.size-1]?=some u:=by
  show its.toArray[its.length-1]?=some u;rw[← Array.getElem?_toList,← hl];exact hu
 refine aF F.slot_list_pop ⟨_,e,rfl⟩ F.entry_list_pop (F.args_list_pop_1 _) (MeetsSeq.list_pop_last l its.toArray n u zZ (by rw[dP];lia)) ⟨e,?_⟩;refine⟨y,_,I.Ee (its':=its.dropLast) hH e ?_ r.dropLast ?_,ru,q⟩
 ·show its.toArray.eraseIdxIfInBounds (its.toArray.size-1)=its.dropLast.toArray;rw[dP,List.eraseIdxIfInBounds_toArray,Ss]
 ·rw[List.length_dropLast];lia
def JU:V→List V→Hp→VK→Prop:=λx vs H Q=>∃l xs i k y,x=.ref l∧vs=[.int i]∧H l=some (.lst xs)∧-(2^63)≤i∧i<2^63∧seqIndex? i xs.length=some k∧xs[k]?=some y∧Q y (upd H l (.lst (xs.eraseIdx k)))
theorem Aa:Ed X "list.pop" JU:=by
 intro aK s σ H x vs v us Q I rx rv h;obtain⟨l,xs,i,k,y,rfl,rfl,hH,h1,h2,hk,hy,q⟩:=h;cases rx;obtain⟨u,rfl,ru⟩:=rv.one;obtain⟨t,rfl⟩:=ru;obtain⟨z,its,n,r,hl,e⟩:=I.uY hH;obtain⟨w,hw,oh⟩:=r.get hy;refine aF F.slot_list_pop ⟨_,e,rfl⟩ F.entry_list_pop (F.args_list_pop_2 _ _)
  (MeetsSeq.list_pop_at l its.toArray n i t k w (fitsIndex_both h1 h2) (by rw[dP,← hl];exact hk) (by rw[← Array.getElem?_toList];exact hw) (by rw[dP];lia)) ⟨e,?_⟩
 refine⟨y,_,I.Ee (its':=its.eraseIdx k) hH e ?_ (r.eraseIdx k) ?_,oh,q⟩
 ·show its.toArray.eraseIdxIfInBounds k=(its.eraseIdx k).toArray;rw[List.eraseIdxIfInBounds_toArray]
 ·have:=JR xs k
  lia
def o8:R2:=λx y H Q=>∃l b xs zs,x=.ref l∧y=.ref b∧H l=some (.lst xs)∧H b=some (.lst zs)∧xs.length+zs.length≤sizeLine∧∀p,H p=none→Q (.ref p) (upd H p (.lst (xs++zs)))
theorem o9:eX X (binaryOp .Add) o8:=by
 intro aK s σ H x y v u Q I rx ry h;obtain⟨l,b,xs,zs,rfl,rfl,hH,hB,hz,q⟩:=h;cases rx;cases ry;obtain⟨z,its,n,r,hl,e⟩:=I.uY hH;obtain⟨z2,tq,n2,r2,p7,e2⟩:=I.uY hB;refine PySem.P.add_list e e2 ?_ (by rw[dP,dP];lia);have ea:its.toArray++tq.toArray=(its++tq).toArray:=by simp
 rw[ea];exact⟨.ref _,_,I.JS (t':=s.toks) (r.append r2) (by rw[cq];lia),rfl,q _ I.fresh⟩
def Ef:R2:=λx y H Q=>∃l k xs,x=.ref l∧y=.int k∧H l=some (.lst xs)∧-(2^63)≤k∧k<2^63∧xs.length*k.toNat≤sizeLine∧
 ∀p,H p=none→Q (.ref p) (upd H p (.lst (List.replicate k.toNat xs).flatten))
theorem JV(xs:List α)(k:Nat):(List.replicate k xs).flatten.length=k*xs.length:=by
 induction k with
 |zero=>simp
 |succ k ih=>rw[oV,uH,cq,ih,Nat.succ_mul,qL]
theorem Eg:eX X (binaryOp .Mult) Ef:=by
 intro aK s σ H x y v u Q I rx ry h;obtain⟨l,k,xs,rfl,rfl,hH,h1,h2,hz,q⟩:=h;cases rx;obtain⟨t,rfl⟩:=ry;obtain⟨z,its,n,r,hl,e⟩:=I.uY hH;have cJ:its.toArray.size*k.toNat≤sizeLine:=by rw[dP,← hl];exact hz
 have Sx:¬its.toArray.size*k.toNat>(2^63-1)/8:=by
  have:(sizeLine:Nat)≤(2^63-1)/8:=by decide
  lia
 have Sy:¬(!Builtin.List.listFitsIndex k)=true:=by
  rw[fitsIndex_both h1 h2];exact ic
 have Sz:¬Builtin.List.listTooLong (its.toArray.size*k.toNat)=true:=by
  rw[Su cJ];exact ic
 have SA:List.foldl (λx1 x2=>x1++x2) #[] (List.replicate (if its.toArray.isEmpty=true then 0 else k.toNat) its.toArray)=(List.replicate k.toNat its).flatten.toArray:=by
  have f0:∀m:Nat,List.foldl (λx1 x2=>x1++x2) #[] (List.replicate m its.toArray)=(List.replicate m its).flatten.toArray:=λm=>by
   have:=foldl_rep its m []
   rw[List.nil_append]at this;exact this
  rw[f0];cases its with
  |nil=>simp
  |cons a r'=>rw[ah (by simp)]
 refine wpAny_binaryOp_repeat_ref (T := "list") (U := "int") (by decide) ⟨_,e,rfl⟩ (λs'=>typeIs_int s' k t) noFill_list_mul F.fills_int_mul F.slot_int_rmul repeat_list F.slot_int_index.lookup
  (aF F.slot_int_rmul (typeIs_int s k t) F.entry_int_rmul (F.args_int_rmul_2 _ _) (int___rmul___int_list k t l its.toArray n) ⟨e,rfl,⟨_,e,rfl⟩,aF F.slot_list_mul ⟨_,e,rfl⟩ F.entry_list_mul (F.args_list_mul_2 _ _) (AutoListH.list___mul___list_int_3 l its.toArray n k t Sy Sx Sz) ⟨e,?_⟩⟩)
 rw[SA];exact⟨.ref _,_,I.JS (t':=s.toks) (r.rep k.toNat) (by rw[JV,Nat.mul_comm];exact hz),rfl,q _ I.fresh⟩
end
section
variable{prog:Program}{w:World}{A:Around}{E:QV}{s:Shared}
end
section
variable{X:Cx}
end
end L2
namespace Att
open PySem PySem.W PySem.Calls PyProof.Rows
theorem SD{P:Params}{h:Heap}:∀(ns:List Int)(vs:List Value),WellAll P h vs (ns.map WData.int)→IntsAre vs ns:=by
 intro ns;induction ns with
 |nil=>
  intro vs w;rw[List.map_nil]at w;cases w;exact .nil
 |cons n ns ih=>
  intro vs w;rw[oW]at w;cases w with
  |cons a b=>
   cases a;exact .cons _ _ (ih _ b)
theorem SE{l:OpenLaw}{n:Nat}(hn:l.most=some n){P:Params}{h:Heap}{args:List WData}{Eh:List Value}
  (Ab:l.row.toRowW.claim.pre args=true) (nt:WellAll P h Eh args) :
  ∃a vs ns,Eh=[Value.ref a]∧args=[WData.list (ns.map WData.int)]∧h.get? a=some { cls:=.type "list",data:=.seq vs.toArray }∧IntsAre vs ns∧ns.length≤n:=by
 have SF:WShape.hasAll [] args [.list .int]=true:=(pre_splitW Ab).1;have hc:l.pre.holds [] { args:=args }=true:=(pre_splitW Ab).2;obtain⟨d,r,rfl,h1,h2⟩:=hasAllW_cons SF;obtain rfl:=hasAllW_nil h2;obtain⟨xs,rfl,h3⟩:=hasW_list h1;obtain⟨ns,rfl⟩:=items_int h3;have cJ:ns.length≤n:=by
  unfold OpenLaw.pre at hc;have h4:(WTm.not (.lt (.lit (.int (n:Int))) (.len (.arg 0)))).holds [] { args:=[.list (ns.map .int)] }=true:=by
   have h4:=(holds_andW hc).1;rw[hn]at h4;exact h4
  have h5:=condW_of h4 (w_not (w_lt w_lit (w_len_list (w_arg rfl))));rw[bI]at h5;refine Nat.le_of_not_lt λq=>?_;have q':(n:Int)<((ns.length:Nat):Int):=by lia
  first
   |(rw[aG q']at h5;exact absurd h5 (by decide))
   |(simp at h5;lia)
 cases nt with
 |cons w1 w2=>
  cases w2;cases w1 with
  |list ho SG=>exact⟨_,_,ns,rfl,rfl,ho,SD ns _ SG,cJ⟩
theorem SH(l:OpenLaw)(args:List WData):l.row.toRowW.claim.post args (.bool true) args=true:=
 postW_of (r:=l.row.toRowW) (X:=(true==true))
  (show WShape.has [] (.bool true) .bool=true by first|rfl|decide|simp[WShape.has,WShape.arms,WShape.armsAll])
  (show(WTm.eq .res (.lit (.bool true))).value [] { args:=args,res:=some (.bool true),after:=args }=some (.bool (true==true)) from w_eq_bool (w_res rfl) w_lit) rfl
theorem SI{l:OpenLaw}{n:Nat}{q:Program}{uZ:List Str}{XP:(Str→Option Value)→Heap→Prop}{YP:World→Heap→Prop}{d:DefRec}
  (hn:l.most=some n) (xo:d.params.defaults=[])
  (call:∀(w:World)(s₀ s₁:Shared)(mg mb:Str→Option Value)(fa:Addr)(o:Obj)(pm cd doc:Value)(a:Addr)(vs:List Value)(ns:List Int),
   Ground q uZ [] XP w s₀ mg mb s₁.heap→YP w s₁.heap→
   s₁.heap.get? fa=some o→o.data=.func (docDef d.name d.params d.body d.scope pm cd doc)→s₁.heap.CodeRec cd d.name→mg d.name=some (.ref fa)→
   s₁.heap.get? a=some { cls:=.type "list",data:=.seq vs.toArray }→IntsAre vs ns→ns.length≤n→s₁.gens=#[]→
   codeAny (model l.prog w) callerA (.call (.ref fa) ⟨[.ref a],[]⟩) (λr s'=>r=.ok (.ret (.bool true))∧OldK s₁.heap s'.heap∧s'.os=s₁.os∧AllBare s'.gens) s₁) :
  WalkO q uZ XP YP l.row.toRowW d [] (λf vs=>PySem.call f vs):=by
 intro w s₀ s₁ mg mb G Y fa o pm cd doc dV kV ho hd gZ hD hmg hg args Eh as Ab abO hrd nt hlo;obtain rfl:dV=.none:=Dflts.none hD xo;obtain rfl:kV=.none:=Dflts.noKw hD;obtain⟨a,vs,ns,rfl,rfl,Ei,hints,cJ⟩:=SE hn Ab nt;refine enter_call (codeAny_mono (call w s₀ s₁ mg mb fa o pm cd doc a vs ns G Y ho (fd_plain hd) gZ hmg Ei hints cJ hg) λr s' hq=>?_);obtain⟨rfl,h2,h3,h4⟩:=hq;exact⟨.inl ⟨.bool true,.bool true,[],rfl,λ_=>rfl,.bool true,SH l _,λ_=>⟨List.Pairwise.nil,λ_ hm=>(nomatch hm)⟩⟩,h2,h3,h4⟩
section
variable{prog:Program}{w:World}{A:Around}{E:QV}{s:Shared}{K:Frag}
end
end Att
namespace L2
open PySem PySem.Spec PyProof.Rows
variable{A:Around}{B:Prop}{H H':Hp}{Q:QV}{X:Cx}{a c f it p:Addr}{b:Bool}{env:Env}{h h':Heap}{i:Nat}{its:Array Value}{aK:List (Addr×Obj)}{qual x:Str}{s:Shared}{scope:Scope}{st:Stmt}{xs:List V}
theorem JW:∀{vs:List Value}{ns:List Int},IntsAre vs ns→Vals (ns.map V.int) vs
 |_,_,.nil=>.nil
 |_,_,.cons n t h=>.cons ⟨t,rfl⟩ (JW h)
noncomputable def p8(s:Stmt):Arguments:=match s with
 | .FunctionDef _ a _ _ _ _ _ _ _ _=>a
 |_=>{ posonlyargs:=[],args:=[],vararg:=none,kwonlyargs:=[],kw_defaults:=[],kwarg:=none,defaults:=[] }
noncomputable def j7(s:Stmt):List Stmt:=match s with
 | .FunctionDef _ _ b _ _ _ _ _ _ _=>b
 |_=>[]
noncomputable def bG(s:Stmt):Scope:=match s with
 | .FunctionDef _ _ _ _ _ _ sc _ _ _=>sc
 |_=>{ kind:=.function,names:=[],isGenerator:=false,isCoroutine:=false }
abbrev bx:n9:=λ_ _ _ _ _ _=>False
abbrev E0:XK:=λ_ _ _=>False
theorem cR:Passes bx X E0:=λ_ _ _ _ _ _ _ h=>h.elim
structure cD(K:Frag)(x qual:Str)(st:Stmt)(f:Addr)(fd:FuncData):Prop where
 ex:∃(oc:Value)(od:Option Addr)(kV doc pm:Value)(an:Option Addr)(bZ ct:Value)(ma:Array (Option Value)),
  fd=fnOf x qual (p8 st) (j7 st) (bG st) .none kV doc pm an bZ ct∧K.lookup f=some ⟨oc,od,.func fd,ma⟩∧PySem.W.codeIn K bZ qual=true
 kp:Kp K f
section
variable{P:Program}{w:World}{K:Frag}{mg:Str→Option Value}{base:Heap}
theorem cD.ok{fd:FuncData}{N ps:List Str}{k:Nat}{sp:Sp}(F:cD K x qual st f fd)(S:c8 N ps (bG st))(len:∀vs H Q E,sp vs H Q E→vs.length=ps.length)
  (oa:∀(bZ:Value)(A:Around)(outer:List Env)(s:Shared)(H:Hp)(vs:List V)(Q:VK)(E:XK),dv k (A.deeper (envOfC qual (bG st) s.heap.objs.size f bZ))→sp vs H Q E→
   ∃t,jh (jL bx P w K mg base N qual (bG st) f bZ A outer s H E).kZ (j7 st) t∧t { nx:=λ_ H'=>Q .cE H',rt:=Q } (start N vs) H):bz P w K mg base bx (k+1) f fd ps sp:=by
 obtain⟨oc,od,kV,doc,pm,an,bZ,ct,ma,rfl,lk,gZ⟩:=F.ex;refine D6 lk gZ S len λA outer s H vs Q E hr jj=>?_;obtain⟨t,h,q⟩:=oa bZ A outer s H vs Q E hr jj;exact⟨t,h.kZ,q⟩
theorem cD.binds{fd:FuncData}{ps:List Str}(F:cD K x qual st f fd)
  (h:∀(kV doc pm:Value)(an:Option Addr)(bZ ct:Value)(us:List Value),us.length=ps.length→bindArgs (fnOf x qual (p8 st) (j7 st) (bG st) .none kV doc pm an bZ ct) ⟨us,[]⟩=pure (ps.zip us)):Binds K fd ps []:=by
 obtain⟨oc,od,kV,doc,pm,an,bZ,ct,ma,rfl,lk,gZ⟩:=F.ex;exact .all (h kV doc pm an bZ ct)
theorem Ej{oc:Value}{od an:Option Addr}{ma:Array (Option Value)}{kV doc pm bZ ct:Value}(l:K.lookup f=some ⟨oc,od,.func (fnOf x qual (p8 st) (j7 st) (bG st) .none kV doc pm an bZ ct),ma⟩)
  (c:PySem.W.codeIn K bZ qual=true) (k:Kp K f):cD K x qual st f (fnOf x qual (p8 st) (j7 st) (bG st) .none kV doc pm an bZ ct):=⟨⟨oc,od,kV,doc,pm,an,bZ,ct,ma,rfl,l,c⟩,k⟩
end
theorem JX{k:Nat}(hr:dv k A):A.units+1<cLine:=Nat.lt_of_le_of_lt (Nat.add_le_add_left (by decide:1≤64) _) hr.units
theorem Ac{n:Nat}(h:n≤1000):n<sizeLine:=Nat.lt_of_le_of_lt h (by decide)
section
variable{X:Cx}
theorem pv(i:Nat){pos:Pos}(hN:X.N[i]?=some x:=by rfl)(hv:uP X.env.scope x:=by first|exact Or.inl rfl|exact Or.inr (.inl rfl)|exact Or.inr (Or.inr rfl))(hd:(x==("__debug__":Str))=false:=by decide)
  (gZ:(x==("__classdict__":Str))=false:=by decide):PE X (.Name x pos) (aR i):=Ja hN hv hd gZ
end
theorem dY{A:Prop}(h:B):if false=true then A else B:=by
 rw[ah ic];exact h
theorem gU{A:Prop}(h:A):if true=true then A else B:=by
 rw[ae rfl];exact h
theorem lC{c A:Prop} [Decidable c] (h1:c→A) (h2:¬c→B):if c then A else B:=by
 by_cases h:c
 ·rw[ae h];exact h1 h
 ·rw[ah h];exact h2 h
theorem SJ{c A:Prop} [Decidable c] (hc:c) (h:B):if(!decide c)=true then A else B:=by
 rw[aG hc];exact dY h
def aO(H H':Hp):Prop:=∀b o,H b=some o→H' b=some o
theorem aO.refl(H:Hp):aO H H:=λ_ _ h=>h
theorem aO.trans{H1 H2:Hp}(a:aO H H1)(b:aO H1 H2):aO H H2:=λc o h=>b c o (a c o h)
theorem aO.seq{K:Frag}(e:aO H H')(h:cV K H a xs):cV K H' a xs:=by
 rcases h with(h|⟨o,h⟩)|h
 ·exact .inl (.inl (e _ _ h))
 ·exact .inl (.inr ⟨o,e _ _ h⟩)
 ·exact .inr h
noncomputable def j8(cells:List (Str×Addr)):List (Str×NameKind)→List (Str×Addr)→List (Str×Addr)
 | [],cZ=>cZ
 |(n,k)::r,cZ=>if k == .free then j8 cells r ((n,(cells.lookup n).getD 0)::cZ)else j8 cells r cZ
theorem SK(h:∀x∈scope.names,x.2=.free→∃c,env.cells.lookup x.1=some c):closureFor scope env=pure (j8 env.cells scope.names []):=by
 unfold closureFor;have key:∀(names:List (Str×NameKind))(cZ:List (Str×Addr)),(∀x∈names,x.2=.free→∃c,env.cells.lookup x.1=some c)→
   (forIn names cZ (λ(x:Str×NameKind)(r:List (Str×Addr))=>(if(x.2==NameKind.free)=true then do let c ← cellOf env x.1;pure (ForInStep.yield ((x.1,c)::r))else pure (ForInStep.yield r):Sem (ForInStep (List (Str×Addr))))))=pure (j8 env.cells names cZ):=by
  intro names;induction names with
  |nil=>intro cZ _;rfl
  |cons x r ih=>
   intro cZ hx;obtain⟨n,k⟩:=x;rw[List.forIn_cons];unfold j8;by_cases hk:(k==NameKind.free)=true
   ·have iZ:k=.free:=by simpa using hk
    obtain⟨c,hc⟩:=hx (n,k) dj iZ;have jJ:env.cells.lookup n=some c:=hc;simp only[hk,if_true];have e1:cellOf env n=pure c:=by unfold cellOf;rw[jJ]
    rw[e1,jJ];exact ih ((n,c)::cZ) λy hy=>hx y (gq _ hy)
   ·simp only[hk,if_false,Bool.false_eq_true];exact ih cZ λy hy=>hx y (gq _ hy)
 have e:=key scope.names [] h;first
  |exact e
  |(simp only[bind_pure];exact e)
theorem Ad{cells:List (Str×Addr)}{x:Str}{c:Addr}:∀(names:List (Str×NameKind))(cZ:List (Str×Addr)),(j8 cells names cZ).lookup x=some c→cZ.lookup x=some c∨((x,NameKind.free)∈names∧c=(cells.lookup x).getD 0)
 | [],_,h=>.inl h
 |(n,k)::r,cZ,h=>by
  unfold j8 at h;by_cases hk:(k==NameKind.free)=true
  ·have iZ:k=.free:=by simpa using hk
   rw[ae hk]at h;rcases Ad r _ h with z|⟨z,e⟩
   ·rw[r6]at z;cases hb:x==n with
    |true=>
     rw[hb]at z;have e':x=n:=by simpa using hb
     subst e';subst iZ;exact .inr ⟨dj,(cY z).symm⟩
    |false=>rw[hb]at z;exact .inl z
   ·exact .inr ⟨gq _ z,e⟩
  ·rw[ah hk]at h;rcases Ad r _ h with z|⟨z,e⟩
   ·exact .inl z
   ·exact .inr ⟨gq _ z,e⟩
theorem Ek{cells:List (Str×Addr)}{x:Str}:∀(names:List (Str×NameKind))(cZ:List (Str×Addr)),((x,NameKind.free)∈names∨(cZ.lookup x).isSome=true)→((j8 cells names cZ).lookup x).isSome=true
 | [],_,h=>by
  rcases h with h|h
  ·cases h
  ·exact h
 |(n,k)::r,cZ,h=>by
  unfold j8;by_cases hk:(k==NameKind.free)=true
  ·rw[ae hk];refine Ek r _ ?_;rcases h with h|h
   ·rcases(eJ.mp h)with(e|h)
    ·cases e;exact .inr (by rw[r6];simp)
    ·exact .inl h
   ·refine .inr ?_;rw[r6];cases hb:x==n<;>simp[h]
  ·rw[ah hk];refine Ek r _ ?_;rcases h with h|h
   ·rcases(eJ.mp h)with(e|h)
    ·cases e;exact absurd rfl hk
    ·exact .inl h
   ·exact .inr h
theorem u9:∀(names:List (Str×NameKind))(n:Nat)(cZ:List (Str×Addr)),cellsFrom n names cZ=cellsFrom n names []++cZ
 | [],_,_=>rfl
 |(x,k)::r,n,cZ=>by
  unfold cellsFrom;by_cases hk:(k==NameKind.cell)=true
  ·rw[ae hk,ae hk,u9 r (n+1) ((x,n)::cZ),u9 r (n+1) [(x,n)],dQ];rfl
  ·rw[ah hk,ah hk];exact u9 r n cZ
theorem El:∀(names:List (Str×NameKind))(n:Nat)(x:Str)(c:Addr),(x,c)∈cellsFrom n names []→(x,NameKind.cell)∈names
 | [],_,_,_,h=>nomatch h
 |(y,k)::r,n,x,c,h=>by
  unfold cellsFrom at h;by_cases hk:(k==NameKind.cell)=true
  ·have iZ:k=.cell:=by simpa using hk
   rw[ae hk,u9]at h;refine(eT.mp h).elim (λh=>?_) λh=>?_
   ·exact gq _ (El r _ x c h)
   ·have e:(x,c)=(y,n):=by simpa using h
    cases e;subst iZ;exact dj
  ·rw[ah hk]at h;exact gq _ (El r n x c h)
theorem Em{α:Type}{x:Str}:∀(a b:List (Str×α)),(a++b).lookup x=(a.lookup x).or (b.lookup x)
 | [],_=>by simp
 |(y,v)::r,b=>by
  rw[wM,r6,r6];cases hb:x==y with
  |true=>simp
  |false=>exact Em r b
theorem xp{α:Type}{x:Str}{v:α}:∀{l:List (Str×α)},(l.map (·.1)).Nodup→(x,v)∈l→l.lookup x=some v
 | [],_,h=>by cases h
 |(y,w)::r,nd,h=>by
  rw[oW,List.nodup_cons]at nd;rw[r6];cases h with
  |head=>simp
  |tail _ h=>
   have dM:(x==y)=false:=by
    apply beq_false_of_ne;intro SM;exact nd.1 (eA.mpr ⟨(x,v),h,SM⟩)
   rw[dM];exact xp nd.2 h
theorem JY{α β:Type}{x:Str}(f:Str×α→Str×β)(hf:∀p,(f p).1=p.1):∀(l:List (Str×α)),(l.map f).lookup x=(l.lookup x).map λk=>(f (x,k)).2
 | []=>rfl
 |(n,k)::r=>by
  obtain⟨m,z⟩:∃z,f (n,k)=(n,z):=⟨(f (n,k)).2,Prod.ext (hf _) rfl⟩;rw[oW,z,r6,r6];cases hx:x==n with
  |false=>exact JY f hf r
  |true=>cases(beq_iff_eq.mp hx);simp[z]
theorem SN(names:List (Str×NameKind)):(names.map λ(n,k)=>if(k==NameKind.free&&env.scope.kind == .function&&env.kindOf n==some .cell)then(n,NameKind.cell)else(n,k)).lookup x =
  (names.lookup x).map λk=>if(k==NameKind.free&&env.scope.kind == .function&&env.kindOf x==some .cell)=true then NameKind.cell else k:=by
 rw[JY _ (λp=>by dsimp only;split<;>rfl)]
 congr 1
 funext k
 dsimp only;split<;>rfl
theorem SO{M:Model}{E:QV}{cl:List (Str×Addr)}{Q:Env→Shared→Prop}
  (q:Q (newEnv scope s.heap.objs.size env.globals (cellsFrom (s.heap.objs.size+1) scope.names cl) env.qual none .none (some env) builtinsNs)
   { s with heap:=pushCells (s.heap.push { cls:=.type "dict",data:=.dict #[] }) scope.names }) :
  wpAny M A (newFunctionEnv scope env.globals cl [] env.qual none .none (some env)) Q E s:=by
 have z:(s.heap.push { cls:=.type "dict",data:=.dict #[] }).objs.size=s.heap.objs.size+1:=r8 ..;rw[← z]at q;unfold newFunctionEnv;have cells:=wpAny_layCells (M:=M) (A:=A) (E:=E) (λx r=>if(x.2==NameKind.cell)=true then(do let c ← alloc { cls:=.type "cell",data:=.cell none };pure (ForInStep.yield ((x.1,c)::r)))else pure (ForInStep.yield r)) (λ_ _ _=>rfl) scope.names cl { s with heap:=s.heap.push { cls:=.type "dict",data:=.dict #[] } }
 exact au (wpAny_alloc (au (cells _ (au (ay (ay q))))))
noncomputable def nu(X:Cx)(N:List Str)(scope:Scope)(cs:List (Str×Addr))(C:Addr)(s₀:Shared)(H₀:Hp)(ex:List Addr):Cx where
 prog:=X.prog
 w:=X.w
 K:=X.K
 mg:=X.mg
 base:=X.base
 A:=X.A
 N:=N
 s₀:=s₀
 H₀:=H₀
 env:=compEnvC scope cs C X.env
 outer:=X.stack
 stack:=X.stack
 ex:=ex
 fn:=λx=>scope.names.lookup x==some .cell
 calm:=X.calm
 pn:=[]
 xe:=λ_ _=>False
structure dg(oN:List Str)(qV:Scope)(N:List Str)(own:Nat)(caps:List Nat)(scope:Scope):Prop where
 kind:scope.kind=.function
 nd:N.Nodup
 Ae:(scope.names.map (·.1)).Nodup
 free:∀x∈scope.names,x.2=.free→qV.names.lookup x.1=some .cell∨qV.names.lookup x.1=some .free
 len:N.length=own+caps.length
 nv:caps.map (λi=>oN[i]?)=(N.drop own).map some
 SQ:∀x∈N.drop own,scope.names.lookup x=some .free
noncomputable def oi(own:Nat)(caps:List Nat)(σ:St):St:=List.replicate own none++caps.map λi=>(σ[i]?).join
noncomputable abbrev qW(X:Cx)(scope:Scope)(C:Addr):List (Str×Addr):=cellsFrom (C+1) scope.names (j8 X.env.cells scope.names [])
noncomputable abbrev xq(h:Heap)(scope:Scope):Heap:=pushCells (h.push { cls:=.type "dict",data:=.dict #[] }) scope.names
section
variable{X:Cx}{aK:List (Addr×Obj)}{σ:St}{H:Hp}{s:Shared}{N:List Str}{own:Nat}{caps:List Nat}{scope:Scope}{ex:List Addr}
theorem va(S:dg X.N X.env.scope N own caps scope)(I:Inv X aK σ H s)(n:Nat)(h:(cellsFrom n scope.names (j8 X.env.cells scope.names [])).lookup x=some c) :
  (x,c)∈cellsFrom n scope.names []∨((x,NameKind.free)∈scope.names∧X.env.cells.lookup x=some c):=by
 rw[u9,Em]at h;cases q:(cellsFrom n scope.names []).lookup x with
 |some c'=>
  rw[q]at h;have e:c'=c:=by simpa using h
  subst e;exact .inl (oU q)
 |none=>
  rw[q]at h;have h':(j8 X.env.cells scope.names []).lookup x=some c:=by simpa using h
  rcases Ad _ _ h' with z|⟨z,e⟩
  ·cases z
  ·refine .inr ⟨z,?_⟩;obtain⟨c',jJ⟩:=I.ok.has x (S.free (x,.free) z rfl);rw[jJ]at e ⊢;rw[e];rfl
theorem JZ(S:dg X.N X.env.scope N own caps scope)(I:Inv X aK σ H s)(n:Nat)(hx:scope.names.lookup x=some .free) :
  ∃c,X.env.cells.lookup x=some c∧(cellsFrom n scope.names (j8 X.env.cells scope.names [])).lookup x=some c:=by
 have hm:(x,NameKind.free)∈scope.names:=oU hx;obtain⟨c,hc⟩:=I.ok.has x (S.free (x,.free) hm rfl);refine⟨c,hc,?_⟩;obtain⟨c',jJ⟩:=zp.mp (Ek (cells:=X.env.cells) (x:=x) scope.names [] (.inl hm));have e0:(cellsFrom n scope.names []).lookup x=none:=by
  cases q:(cellsFrom n scope.names []).lookup x with
  |none=>rfl
  |some d=>
   have:=xp S.Ae (El _ _ _ _ (oU q))
   rw[hx]at this;cases this
 rw[u9,Em,e0,jJ];rcases Ad _ _ jJ with z|⟨_,e⟩
 ·cases z
 ·rw[hc]at e;rw[e];rfl
theorem SR(S:dg X.N X.env.scope N own caps scope)(I:Inv X aK σ H s)(hex:∀b∈ex,jK X aK H b∧b<s.heap.objs.size) :
  Inv (nu X N scope (qW X scope s.heap.objs.size) s.heap.objs.size s H ex) [] (oi own caps σ) H { s with heap:=xq s.heap scope }:=by
 have k1:∀b o,s.heap.get? b=some o→(xq s.heap scope).get? b=some o:=λb o e=>pushCells_keeps _ _ b o (eh _ e);have ok:=cellsFrom_ok scope.names (s.heap.push { cls:=.type "dict",data:=.dict #[] }) (s.heap.objs.size+1) [] ⟨λ_ _ hm=>(nomatch hm),List.Pairwise.nil⟩ (by rw[r8];exact cC _);rw[r8]at ok;have J0:∀x c,X.env.cells.lookup x=some c→c<s.heap.objs.size:=λx c e=>by
  obtain⟨v,q⟩:=I.cell x c e;exact q.lt
 have J1:∀x,(compEnvC scope (qW X scope s.heap.objs.size) s.heap.objs.size X.env).kindOf x=(scope.names.lookup x).map λk=>if(k==NameKind.free&&X.env.scope.kind == .function&&X.env.kindOf x==some .cell)=true then NameKind.cell else k:=
  λx=>SN (env:=X.env) scope.names
 have kk:∀x,(compEnvC scope (qW X scope s.heap.objs.size) s.heap.objs.size X.env).kindOf x=some .cell∨(compEnvC scope (qW X scope s.heap.objs.size) s.heap.objs.size X.env).kindOf x=some .free→
   scope.names.lookup x=some .cell∨scope.names.lookup x=some .free:=λx h=>by
  rw[J1]at h;cases q:scope.names.lookup x with
  |none=>rw[q]at h;rcases h with h|h<;>cases h
  |some k=>
   rw[q]at h;by_cases hf:k=.free
   ·exact .inr (by rw[hf])
   ·have hb:(k==NameKind.free)=false:=by simpa using hf
    have e:(some k).map (λk=>if(k==NameKind.free&&X.env.scope.kind == .function&&X.env.kindOf x==some .cell)=true then NameKind.cell else k)=some k:=by
     simp[hf]
    rw[e]at h;exact h
 refine⟨⟨I.ok.mod,S.kind,I.ok.glob,I.ok.blt,cC _,λx y c h1 h2=>?_,λx hx=>?_,λx c hf h=>?_,I.ok.hd,I.ok.frames,.inl rfl,λb hb=>⟨?_,λx c h=>?_⟩,λb o e=>?_,gp I.ok.pW I.sz,λb o e hb=>?_,λb hb hf=>?_,I.stack,I.zA⟩,
  rfl,I.bare,Un.kept k1,⟨λ_=>none,?_,λi x v h1 h2 h3=>?_⟩,λx c h=>?_,I.bQ.fresh (cC _),λx c h=>?_,λp hp=>absurd (show p∈([]:List (Addr×Obj)) from hp) (by simp),I.bQ.kept k1,?_⟩
 ·
  rcases va S I _ h1 with a1|⟨_,a1⟩<;>rcases va S I _ h2 with a2|⟨_,a2⟩
  ·exact name_of_addr ok.apart a1 a2
  ·exact absurd (J0 _ _ a2) (Nat.not_lt.mpr (Nat.le_of_succ_le (ok.empty _ _ a1).2))
  ·exact absurd (J0 _ _ a1) (Nat.not_lt.mpr (Nat.le_of_succ_le (ok.empty _ _ a2).2))
  ·exact I.ok.inj _ _ _ a1 a2
 ·
  rcases kk x hx with q|q
  ·exact zp.mp (Dr scope.names _ _ (.inl q))
  ·obtain⟨c,_,hc⟩:=JZ S I (s.heap.objs.size+1) q;exact⟨c,hc⟩
 ·
  have fN:scope.names.lookup x=some .cell:=by simpa[nu]using hf
  rcases va S I _ h with a|⟨a,_⟩
  ·exact Nat.le_of_succ_le (ok.empty _ _ a).2
  ·rw[xp S.Ae a]at fN;cases fN
 ·exact ib (hex b hb).2
 ·rcases va S I _ h with a|⟨_,a⟩
  ·exact Nat.ne_of_gt (iJ (hex b hb).2 (Nat.le_of_succ_le (ok.empty _ _ a).2))
  ·exact(hex b hb).1.2.2.2.2.1 x c a
 ·exact I.bs b o e
 ·rcases(hex b hb).1.2.2.2.1 with z|z
  ·exact I.ok.wX b o e z
  ·exact absurd (iJ (dO e) (gp I.ok.pW z)) (uF _)
 ·rcases eJ.mp (I.Dz b hf)with z|z
  ·exact(hex b hb).1.2.1 z
  ·exact(hex b hb).1.2.2.1 z
 ·exact(Heap.Ns.new s.heap (.type "dict")).keeps (pushCells_keeps _ _)
 ·
  have hi:own≤i:=by
   refine Nat.le_of_not_lt λc7=>?_;unfold oi at h2;rw[ip (by simpa using c7),wL]at h2;split at h2<;>cases h2
  obtain⟨j,rfl⟩:∃j,i=own+j:=⟨i-own,by lia⟩;unfold oi at h2;rw[iK (by simp),eV,Nat.add_sub_cancel_left,eU]at h2;cases hc:caps[j]? with
  |none=>rw[hc]at h2;cases h2
  |some ci=>
   rw[hc]at h2;have hσ:σ[ci]?=some (some v):=by
    have z:(σ[ci]?).join=some v:=by simpa using h2
    cases q:σ[ci]? with
    |none=>rw[q]at z;cases z
    |some o=>rw[q]at z;have z':o=some v:=z;rw[z']
   have J2:(N.drop own)[j]?=some x:=by rw[List.getElem?_drop];exact h1
   have hX:X.N[ci]?=some x:=by
    have e:=ao (λl=>l[j]?) S.nv;simp only[eU,hc,J2,Option.map_some]at e;exact cY e
   have xr:=S.SQ x (gT J2);obtain⟨c,vb,sZ⟩:=JZ S I (s.heap.objs.size+1) xr;obtain⟨m,hn,hl⟩:=I.loc;have hk:=S.free (x,.free) (oU xr) rfl;have SS:uP X.env.scope x:=.inr hk;obtain⟨u,ru,lk⟩:=hl ci x v hX hσ SS;refine⟨u,ru,?_⟩;rcases lk with⟨z,_⟩|⟨_,c',e',z⟩
   ·have z':X.env.scope.names.lookup x=some .local:=z;rcases hk with hk|hk
    ·have iZ:X.env.scope.names.lookup x=some .cell:=hk;rw[z']at iZ;cases iZ
    ·have iZ:X.env.scope.names.lookup x=some .free:=hk;rw[z']at iZ;cases iZ
   ·rw[vb]at e';cases e';refine .inr ⟨?_,c,sZ,z.keeps k1⟩;show(compEnvC scope _ _ X.env).kindOf x=_∨(compEnvC scope _ _ X.env).kindOf x=_;rw[J1,xr];show some (if _ then NameKind.cell else NameKind.free)=_∨some (if _ then NameKind.cell else NameKind.free)=_
    split
    ·exact .inl rfl
    ·exact .inr rfl
 ·rcases va S I _ h with a|⟨_,a⟩
  ·exact⟨_,(ok.empty _ _ a).1⟩
  ·obtain⟨v,q⟩:=I.cell x c a;exact⟨v,q.keeps k1⟩
 ·rcases va S I _ h with a|⟨_,a⟩
  ·exact I.bQ.fresh (Nat.le_of_succ_le (ok.empty _ _ a).2)
  ·exact I.ni x c a
 ·unfold oi;show _=N.length;rw[S.len,cq,eV,bI]
end
def vc(X:Cx)(jl:List Expr)(t:TT):Prop:=
 ∀(aK:List (Addr×Obj))(s:Shared)(σ:St)(H:Hp)(Q:Bool→Hp→Prop),Inv X aK σ H s→t σ H Q→
  wpAny (model X.prog X.w) X.A (forIn jl true λc r=>if r=true then do let ok ← isTrue c X.env (eval c X.env);pure (ForInStep.yield ok)else pure (ForInStep.yield r)) (TP X aK σ Q) X.xe s
def g6:TT:=λ_ H Q=>Q true H
theorem fj:vc X [] g6:=λ_ _ _ H _ I h=>wpAny_tests_nil ⟨H,I,h⟩
theorem tE{c:Expr}{t:TT}(h:PT X c t):vc X [c] t:=λaK s σ H Q I q=>wpAny_tests_one (h aK s σ H Q I q)
def En(M:Model)(A:Around)(env:Env)(it cZ:Value)(tg jN:Expr)(jl:List Expr)(E:QV)(fin more:Shared→Prop):Shared→Prop:=
 let kept:Shared→Prop:=λu=>wpAny M A (eval jN env) (λx u5=>wpAny M A (call (.builtin "list.append") [cZ,x]) (λ_ u6=>more u6) E u5) E u
 let SU:Shared→Prop:=λu=>wpAny M A (forIn jl true λc r=>if r=true then(do let ok ← isTrue c env (eval c env);pure (ForInStep.yield ok))else pure (ForInStep.yield r)) (λok u4=>if ok=true then kept u4 else more u4) E u
 let SV:QV:=λv u=>wpAny M A (letOwnedTupleGo tg it v) (λ_ u2=>wpAny M A (assign tg env v) (λ_ u3=>SU u3) E u2) E u
 λu=>wpAny M A (pyNext it) (λo u1=>match o with|none=>fin u1|some v=>SV v u1) E u
theorem SW{prog:Program}{w:World}{R:Result→Shared→Prop}{jN tg iter:Expr}{jl:List Expr}{pos:Pos}{it cZ:Value}(I:Nat→Shared→Prop)(n:Nat)(start:I n s)
  (nX:∀m u,I m u→En (model prog w) A env it cZ tg jN jl (notedBy (model prog w) A env λe v=>R (.error e) v) (R (.ok .next)) (λv=>∃j,j<m∧I j v) u) :
  codeAny (model prog w) A (.compLoop (.ListComp jN [⟨tg,iter,jl,0⟩] scope pos) 0 it cZ env) R s:=by
 refine codeAny_loop rfl I (λm u hu=>wpAny_noted (m:=compTurn (.ListComp jN [⟨tg,iter,jl,0⟩] scope pos) 0 it cZ env) ?_) n start;have go:=nX m u hu;unfold En at go;rw[compTurn_list];refine au (wpAny_standAt (au (bt go λo u1 b1=>?_)))
 match o,b1 with
 |none,b1=>exact ay b1
 |some v,b1=>
  refine au (bt b1 λ_ u2 b2=>au (bt b2 λ_ u3 b3=>au (bt b3 λok u4 b4=>?_)))
  match ok,b4 with
  |false,b4=>exact ay ⟨rfl,b4⟩
  |true,b4=>exact au (au (bt b4 λx u5 b5=>au (bt b5 λ_ u6 b6=>ay (ay ⟨rfl,b6⟩))))
def jO(J:It)(g:TG)(tt:TT)(te:TE)(Q:VK)(W:Nat→Nat→St→Hp→List V→Prop):Prop:=
 ∀i m σ' H' ys,W i m σ' H' ys→
  (J.stop i H'∧ys.length≤sizeLine∧∀p,H' p=none→Q (.ref p) (upd H' p (.lst ys))) ∨
  (J.go i H'∧ys.length<sizeLine∧∃N:St→Hp→List V→Prop,(∀σ2 H2 zs,N σ2 H2 zs→∃m',m'<m∧W (i+1) m' σ2 H2 zs)∧
   ∀x H2,J.qR i H' x H2→g x σ' H2 λσ3 H3=>tt σ3 H3 λb H4=>if b=true then te σ3 H4 λv H5=>N σ3 H5 (ys++[v])else N σ3 H4 ys)
def iP(wi:TI)(own:Nat)(caps:List Nat)(g:TG)(tt:TT)(te:TE):TE:=λσ H Q=>wi σ H λJ H1=>
 ∃W:Nat→Nat→St→Hp→List V→Prop,(∃m,W 0 m (oi own caps σ) H1 [])∧jO J g tt te Q W
section
variable{X:Cx}{tg jN iter:Expr}{jl:List Expr}{scope:Scope}{pos:Pos}{N:List Str}{own:Nat}{caps:List Nat}{wi:TI}{g:TG}{tt:TT}{te:TE}
theorem J3{σ:St}{H2:Hp}{s2:Shared}{J:It}{fp:List Addr}{tn:Nat→Heap→Prop}{Q:VK}{W:Nat→Nat→St→Hp→List V→Prop}{m0:Nat}
  {E:QV} {R:Value→Addr→Result→Shared→Prop} (hc:X.calm=true) (S:dg X.N X.env.scope N own caps scope)
  (hg:∀cs C s₀ H₀ ex,PG (nu X N scope cs C s₀ H₀ ex) tg g) (ht:∀cs C s₀ H₀ ex,vc (nu X N scope cs C s₀ H₀ ex) jl tt) (he:∀cs C s₀ H₀ ex,PE (nu X N scope cs C s₀ H₀ ex) jN te)
  (I2:Inv X aK σ H2 s2) (T:Turn X.prog X.w X.K tg J fp it tn) (lB:tn 0 s2.heap) (f2:∀b∈fp,jK X aK H2 b)
  (w0:W 0 m0 (oi own caps σ) H2 []) (nX:jO J g tt te Q W)
  (SX:∀D C s' H' ys,Inv X aK σ (upd H' D (.lst ys)) s'→jK X aK (upd H' D (.lst ys)) C→(∃m,s'.heap.Ns C m)→Q (.ref D) (upd H' D (.lst ys))→R (.ref D) C (.ok .next) s') :
  wpAny (model X.prog X.w) X.A (newList []) (λcZ s₃=>wpAny (model X.prog X.w) X.A (newFunctionEnv scope X.env.globals (j8 X.env.cells scope.names []) [] X.env.qual none .none (some X.env)) (λJ4 s₄=>
   codeAny (model X.prog X.w) X.A (.compStart (.ListComp jN [⟨tg,iter,jl,0⟩] scope pos) 0 (.ref it) cZ { J4 with scope:=relabel scope X.env }) (R cZ J4.locals) s₄) E s₃) E s2:=by
 refine aE (SO ?_);dsimp only;generalize Eo:s2.heap.push { cls:=.type "list",dict:=none,data:=.seq ([]:List Value).toArray }=h3;have hC:h3.objs.size=s2.heap.objs.size+1:=by rw[← Eo,r8]
 have J5:∀b o,s2.heap.get? b=some o→h3.get? b=some o:=λb o e=>Eo▸eh _ e;have I3:Inv X aK σ H2 { s2 with heap:=h3 }:=I2.kept (t':=s2.toks) J5;have gD:h3.get? s2.heap.objs.size=some { cls:=.type "list",data:=.seq ([]:List Value).toArray }:=Eo▸iW _ rfl;have fD:jK X aK H2 s2.heap.objs.size:=I2.qS (cC _) (I2.bQ.fresh (cC _));have J6:∀b∈fp,b<s2.heap.objs.size:=λb hb=>by
  obtain⟨o,e,_⟩:=T.obj 0 _ lB b hb;exact dO e
 have hex:∀b∈s2.heap.objs.size::fp,jK X aK H2 b∧b<({ s2 with heap:=h3 }:Shared).heap.objs.size:=λb hb=>by
  show _∧b<h3.objs.size;rw[hC];cases hb with
  |head=>exact⟨fD,Nat.lt_succ_self _⟩
  |tail _ hb=>exact⟨f2 b hb,Nat.lt_succ_of_lt (J6 b hb)⟩
 have IB:=SR S I3 hex;generalize hY:nu X N scope (qW X scope h3.objs.size) h3.objs.size { s2 with heap:=h3 } H2 (s2.heap.objs.size::fp)=Y at IB;have yP:Y.prog=X.prog:=by rw[← hY];rfl
 have yW:Y.w=X.w:=by rw[← hY];rfl
 have yK:Y.K=X.K:=by rw[← hY];rfl
 have yc:Y.calm=true:=by rw[← hY];exact hc
 have yA:Y.A=X.A:=by rw[← hY];rfl
 have yx:Y.xe=λ_ _=>False:=by rw[← hY];rfl
 have yL:Y.env.locals=h3.objs.size:=by rw[← hY];rfl
 have J7:Y.ex=s2.heap.objs.size::fp:=by rw[← hY];rfl
 have SY:Y.fs=fq X.stack:=by rw[← hY];rfl
 have J8:Y.pn=[]:=by rw[← hY];rfl
 have Ep:Y.env=compEnvC scope (qW X scope h3.objs.size) h3.objs.size X.env:=by rw[← hY];rfl
 have yg:PG Y tg g:=by rw[← hY];exact hg _ _ _ _ _
 have yt:vc Y jl tt:=by rw[← hY];exact ht _ _ _ _ _
 have ye:PE Y jN te:=by rw[← hY];exact he _ _ _ _ _
 have yb:∀{σ':St}{H':Hp}{s':Shared}{pn:List (Addr×Obj)},Inv Y pn σ' H' s'→Un (fq X.stack) (s2.heap.objs.size::fp) H2 H' h3 s'.heap:=λ{σ' H' s' pn} J=>by
  have b:=J.base;rw[SY,J7]at b;have e1:Y.H₀=H2:=by rw[← hY];rfl
  have e2:Y.s₀.heap=h3:=by rw[← hY];rfl
  rw[e1,e2]at b;exact b
 have S4:∀{σ':St}{H':Hp}{s':Shared}{pn:List (Addr×Obj)},Inv Y pn σ' H' s'→s'.os=s2.os:=λ{σ' H' s' pn} J=>by
  have e:Y.s₀.os=s2.os:=by rw[← hY];rfl
  exact J.os.trans e
 have DL:s2.heap.objs.size≠Y.env.locals:=by rw[yL,hC];exact ib (Nat.lt_succ_self _)
 have J9:s2.heap.objs.size ∉ fp:=λz=>uF _ (J6 _ z);have Er:∀b∈s2.heap.objs.size::fp,b∈Y.ex:=λb hb=>by rw[J7];exact hb
 have S5:∀{pn:List (Addr×Obj)}{H':Hp},(∀p∈pn,p.1 ∉ fp)→(∀b∈fp,H' b=none)→∀b∈fp,jK Y pn H' b:=λ{pn H'} hp hn b hb=>by
  have ny:=Er b (gq _ hb);refine⟨hn b hb,(IB.ok.wW b ny).1,IB.ok.uQ b ny,.inl ny,(IB.ok.wW b ny).2,λp ve z=>?_⟩;rw[J8,List.nil_append]at ve;exact hp p ve (z▸hb)
 have Af:∀b o,h3.get? b=some o→(xq h3 scope).get? b=some o:=λb o e=>pushCells_keeps _ _ b o (eh _ e);have Ka:tn 0 (xq h3 scope):=T.keep 0 s2.heap _ lB λb _ o e=>Af b o (J5 b o e);have Ag:=Af _ _ gD;have loop:codeAny (model X.prog X.w) X.A (.compLoop (.ListComp jN [⟨tg,iter,jl,0⟩] scope pos) 0 (.ref it) (.ref s2.heap.objs.size) (compEnvC scope (qW X scope h3.objs.size) h3.objs.size X.env)) (R (.ref s2.heap.objs.size) h3.objs.size)
   { s2 with heap:=xq h3 scope }:=by
  refine SW (λn s'=>∃i σ' H' ys its nv,Inv Y [] σ' H' s'∧tn i s'.heap∧(∀b∈fp,H' b=none)∧H' s2.heap.objs.size=none∧
   s'.heap.get? s2.heap.objs.size=some { cls:=.type "list",data:=.seq (its:List Value).toArray nv }∧Vals ys its∧W i n σ' H' ys) m0
   ⟨0,_,H2,[],[],_,IB,Ka,λb hb=>(f2 b hb).1,fD.1,Ag,.nil,w0⟩ ?_
  rintro n s5 ⟨i,σ5,H5,ys,its,nv,I5,t5,zJ,Kb,S6,Ah,w5⟩;unfold En;dsimp only;have Kc:Inv Y [(s2.heap.objs.size,{ cls:=.type "list",data:=.seq its.toArray nv })] σ5 H5 s5:=I5.zC λp hp=>by
   have e:=dX.mp hp;subst e;exact⟨S6,Kb,DL,IB.ok.uQ _ (Er _ dj),λv z=>by cases z⟩
  have S7:∀p∈[((s2.heap.objs.size:Addr),({ cls:=.type "list",data:=.seq its.toArray nv }:Obj))],p.1 ∉ fp:=λp hp=>by
   have e:=dX.mp hp;subst e;exact J9
  have Es:∀{H':Hp},(∀b∈fp,H' b=none)→∀b∈fp,jK Y [((s2.heap.objs.size:Addr),({ cls:=.type "list",data:=.seq its.toArray nv }:Obj))] H' b:=λhn=>S5 S7 hn;rcases nX i n σ5 H5 ys w5 with⟨stop,hz,qn⟩|⟨go,hz,NN,Kd,step⟩
  ·rw[← yA];refine ai (T.done Y yP yW yK yc i _ s5 σ5 H5 (λ_ _=>False) Kc (Es zJ) t5 stop) (λr s6 h6=>?_) λ_ _ f=>f.elim;obtain⟨hr,I6⟩:=h6;subst hr;have Et:=I6.pin (s2.heap.objs.size,_) (jv _ (dX.mpr rfl));have nD:H2 s2.heap.objs.size=none:=fD.1;have base:=yb I6;have un:Un (fq X.stack) (s2.heap.objs.size::fp) H2 (upd H5 s2.heap.objs.size (.lst ys)) h3 s6.heap:=⟨base.keep,base.slot,λb o e n hx=>by
     rw[cF (λz=>hx (by rw[z];exact dj))];exact base.free b o e n hx,base.there,
    λb xs e=>by rw[cF (eO e nD)];exact base.j5 b xs e,λb o u e=>by rw[cF (eO e nD)];exact base.jI b o u e,λb ps e=>by
     obtain⟨more,q⟩:=base.j6 b ps e;exact⟨more,by rw[cF (eO e nD)];exact q⟩⟩
   have bQ:dy X.prog X.w (upd H5 s2.heap.objs.size (.lst ys)) s6.heap:=λb u e=>by
    have Ke:=I6.bQ;rw[yP,yW]at Ke;by_cases hb:b=s2.heap.objs.size
    ·subst hb;rw[aY]at e;cases e;exact⟨hz,its,nv,Ah,Et.1⟩
    ·rw[cF hb]at e;exact(Ke b u e).nh (λc v _ q=>q) (λc q=>by rw[cF (eO q Et.2.1)];exact q) λc xs q=>by rw[cF (eO q Et.2.1)];exact q
   have I7:Inv X aK σ (upd H5 s2.heap.objs.size (.lst ys)) s6:=I3.DG (S4 I6) un bQ I6.bare λb hb=>by
    have z:=(hex b hb).1;exact⟨z.2.2.2.1,z.2.1,z.2.2.2.2.1,z.2.2.2.2.2⟩
   have S8:H5 h3.objs.size=none:=by rw[← yL];exact I6.free
   have CD:h3.objs.size≠s2.heap.objs.size:=by rw[hC];exact Nat.succ_ne_self _
   refine SX _ _ s6 H5 ys I7 (I3.qS (cC _) (by rw[cF CD];exact S8)) ?_ (qn _ Kb);obtain⟨m,hn,_⟩:=I6.loc;rw[yL]at hn;exact⟨m,hn⟩
  ·rw[← yA];have lift:∀{α:Type}{t:Sem α}{Q1 Q2:α→Shared→Prop}{s':Shared},wpAny (model X.prog X.w) Y.A t Q1 Y.xe s'→(∀a l8,Q1 a l8→Q2 a l8)→
     wpAny (model X.prog X.w) Y.A t Q2 (notedBy (model X.prog X.w) Y.A (compEnvC scope (qW X scope h3.objs.size) h3.objs.size X.env) λe s'=>R (.ref s2.heap.objs.size) h3.objs.size (.error e) s') s':=λh k=>
    ai h k λ_ _ f=>by rw[yx]at f;exact f.elim
   refine lift (T.item Y yP yW yK yc i _ s5 σ5 H5 Y.xe Kc (Es zJ) t5 go) λr s6 h6=>?_;obtain⟨u,hr,h6⟩:=h6;subst hr;refine lift h6 λ_ s7 h7=>?_;obtain⟨x,H7,I7,r7,y7,t7,S9⟩:=h7;have Ta:=I7.pinned (Es S9) (T.obj _ _ t7);have ha:=yg _ s7 σ5 H7 x u _ Ta r7 (step x H7 y7);rw[yP,yW,Ep]at ha;refine lift ha λ_ s8 h8=>?_;obtain⟨σ8,H8,I8,q8⟩:=h8;have hb:=yt _ s8 σ8 H8 _ I8 q8;rw[yP,yW,Ep]at hb;refine lift hb λok s9 h9=>?_;obtain⟨H9,I9,q9⟩:=h9;have after:∀{σ':St}{H':Hp}{s':Shared},Inv Y ([((s2.heap.objs.size:Addr),({ cls:=.type "list",data:=.seq its.toArray nv }:Obj))]++xf fp s7.heap) σ' H' s'→
     Inv Y [] σ' H' s'∧tn (i+1) s'.heap∧(∀b∈fp,H' b=none)∧H' s2.heap.objs.size=none∧s'.heap.get? s2.heap.objs.size=some { cls:=.type "list",data:=.seq its.toArray nv }:=λ{σ' H' s'} J=>by
    have pD:=J.pin (s2.heap.objs.size,_) (jv _ (nN _ (dX.mpr rfl)));refine⟨J.zC (λp hp=>by cases hp),T.keep _ _ _ t7 λb hb o e=>(J.pin (b,o) (jv _ (jv _ (zI hb e)))).1,λb hb=>?_,pD.2.1,pD.1⟩;obtain⟨o,e,d⟩:=T.obj _ _ t7 b hb;exact(J.pin (b,o) (jv _ (jv _ (zI hb e)))).2.1
   cases ok with
   |false=>
    rw[ah (by decide)]at q9;rw[ah (by decide)];obtain⟨m',hm,w9⟩:=Kd _ _ _ q9;obtain⟨a1,a2,a3,a4,a5⟩:=after I9;exact⟨m',hm,i+1,σ8,H9,ys,its,nv,a1,a2,a3,a4,a5,Ah,w9⟩
   |true=>
    rw[ae rfl]at q9;rw[ae rfl];have hd:=ye _ s9 σ8 H9 _ I9 q9;rw[yP,yW,Ep]at hd;refine lift hd λv pb Eu=>?_;obtain⟨y,Kf,Tb,Tc,Td⟩:=Eu;obtain⟨m',hm,Te⟩:=Kd _ _ _ Td;obtain⟨a1,a2,a3,a4,a5⟩:=after Tb;have cJ:=Ah.length;refine append_at (hsz:=by rw[dP];lia) a5 λh' sb g'=>?_;have Kg:=Er _ (dj (a:=s2.heap.objs.size) (l:=fp));have Tf:Inv Y [] σ8 Kf { pb with heap:=h' }:=a1.turned (t':=pb.toks) (it:=s2.heap.objs.size) (λb o hb e=>(sb.2 b hb).trans e) a4 DL (.inl Kg) (IB.ok.wW _ Kg).2 (by rw[J8];intro p hp;cases hp);refine⟨m',hm,i+1,σ8,Kf,ys++[y],its++[v],nv+1,Tf,T.keep _ _ _ a2 λb hb o e=>(sb.2 b (λz=>J9 (z▸hb))).trans e,a3,a4,?_,Ah.snoc Tc,Te⟩;rw[g',List.push_toArray]
 exact codeAny_compStart_list loop (T.self X.A 0 _ _ _ Ka loop)
theorem Kh(S:dg X.N X.env.scope N own caps scope){σ:St}(I:Inv X aK σ H s):closureFor scope X.env=pure (j8 X.env.cells scope.names []):=
 SK λx hx hk=>I.ok.has x.1 (S.free x hx hk)
theorem gW(hc:X.calm=true)(hi:PI X tg iter wi)(S:dg X.N X.env.scope N own caps scope)
  (hg:∀cs C s₀ H₀ ex,PG (nu X N scope cs C s₀ H₀ ex) tg g) (ht:∀cs C s₀ H₀ ex,vc (nu X N scope cs C s₀ H₀ ex) jl tt) (he:∀cs C s₀ H₀ ex,PE (nu X N scope cs C s₀ H₀ ex) jN te)
  (hs:∀x,foldedSetIterable iter X.env x=pure x:=by intro _;rfl):PE X (.ListComp jN [⟨tg,iter,jl,0⟩] scope pos) (iP wi own caps g tt te):=by
 intro aK s σ H Q I h;rw[eval_ListComp];refine wpAny_comprehension_free (use:=none) rfl hs (Kh S I) S.kind (λx hx hl=>xp S.Ae (by rw[← hl];exact hx)) ?_;refine bt (hi aK s σ H _ I h) λv s1 h1=>bt h1 λzF s2 h2=>?_;obtain⟨it,fp,tn,J,H2,e,I2,T,lB,f2,W,⟨m0,w0⟩,nX⟩:=h2;subst e;refine J3 hc S hg ht he I2 T lB f2 w0 nX λD C s' H' ys I' F' hn q=>?_;obtain⟨m,hn⟩:=hn;refine⟨m,hn,λh' sb=>⟨.ref D,_,I'.turned (t':=s'.toks) (λb o hb e=>(sb.2 b hb).trans e) F'.1 F'.2.1 F'.2.2.2.1 F'.2.2.2.2.1 F'.2.2.2.2.2,rfl,q⟩⟩
theorem me{nW Ki:Pos}(hc:X.calm=true)(hN:X.N.Nodup)(Ai:X.N[i]?=some x)(hx:X.env.scope.names.lookup x=some .local)(hi:PI X tg iter wi)(S:dg X.N X.env.scope N own caps scope)
  (hg:∀cs C s₀ H₀ ex,PG (nu X N scope cs C s₀ H₀ ex) tg g) (ht:∀cs C s₀ H₀ ex,vc (nu X N scope cs C s₀ H₀ ex) jl tt) (he:∀cs C s₀ H₀ ex,PE (nu X N scope cs C s₀ H₀ ex) jN te)
  (Tg:swapsWith (.ListComp jN [⟨tg,iter,jl,0⟩] scope pos) (some (.Name x nW)) Ki.line X.env=pure true:=by rfl)
  (hs:∀x,foldedSetIterable iter X.env x=pure x:=by intro _;rfl):PS X (.Assign [.Name x nW] (.ListComp jN [⟨tg,iter,jl,0⟩] scope pos) Ki) (cB (iP wi own caps g tt te) (br i)):=by
 intro aK s σ H D I h;rw[exec_Assign_Name_used _ _ _ _ Tg];refine au (wpAny_standAt (au ?_));show wpAny _ X.A (do let _ ← comprehension (.ListComp jN [⟨tg,iter,jl,0⟩] scope pos) scope X.env _ (newList []) false (eval iter X.env) (some (assign (.Name x nW) X.env))) _ _ s
 refine au (ai (wpAny_comprehension_free (use:=some (assign (.Name x nW) X.env)) (Q:=λ_ s'=>SP X aK D .next s') rfl hs (Kh S I) S.kind (λx hx hl=>xp S.Ae (by rw[← hl];exact hx)) ?_) (λ_ s' hq=>ay (ay hq)) λ_ _ e=>e);refine bt (hi aK s σ H _ I h) λv s1 h1=>bt h1 λzF s2 h2=>?_;obtain⟨it,fp,tn,J,H2,e,I2,T,lB,f2,W,⟨m0,w0⟩,nX⟩:=h2;subst e;refine J3 hc S hg ht he I2 T lB f2 w0 nX λD' C s' H' ys I' F' hn q=>?_;obtain⟨m,hn⟩:=hn;refine wpAny_assign_Name (IV (v:=.ref D') I' hN Ai (.inl hx) rfl (λl8 Th vf=>?_) (.inr hx));obtain⟨a,sb,ha⟩:=vf;have Ti:C≠a:=by
  rcases ha with ha|ha
  ·rw[ha];exact F'.2.1
  ·exact(F'.2.2.2.2.1 x a ha).symm
 exact⟨m,hn.sameBut sb Ti,λh' Tj=>⟨_,_,Th.turned (t':=l8.toks) (λb o hb e=>(Tj.2 b hb).trans e) F'.1 F'.2.1 F'.2.2.2.1 F'.2.2.2.2.1 F'.2.2.2.2.2,q⟩⟩
end
noncomputable def Tn(b:Bool):String:=match b with
 |true => "list_iterator"
 |false => "tuple_iterator"
noncomputable def To(b:Bool):String:=match b with
 |true => "list"
 |false => "tuple"
noncomputable abbrev mf(b:Bool)(a:Addr)(i:Nat):Obj:={ cls:=.type (Tn b),data:=.fields #[.ref a,.int i 0] }
def jm(b:Bool)(h:Heap)(it a:Addr)(i:Nat):Prop:=h.get? it=some (mf b a i)
def j9(b:Bool)(h:Heap)(a:Addr)(its:Array Value):Prop:=∃o n,h.get? a=some o∧o.cls=.type (To b)∧o.data=.seq its n
section
variable(it a:Addr)(i:Nat)(its:Array Value)(o:Obj)(n:Nat)(ed:o.data=.seq its n)
include ed
theorem Tp(x:Value)(hx:its[i]?=some x) :
  Meets (Builtin.«tuple_iterator.__next__» ⟨[.ref it],[]⟩) (λ_ R s=>(s.heap.get? it=some (mf false a i)∧s.heap.get? a=some o)∧
   R (.ok (.ret x)) { s with heap:=s.heap.update it (Obj.mapFields λvs=>vs.setIfInBounds 1 (rawInt ((i:Int)+1))) }):=
 .of_wp λprog w A R s hyp=>by
  obtain⟨h,g,dr,tk,os⟩:=s;obtain⟨⟨e1,e2⟩,fin⟩:=hyp;have iQ:its[((i:Nat):Int).toNat]?=some x:=by simpa using hx
  wp_walk
  rw[ed];wp_walk
  rw[iQ];wp_walk
  exact⟨_,rfl,fin⟩
theorem Tq(x:Value)(hx:its[i]?=some x) :
  Meets (Builtin.«list_iterator.__next__» ⟨[.ref it],[]⟩) (λ_ R s=>(s.heap.get? it=some (mf true a i)∧s.heap.get? a=some o)∧
   R (.ok (.ret x)) { s with heap:=s.heap.update it (Obj.mapFields λvs=>vs.setIfInBounds 1 (rawInt ((i:Int)+1))) }):=
 .of_wp λprog w A R s hyp=>by
  obtain⟨h,g,dr,tk,os⟩:=s;obtain⟨⟨e1,e2⟩,fin⟩:=hyp;have iQ:its[((i:Nat):Int).toNat]?=some x:=by simpa using hx
  wp_walk
  rw[ed];wp_walk
  rw[iQ];wp_walk
  exact⟨_,rfl,fin⟩
theorem Tr(hx:its[i]?=none) :
  Meets (Builtin.«tuple_iterator.__next__» ⟨[.ref it],[]⟩) (λA R s=>A.handled=none∧(s.heap.get? it=some (mf false a i)∧s.heap.get? a=some o)∧
   ∀h' e,(∀b u,b≠it→s.heap.get? b=some u→h'.get? b=some u)→(∃u,h'.get? e=some u∧u.cls=.type "StopIteration")→R (.error (.ref e)) { s with heap:=h' }):=
 .of_wp λprog w A R s hyp=>by
  obtain⟨h,g,dr,tk,os⟩:=s;obtain⟨hh,⟨e1,e2⟩,fin⟩:=hyp;have Ts:A.in1.handled=none:=hh;have iQ:its[((i:Nat):Int).toNat]?=none:=by simpa using hx
  wp_walk
  rw[ed];wp_walk
  rw[iQ];wp_walk
  unfold raiseNew;wp_walk
  refine fin _ _ (λb u hb q=>?_) ⟨_,iW _ rfl,rfl⟩;exact eh _ (eh _ ((Heap.get?_update_other _ _ (Ne.symm hb)).trans q))
theorem Tt(hx:its[i]?=none) :
  Meets (Builtin.«list_iterator.__next__» ⟨[.ref it],[]⟩) (λA R s=>A.handled=none∧(s.heap.get? it=some (mf true a i)∧s.heap.get? a=some o)∧
   ∀h' e,(∀b u,b≠it→s.heap.get? b=some u→h'.get? b=some u)→(∃u,h'.get? e=some u∧u.cls=.type "StopIteration")→R (.error (.ref e)) { s with heap:=h' }):=
 .of_wp λprog w A R s hyp=>by
  obtain⟨h,g,dr,tk,os⟩:=s;obtain⟨hh,⟨e1,e2⟩,fin⟩:=hyp;have Ts:A.in1.handled=none:=hh;have iQ:its[((i:Nat):Int).toNat]?=none:=by simpa using hx
  wp_walk
  rw[ed];wp_walk
  rw[iQ];wp_walk
  unfold raiseNew;wp_walk
  refine fin _ _ (λb u hb q=>?_) ⟨_,iW _ rfl,rfl⟩;exact eh _ (eh _ ((Heap.get?_update_other _ _ (Ne.symm hb)).trans q))
end
section
variable{prog:Program}{w:World}{A:Around}{E:QV}{s:Shared}{b:Bool}{it a:Addr}{i:Nat}{its:Array Value}
theorem jm.moved(h:Heap)(e:jm b h it a i):jm b (h.update it (Obj.mapFields λvs=>vs.setIfInBounds 1 (rawInt ((i:Int)+1)))) it a (i+1):=uG _ e rfl
theorem Tu{x:Value}(e1:jm b s.heap it a i)(e2:j9 b s.heap a its)(hx:its[i]?=some x)
  (q:∀h',jm b h' it a (i+1)→Heap.SameBut it s.heap h'→Q x { s with heap:=h' }):wpAny (model prog w) A (Builtin.SmallTypes.nextOf (.ref it)) Q E s:=by
 obtain⟨o,n,eo,ec,ed⟩:=e2;cases b<;>unfold Builtin.SmallTypes.nextOf
 ·exact au (aC (T := "tuple_iterator") ⟨_,e1,rfl⟩ IP (aF IP ⟨_,e1,rfl⟩ F.entry_tuple_iterator_next (F.args_tuple_iterator_next_1 _) (Tp it a i its o n ed x hx) ⟨⟨e1,eo⟩,ay (q _ (jm.moved _ e1) (oX ..))⟩))
 ·exact au (aC (T := "list_iterator") ⟨_,e1,rfl⟩ slot_listiter_next (aF slot_listiter_next ⟨_,e1,rfl⟩ entry_listiter_next (args_listiter_next _) (Tq it a i its o n ed x hx) ⟨⟨e1,eo⟩,ay (q _ (jm.moved _ e1) (oX ..))⟩))
theorem Tv(hh:A.handled=none)(e1:jm b s.heap it a i)(e2:j9 b s.heap a its)(hx:its[i]?=none)
  (q:∀h' e,Heap.ExtBut it s.heap h'→(∃u,h'.get? e=some u∧u.cls=.type "StopIteration")→E (.ref e) { s with heap:=h' }):wpAny (model prog w) A (Builtin.SmallTypes.nextOf (.ref it)) Q E s:=by
 obtain⟨o,n,eo,ec,ed⟩:=e2;cases b<;>unfold Builtin.SmallTypes.nextOf
 ·exact au (aC (T := "tuple_iterator") ⟨_,e1,rfl⟩ IP (aF IP ⟨_,e1,rfl⟩ F.entry_tuple_iterator_next (F.args_tuple_iterator_next_1 _) (Tr it a i its o n ed hx) ⟨hh,⟨e1,eo⟩,λh' e k z=>q h' e (λc u hc y=>k c u hc y) z⟩))
 ·exact au (aC (T := "list_iterator") ⟨_,e1,rfl⟩ slot_listiter_next (aF slot_listiter_next ⟨_,e1,rfl⟩ entry_listiter_next (args_listiter_next _) (Tt it a i its o n ed hx) ⟨hh,⟨e1,eo⟩,λh' e k z=>q h' e (λc u hc y=>k c u hc y) z⟩))
end
theorem Aj{prog:Program}{w:World}(b:Bool)(hh:A.handled=none)(it l:Addr)(dM:l≠it)(items:Array Value) :
  Draws prog w A it [it,l] items.size (λi v=>items[i]?=some v) (λi h=>jm b h it l i∧j9 b h l items):=by
 refine⟨λi h st=>⟨_,st.1⟩,λi h h' st k=>⟨k it (by simp) _ st.1,?_⟩,λi s Q E hi st q=>?_,λs Q E st q=>Tv hh st.1 st.2 (by simp) q⟩
 ·obtain⟨o,n,eo,r⟩:=st.2;exact⟨o,n,k l (by simp) o eo,r⟩
 ·have hx:items[i]?=some items[i]:=by simp[hi]
  refine Tu st.1 st.2 hx λh' e1 sb=>q _ h' s.toks hx ⟨e1,?_⟩ sb;obtain⟨o,n,eo,r⟩:=st.2;exact⟨o,n,(sb.2 l dM).trans eo,r⟩
structure Ew(z TI TO i1 i2:Addr)(p9 qa:List Addr):Prop where
 Kj:TI≠z
 qX:TO≠z
 Ak:i1≠z
 Ex:i2≠z
 Tw:TI≠TO
 Tx:TI≠i1
 Tz:TI≠i2
 Kk:TO≠i1
 TC:TO≠i2
 Kl:i1≠i2
 fz:z ∉ p9∧z ∉ qa
 fO:TO ∉ p9∧TO ∉ qa
 f2:i2 ∉ p9
 f1:i1 ∉ qa
section
variable{prog:Program}{w:World}{A:Around}{E:QV}{z TI TO i1 i2:Addr}{p9 qa:List Addr}{n1 n2 k:Nat}{P1 P2:Nat→Value→Prop}{S1 S2:Nat→Heap→Prop}{a b:Value}
theorem Draws.but{fp:List Addr}{n:Nat}{P:Nat→Value→Prop}{St:Nat→Heap→Prop}(D:PySem.Draws prog w A it fp n P St){k:Nat}(x:St k h)(hc:c ∉ fp)(sb:Heap.SameBut c h h'):St k h':=
 D.frame _ _ _ x λb hb o e=>(sb.2 b λz=>hc (z▸hb)).trans e
def Km(z TO i1 i2:Addr)(h h':Heap):Prop:=∀c o,c≠z→c≠TO→c≠i1→c≠i2→h.get? c=some o→h'.get? c=some o
set_option maxHeartbeats 2000000 in
theorem TF(D1:PySem.Draws prog w A i1 p9 n1 P1 S1)(D2:PySem.Draws prog w A i2 qa n2 P2 S2)(D:Ew z TI TO i1 i2 p9 qa)
  (hz:IsZip s.heap z TI TO .none) (hT:IsPair s.heap TI (.ref i1) (.ref i2)) (hO:IsPair s.heap TO a b) (h1:S1 k s.heap) (h2:S2 k s.heap) (l1:k<n1) (l2:k<n2)
  (q:∀x y h' t,P1 k x→P2 k y→IsZip h' z TI TO (rawInt s.heap.objs.size)→IsPair h' TO x y→S1 (k+1) h'→S2 (k+1) h'→IsPair h' s.heap.objs.size x y→h'.objs.size=s.heap.objs.size+1→Km z TO i1 i2 s.heap h'→
   Q (.ref s.heap.objs.size) { s with heap:=h',toks:=t }):wpAny (model prog w) A (Builtin.«zip.__next__» ⟨[.ref z],[]⟩) (λfin s'=>∃v,fin=.done (.ret v)∧Q v s') E s:=by
 obtain⟨h,g,dr,tk,os⟩:=s;have xt:h.get? z=some _:=hz;have TH:h.get? TI=some _:=hT;wp_walk using wpAny_onRaise,D1.item k _ _ _ l1
 ·exact Draws.but D1 h1 D.fz.1 (oX ..)
 intro x ha ta p1 sa ka;replace ka:Heap.SameBut i1 (h.update z _) ha:=ka;have zz:=oX h z (Obj.mapFields λvs=>vs.setIfInBounds 0 Value.ellipsis);have Al:ha.get? TO=some _:=((ka.2 TO D.Kk).trans (zz.2 TO D.qX)).trans hO;have tt:=oX ha TO (Obj.mapSeq λvs=>vs.setIfInBounds 0 x);wp_walk using wpAny_onRaise,wpAny_updateSeq Al rfl,D2.item k _ _ _ l2
 all_goals try exact Draws.but D2 (Draws.but D2 (Draws.but D2 h2 D.fz.2 zz) D.f1 ka) D.fO.2 tt
 intro y hb tb p2 sb kb;replace kb:Heap.SameBut i2 (ha.update TO _) hb:=kb;have Kn:hb.get? TO=some { cls:=.type "tuple",data:=.seq #[x,b] }:=by
  rw[kb.2 TO D.TC,uG _ Al rfl];simp[Obj.mapSeq]
 have TJ:hb.get? z=some { cls:=.type "zip",dict:=none,data:=.fields #[.ellipsis,.bool false,.bool false,.ref TI,.ref TO],slots:=#[] }:=by
  rw[kb.2 z D.Ex.symm,tt.2 z D.qX.symm,ka.2 z D.Ak.symm,uG _ xt rfl];simp[Obj.mapFields]
 have nz:TO≠z:=D.qX;wp_walk using wpAny_updateSeq Kn rfl
 refine⟨_,rfl,?_⟩;dsimp only;have sz:hb.objs.size=h.objs.size:=by rw[kb.1,tt.1,ka.1,zz.1]
 have uu:=oX hb TO (Obj.mapSeq λvs=>vs.setIfInBounds (0+1) y);have Ko:(hb.update TO (Obj.mapSeq λvs=>vs.setIfInBounds (0+1) y)).get? TO=some { cls:=.type "tuple",data:=.seq #[x,y] }:=by
  rw[uG _ Kn rfl];simp[Obj.mapSeq]
 have ex:(#[x,b].setIfInBounds (0+1) y).toList.toArray=#[x,y]:=by simp
 rw[ex];generalize hb.update TO (Obj.mapSeq λvs=>vs.setIfInBounds (0+1) y)=hc at uu Ko ⊢;have TK:hc.objs.size=h.objs.size:=uu.1.trans sz;have new:=iW hc (o:={ cls:=.type "tuple",data:=.seq #[x,y] }) rfl;have Ey:=r8 hc { cls:=.type "tuple",data:=.seq #[x,y] };have old:∀c o,hc.get? c=some o→(hc.push { cls:=.type "tuple",data:=.seq #[x,y] }).get? c=some o:=λc o e=>eh _ e;rw[TK]at new Ey ⊢;generalize hc.push { cls:=.type "tuple",data:=.seq #[x,y] }=hp at new Ey old ⊢;have TL:=old z _ ((uu.2 z D.qX.symm).trans TJ);have v1:=oX hp z (Obj.mapFields λvs=>vs.setIfInBounds 0 (rawInt h.objs.size));have v2:=oX (hp.update z (Obj.mapFields λvs=>vs.setIfInBounds 0 (rawInt h.objs.size))) z (Obj.mapFields λvs=>vs.setIfInBounds 1 (Value.bool false));have Kq:((hp.update z (Obj.mapFields λvs=>vs.setIfInBounds 0 (rawInt h.objs.size))).update z (Obj.mapFields λvs=>vs.setIfInBounds 1 (Value.bool false))).get? z=some { cls:=.type "zip",dict:=none,data:=.fields #[rawInt h.objs.size,.bool false,.bool false,.ref TI,.ref TO],slots:=#[] }:=by
  rw[uG _ (uG _ TL rfl) rfl];simp[Obj.mapFields]
 have fwd:∀c o,c≠z→hc.get? c=some o→((hp.update z (Obj.mapFields λvs=>vs.setIfInBounds 0 (rawInt h.objs.size))).update z (Obj.mapFields λvs=>vs.setIfInBounds 1 (Value.bool false))).get? c=some o:=λc o ne e=>((v2.2 c ne).trans (v1.2 c ne)).trans (old c o e);have Kr:=(v2.1.trans v1.1).trans Ey;have xu:=((v2.2 h.objs.size (Nat.ne_of_gt (dO xt))).trans (v1.2 h.objs.size (Nat.ne_of_gt (dO xt)))).trans new;generalize (hp.update z (Obj.mapFields λvs=>vs.setIfInBounds 0 (rawInt h.objs.size))).update z (Obj.mapFields λvs=>vs.setIfInBounds 1 (Value.bool false))=hF at Kq fwd Kr xu ⊢;refine q x y hF tb p1 p2 Kq (fwd TO _ D.qX Ko) (D1.frame _ _ _ (Draws.but D1 (Draws.but D1 (Draws.but D1 sa D.fO.1 tt) D.f2 kb) D.fO.1 uu) λc hm o e=>fwd c o (λj=>D.fz.1 (j▸hm)) e)
  (D2.frame _ _ _ (Draws.but D2 sb D.fO.2 uu) λc hm o e=>fwd c o (λj=>D.fz.2 (j▸hm)) e) xu Kr λc o n1 n2 n3 n4 e=>fwd c o n1 ?_
 rw[uu.2 c n2,kb.2 c n4,tt.2 c n2,ka.2 c n3,zz.2 c n1];exact e
end
section
variable{prog:Program}{w:World}{A:Around}{E:QV}{z TI TO i1 i2:Addr}{p9 qa:List Addr}{n1 n2 k:Nat}{P1 P2:Nat→Value→Prop}{S1 S2:Nat→Heap→Prop}{a b:Value}
set_option maxHeartbeats 2000000 in
theorem TM{Q:Fin→Shared→Prop}(D1:PySem.Draws prog w A i1 p9 n1 P1 S1)(D2:PySem.Draws prog w A i2 qa n2 P2 S2)(D:Ew z TI TO i1 i2 p9 qa)
  (hz:IsZip s.heap z TI TO .none) (hT:IsPair s.heap TI (.ref i1) (.ref i2)) (hO:IsPair s.heap TO a b) (h1:S1 k s.heap) (h2:S2 k s.heap) (TN:k=n1∨(k<n1∧k=n2))
  (q:∀h' e t,Km z TO i1 i2 s.heap h'→(∃o,h'.get? e=some o∧o.cls=.type "StopIteration")→E (.ref e) { s with heap:=h',toks:=t }):wpAny (model prog w) A (Builtin.«zip.__next__» ⟨[.ref z],[]⟩) Q E s:=by
 obtain⟨h,g,dr,tk,os⟩:=s;have xt:h.get? z=some _:=hz;have TH:h.get? TI=some _:=hT;have zz:=oX h z (Obj.mapFields λvs=>vs.setIfInBounds 0 Value.ellipsis);have Ks:(h.update z (Obj.mapFields λvs=>vs.setIfInBounds 0 Value.ellipsis)).get? z=some { cls:=.type "zip",dict:=none,data:=.fields #[.ellipsis,.bool false,.bool false,.ref TI,.ref TO],slots:=#[] }:=by
  rw[uG _ xt rfl];simp[Obj.mapFields]
 rcases TN with rfl|⟨l1,rfl⟩
 ·wp_walk using wpAny_onRaise,D1.done
  all_goals try exact Draws.but D1 h1 D.fz.1 zz
  intro hx e kx ⟨oe,xe,xc⟩;have Ez:hx.get? z=some _:=kx z _ D.Ak.symm Ks;have EA:e≠z:=λy=>by
   subst y;rw[Ez]at xe;cases xe;simp at xc
  wp_walk
  have vv:=oX hx z (Obj.mapFields λvs=>vs.setIfInBounds 0 Value.none);exact q _ e _ (λc o m1 m2 m3 m4 y=>(vv.2 c m1).trans (kx c o m3 ((zz.2 c m1).trans y))) ⟨oe,(vv.2 e EA).trans xe,xc⟩
 ·wp_walk using wpAny_onRaise,D1.item k _ _ _ l1
  all_goals try exact Draws.but D1 h1 D.fz.1 zz
  intro x ha ta p1 sa ka;replace ka:Heap.SameBut i1 (h.update z _) ha:=ka;have Al:ha.get? TO=some _:=((ka.2 TO D.Kk).trans (zz.2 TO D.qX)).trans hO;have tt:=oX ha TO (Obj.mapSeq λvs=>vs.setIfInBounds 0 x);wp_walk using wpAny_onRaise,wpAny_updateSeq Al rfl,D2.done
  all_goals try exact Draws.but D2 (Draws.but D2 (Draws.but D2 h2 D.fz.2 zz) D.f1 ka) D.fO.2 tt
  intro hx e kx ⟨oe,xe,xc⟩;replace kx:Heap.ExtBut i2 (ha.update TO _) hx:=kx;have Ez:hx.get? z=some _:=kx z _ D.Ex.symm ((tt.2 z D.qX.symm).trans ((ka.2 z D.Ak.symm).trans Ks));have EA:e≠z:=λy=>by
   subst y;rw[Ez]at xe;cases xe;simp at xc
  wp_walk
  have vv:=oX hx z (Obj.mapFields λvs=>vs.setIfInBounds 0 Value.none);exact q _ e _ (λc o m1 m2 m3 m4 y=>(vv.2 c m1).trans (kx c o m4 ((tt.2 c m2).trans ((ka.2 c m3).trans ((zz.2 c m1).trans y))))) ⟨oe,(vv.2 e EA).trans xe,xc⟩
end
def Sq(b:Bool)(K:Frag)(H:Hp)(a:Addr)(xs:List V):Prop:=match b with
 |true=>cV K H a xs
 |false=>bh K H a xs
theorem Inv.sq{σ:St}(I:Inv X aK σ H s)(h:Sq b X.K H a xs):∃its:List Value,Vals xs its∧j9 b s.heap a its.toArray∧xs.length≤sizeLine:=by
 cases b with
 |true=>
  obtain⟨its,rv,p,hz⟩:=I.list h;obtain⟨o,eo,ec,n,ed⟩:=p.isList;exact⟨its,rv,⟨o,n,eo,ec,ed⟩,hz⟩
 |false=>
  obtain⟨its,rv,⟨o,eo,ec,n,ed⟩,hz⟩:=I.tuple h;exact⟨its,rv,⟨o,n,eo,ec,ed⟩,hz⟩
theorem Inv.Kt{σ:St}{ys:List V}(I:Inv X aK σ H s)(h:Sq b X.K H a xs)(h':Sq b X.K H a ys):xs=ys:=by
 cases b with
 |true=>exact I.Jf h h'
 |false=>exact I.Jg h h'
theorem jm.up(x:jm b h it a i)(k:∀o,h.get? it=some o→h'.get? it=some o):jm b h' it a i:=k _ x
theorem jm.obj(x:jm b h it a i):∃o,h.get? it=some o∧∀v,o.data≠.cell v:=⟨_,x,λv z=>by cases z⟩
theorem j9.obj(x:j9 b h a its):∃o,h.get? a=some o:=let ⟨o,_,e,_⟩:=x;⟨o,e⟩
section
variable{X:Cx}{aK:List (Addr×Obj)}{σ:St}{H:Hp}{s:Shared}{h':Heap}
theorem Inv.Ku{t':Nat}{ch:List Addr}(I:Inv X aK σ H s)(k:∀b o,b ∉ ch→s.heap.get? b=some o→h'.get? b=some o)(hf:∀b∈ch,jK X aK H b):Inv X aK σ H { s with heap:=h',toks:=t' }:=by
 have wZ:∀b u,H b=some u→b ∉ ch:=λb u e z=>by rw[(hf b z).1]at e;cases e
 refine I.step (g':=s.gens) (d':=s.drawn) (ch:=ch) (λb hb=>⟨(hf b hb).2.2.2.1,(hf b hb).2.1,(hf b hb).2.2.2.2.1,(hf b hb).2.2.2.2.2⟩) (λb o _ _ hc e _=>k b o hc e) (λb o _ _ hc e _=>⟨o.slots,k b o hc e⟩) (λ_ _ _ _ n=>n)
  (λb o hc e=>⟨o,k b o hc e⟩) (λ_ _ e=>e) (λ_ _ _ e=>e) (λb ps e=>⟨#[],by rw[e];simp⟩) (λm hm=>?_) (λb u e=>?_) I.bare
 ·obtain⟨o,es,ep,ho,r⟩:=hm;exact⟨o,es,ep,k _ o (λz=>(hf _ z).2.1 rfl) ho,r⟩
 ·refine(I.bQ b u e).nh (λc v hc q=>k c v ?_ q) (λ_ q=>q) λ_ _ q=>q;rcases hc with z|z
  ·rw[z];exact wZ b u e
  ·exact wZ c _ z
theorem Inv.TQ{o:HO}(I:Inv X aK σ H s)(f:jK X aK H p)(new:eB X.prog X.w (upd H p o) s.heap p o):Inv X aK σ (upd H p o) s:=by
 have hp:=f.1;refine I.step (g':=s.gens) (d':=s.drawn) (t':=s.toks) (h':=s.heap) (ch:=[p]) (λb hb=>?_) (λb o _ _ _ e _=>e) (λb o _ _ _ e _=>⟨o.slots,e⟩) (λb o hc e n=>?_)
  (λb o _ e=>⟨o,e⟩) (λb xs e=>by rw[cF (eO e hp)];exact e) (λb o u e=>by rw[cF (eO e hp)];exact e) (λb ps e=>⟨#[],by rw[cF (eO e hp),e];simp⟩) (λm hm=>hm) (λb u e=>?_) I.bare
 ·have e:=dX.mp hb;subst e;exact⟨f.2.2.2.1,f.2.1,f.2.2.2.2.1,f.2.2.2.2.2⟩
 ·rw[cF (λz=>hc (by rw[z];exact dX.mpr rfl))];exact n
 ·by_cases hb:b=p
  ·subst hb;rw[aY]at e;cases e;exact new
  ·rw[cF hb]at e;exact(I.bQ b u e).nh (λc v _ q=>q) (λc q=>by rw[cF (eO q hp)];exact q) λc xs q=>by rw[cF (eO q hp)];exact q
end
section
variable{prog:Program}{w:World}{A:Around}{E:QV}{s:Shared}
theorem Kv{T id:String}{v:Value}{Q:Option Value→Shared→Prop}(ty:s.TypeIs v T)(sl:Slot T (Str.ofString "__next__") id)
  (h:wpAny (model prog w) A (call (.builtin id) [v]) (λx s'=>Q (some x) s') (λe s'=>∃c o,e=.ref c∧s'.heap.get? c=some o∧o.cls=.type "StopIteration"∧Q none s') s):wpAny (model prog w) A (pyNext v) Q E s:=by
 unfold pyNext;refine au (wpAny_attempt (aC ty sl (ai h (λx s' y=>ay y) λe s' y=>?_)));obtain⟨c,o,rfl,e1,e2,y⟩:=y;exact au (wpAny_isInstance (b:=true) ⟨o,e1,e2⟩ isSubtype_stop (ay y))
theorem Kw(b:Bool)(e:j9 b s.heap a its)(q:Q (.ref s.heap.objs.size) { s with heap:=s.heap.push (mf b a 0) }):wpAny (model prog w) A (pyIter (.ref a)) Q E s:=by
 obtain⟨o,n,eo,ec,ed⟩:=e;cases b
 ·exact wpAny_pyIter_tuple ⟨o,eo,ec,n,ed⟩ q
 ·exact wpAny_pyIter_list ⟨o,eo,ec,n,ed⟩ q
end
structure Kx(b1 b2:Bool)(l1 l2:Addr)(h h':Heap):Prop where
 zip:IsZip h' (h.objs.size+4) (h.objs.size+2) (h.objs.size+3) .none
 TU:IsPair h' (h.objs.size+2) (.ref h.objs.size) (.ref (h.objs.size+1))
 out:IsPair h' (h.objs.size+3) .none .none
 one:jm b1 h' h.objs.size l1 0
 two:jm b2 h' (h.objs.size+1) l2 0
 old:∀c o,h.get? c=some o→h'.get? c=some o
theorem j9.up(x:j9 b h a its)(k:∀o,h.get? a=some o→h'.get? a=some o):j9 b h' a its:=by
 obtain⟨o,n,eo,r⟩:=x;exact⟨o,n,k o eo,r⟩
theorem TV(b1 b2:Bool)(l1 l2:Addr)(xs ys:Array Value) :
  Meets (Builtin.«zip.__new__» ⟨[.type "zip",.ref l1,.ref l2],[]⟩) (λ_ R s=>(j9 b1 s.heap l1 xs∧j9 b2 s.heap l2 ys)∧
   ∀h',Kx b1 b2 l1 l2 s.heap h'→R (.ok (.ret (.ref (s.heap.objs.size+4)))) { s with heap:=h' }):=
 .of_wp λprog w A R s hyp=>by
  obtain⟨h,g,dr,tk,os⟩:=s;obtain⟨⟨q1,q2⟩,fin⟩:=hyp;have sub:=sub_zip;have TX:j9 b2 (Shared.mk (h.push (mf b1 l1 0)) g dr tk os).heap l2 ys:=q2.up λo e=>eh _ e;wp_walk using Kw b1 q1,Kw b2 TX
  dsimp only;have z1:=r8 h (mf b1 l1 0);generalize e1:h.push (mf b1 l1 0)=ha at *;have z2:=r8 ha (mf b2 l2 0);generalize e2:ha.push (mf b2 l2 0)=hb at *;generalize e3:hb.push _=hc;have z3:hc.objs.size=hb.objs.size+1:=by rw[← e3];exact r8 ..
  generalize e4:hc.push _=hd;have z4:hd.objs.size=hc.objs.size+1:=by rw[← e4];exact r8 ..
  rw[z1]at z2;rw[z2]at z3;rw[z3]at z4;have a1:ha.get? h.objs.size=some (mf b1 l1 0):=by rw[← e1];exact iW _ rfl
  have a2:hb.get? (h.objs.size+1)=some (mf b2 l2 0):=by rw[← e2,← z1];exact iW _ rfl
  have a3:hc.get? (h.objs.size+2)=some { cls:=.type "tuple",data:=.seq #[.ref h.objs.size,.ref (h.objs.size+1)] }:=by
   rw[← e3,← z2,← z1];exact iW _ rfl
  have a4:hd.get? (h.objs.size+3)=some { cls:=.type "tuple",data:=.seq #[.none,.none] }:=by
   rw[← e4,← z3];exact iW _ rfl
  have u1:∀c o,h.get? c=some o→ha.get? c=some o:=λc o y=>by rw[← e1];exact eh _ y
  have u2:∀c o,ha.get? c=some o→hb.get? c=some o:=λc o y=>by rw[← e2];exact eh _ y
  have u3:∀c o,hb.get? c=some o→hc.get? c=some o:=λc o y=>by rw[← e3];exact eh _ y
  have u4:∀c o,hc.get? c=some o→hd.get? c=some o:=λc o y=>by rw[← e4];exact eh _ y
  have u5:∀(r:Obj) c o,hd.get? c=some o→(hd.push r).get? c=some o:=λr c o y=>eh _ y;rw[z2,z3,z4];refine⟨_,rfl,fin _ ⟨?_,u5 _ _ _ (u4 _ _ a3),u5 _ _ _ a4,u5 _ _ _ (u4 _ _ (u3 _ _ (u2 _ _ a1))),u5 _ _ _ (u4 _ _ (u3 _ _ a2)),λc o y=>u5 _ _ _ (u4 _ _ (u3 _ _ (u2 _ _ (u1 _ _ y))))⟩⟩;rw[← z4];exact iW _ rfl
section
variable{prog:Program}{w:World}{A:Around}{E:QV}{s:Shared}
theorem TY(b1 b2:Bool){l1 l2:Addr}{xs ys:Array Value}(q1:j9 b1 s.heap l1 xs)(q2:j9 b2 s.heap l2 ys)
  (q:∀h',Kx b1 b2 l1 l2 s.heap h'→Q (.ref (s.heap.objs.size+4)) { s with heap:=h' }):wpAny (model prog w) A (call (.type "zip") [.ref l1,.ref l2]) Q E s:=
 callType_new F.called_zip (by decide) (F.typeCall_zip_2 _ _) (F.newCall_zip_2 _ _) (λv=>F.args_object_init_3 v _ _) F.entry_zip_new (TV b1 b2 l1 l2 xs ys) ⟨⟨q1,q2⟩,λh' N=>⟨⟨_,N.zip,rfl⟩,q h' N⟩⟩
end
noncomputable def vg(K:Frag)(b1 b2:Bool)(l1 l2:Addr):It:=
 ⟨λi H=>∃xs ys x y,Sq b1 K H l1 xs∧Sq b2 K H l2 ys∧xs[i]?=some x∧ys[i]?=some y,
   λi H v H'=>∃p x y,v=.ref p∧H p=none∧H'=upd H p (.tup [x,y])∧(∀xs,Sq b1 K H l1 xs→xs[i]?=some x)∧∀ys,Sq b2 K H l2 ys→ys[i]?=some y,
   λi H=>∃xs ys,Sq b1 K H l1 xs∧Sq b2 K H l2 ys∧(i=xs.length∨(i<xs.length∧i=ys.length))⟩
theorem TZ{P:Program}{w:World}{x y:V}{u v:Value}(hp:IsPair h p u v)(rx:RelV x u)(ry:RelV y v):eB P w H h p (.tup [x,y]):=
 ⟨by show 2≤sizeLine;decide,[u,v],.cons rx (.cons ry .nil),_,hp,rfl,rfl,_,rfl⟩
structure T4(z TI TO i1 i2 l1 l2:Addr):Prop where
 sep:Ew z TI TO i1 i2 [i1,l1] [i2,l2]
 n1:l1≠i1
 n2:l2≠i2
theorem T5{P:Program}{w:World}{K:Frag}{es:List Expr}{kt:Nat}{pt:Pos}(b1 b2:Bool){z TI TO i1 i2 l1 l2:Addr}(D:T4 z TI TO i1 i2 l1 l2) :
  Turn P w K (.Tuple es kt pt) (vg K b1 b2 l1 l2) [z,TI,TO,i1,i2] z (λi h=>IsZip h z TI TO .none∧IsPair h TI (.ref i1) (.ref i2)∧(∃a b,IsPair h TO a b)∧jm b1 h i1 l1 i∧jm b2 h i2 l2 i) where
 mem:=by simp
 obj:=λi h st b hb=>by
  obtain⟨hz,qc,⟨a,c,qY⟩,h1,h2⟩:=st;simp only[eJ,or_false,List.not_mem_nil]at hb;rcases hb with rfl|rfl|rfl|rfl|rfl
  ·exact⟨_,hz,λv q=>by cases q⟩
  ·exact⟨_,qc,λv q=>by cases q⟩
  ·exact⟨_,qY,λv q=>by cases q⟩
  ·exact h1.obj
  ·exact h2.obj
 keep:=λi h h' st k=>by
  obtain⟨hz,qc,⟨a,c,qY⟩,h1,h2⟩:=st;exact⟨k z (by simp) _ hz,k TI (by simp) _ qc,⟨a,c,k TO (by simp) _ qY⟩,h1.up λo e=>k i1 (by simp) o e,h2.up λo e=>k i2 (by simp) o e⟩
 item:=by
  intro X hP hw hK hc i aK s σ H E I hf st hg;subst hP hw hK;obtain⟨hz,qc,⟨ta,tb,qY⟩,h1,h2⟩:=st;obtain⟨xs,ys,x,y,mh,ir,hx,hy⟩:=hg;obtain⟨vh,Am,p1,Ky⟩:=I.sq mh;obtain⟨vi,An,p2,Kz⟩:=I.sq ir;obtain⟨u,hu,ru⟩:=Am.get hx;obtain⟨v,hv,rv⟩:=An.get hy;have lx:i<vh.toArray.size:=by rw[dP];exact(gc.mp hu).1
  have ly:i<vi.toArray.size:=by rw[dP];exact(gc.mp hv).1
  have hh:X.A.in1.handled=none:=I.ok.hd hc;have T6:z<s.heap.objs.size:=dO hz;refine Kv ⟨_,hz,rfl⟩ F.slot_zip_next (aD F.slot_zip_next ⟨_,hz,rfl⟩ F.entry_zip_next (TF (Aj b1 hh i1 l1 D.n1 vh.toArray) (Aj b2 hh i2 l2 D.n2 vi.toArray) D.sep hz qc qY ⟨h1,p1⟩ ⟨h2,p2⟩ lx ly λu' v' h' tk e1 e2 a1 a2 a3 a4 a5 a6 hk=>?_) (F.args_zip_next_1 _));have eu:u'=u:=by
   have KA:vh.toArray[i]?=some u':=e1;rw[List.getElem?_toArray,hu]at KA;exact(cY KA).symm
  have ev:v'=v:=by
   have KC:vi.toArray[i]?=some v':=e2;rw[List.getElem?_toArray,hv]at KC;exact(cY KC).symm
  subst eu ev;refine⟨_,rfl,wpAny_letOwnedTupleGo_zip a1 λvf T7 sb=>?_⟩;have iZ:∀b o,b ∉ [z,TI,TO,i1,i2]→s.heap.get? b=some o→vf.get? b=some o:=λb o hb e=>by
   have:b≠z∧b≠TI∧b≠TO∧b≠i1∧b≠i2:=by simpa using hb
   exact(sb.2 b this.1).trans (hk b o this.1 this.2.2.1 this.2.2.2.1 this.2.2.2.2 e)
  have I1:Inv X aK σ H { s with heap:=vf,toks:=tk }:=I.Ku iZ hf;have T8:s.heap.objs.size≠z:=Nat.ne_of_gt T6;have EB:IsPair vf s.heap.objs.size u' v':=(sb.2 _ T8).trans a5;have fp:jK X aK H s.heap.objs.size:=I.qS (cC _) (I.bQ.fresh (cC _));have I2:=I1.TQ (o:=.tup [x,y]) fp (TZ EB ru rv);have up:∀b,b≠z→∀o,h'.get? b=some o→vf.get? b=some o:=λb hb o e=>(sb.2 b hb).trans e;refine⟨.ref s.heap.objs.size,_,I2,rfl,⟨_,x,y,rfl,fp.1,rfl,λxs' q=>by rw[I.Kt q mh];exact hx,λys' q=>by rw[I.Kt q ir];exact hy⟩,⟨T7,up _ D.sep.Kj _ (hk _ _ D.sep.Kj D.sep.Tw D.sep.Tx D.sep.Tz qc),⟨_,_,up _ D.sep.qX _ a2⟩,a3.1.up λo e=>up _ D.sep.Ak o e,a4.1.up λo e=>up _ D.sep.Ex o e⟩,λb hb=>?_⟩;rw[cF]
  ·exact(hf b hb).1
  ·obtain⟨o,e⟩:∃o,s.heap.get? b=some o:=by
    simp only[eJ,or_false,List.not_mem_nil]at hb;rcases hb with rfl|rfl|rfl|rfl|rfl
    ·exact⟨_,hz⟩
    ·exact⟨_,qc⟩
    ·exact⟨_,qY⟩
    ·exact⟨_,h1.obj.choose_spec.1⟩
    ·exact⟨_,h2.obj.choose_spec.1⟩
   exact ib (dO e)
 done:=by
  intro X hP hw hK hc i aK s σ H E I hf st hg;subst hP hw hK;obtain⟨hz,qc,⟨ta,tb,qY⟩,h1,h2⟩:=st;obtain⟨xs,ys,mh,ir,hx⟩:=hg;obtain⟨vh,Am,p1,Ky⟩:=I.sq mh;obtain⟨vi,An,p2,Kz⟩:=I.sq ir;have hh:X.A.in1.handled=none:=I.ok.hd hc;have ll1:=Am.length;have ll2:=An.length;refine Kv ⟨_,hz,rfl⟩ F.slot_zip_next (aD F.slot_zip_next ⟨_,hz,rfl⟩ F.entry_zip_next (TM (Aj b1 hh i1 l1 D.n1 vh.toArray) (Aj b2 hh i2 l2 D.n2 vi.toArray) D.sep hz qc qY ⟨h1,p1⟩ ⟨h2,p2⟩ ?_ λh' e tk hk ⟨o,e1,e2⟩=>⟨e,o,rfl,e1,e2,?_⟩) (F.args_zip_next_1 _))
  ·rw[dP,dP];lia
  ·refine⟨rfl,I.Ku (λb o hb y=>?_) hf⟩
   have:b≠z∧b≠TI∧b≠TO∧b≠i1∧b≠i2:=by simpa using hb
   exact hk b o this.1 this.2.2.1 this.2.2.2.1 this.2.2.2.2 y
 self:=λ_ _ _ _ _ st h=>wpAny_pyIter_zip st.1 h
theorem jP{n:Nat}(i j:Nat)(h:i≠j:=by decide):@Ne Addr (n+i) (n+j):=λz=>h (Nat.add_left_cancel z)
theorem vj{n:Nat}{l:Addr}(i:Nat)(h:l<n):@Ne Addr (n+i) l:=Nat.ne_of_gt (iJ h (pS n i))
theorem vk{b:Addr}(h1:a≠b)(h2:a≠c):a ∉ [b,c]:=by simp[h1,h2]
theorem T9:bootBuiltins "zip"=some (.type "zip"):=by decide +kernel
section
variable{X:Cx}
def KD(K:Frag)(b1 b2:Bool)(t:TA):TI:=λσ H R=>t σ H λvs H1=>∃l1 l2,vs=[.ref l1,.ref l2]∧(∃xs,Sq b1 K H1 l1 xs)∧(∃ys,Sq b2 K H1 l2 ys)∧R (vg K b1 b2 l1 l2) H1
theorem Ua(b1 b2:Bool){a b:Expr}{ta:TA}{p pos pt:Pos}{es:List Expr}{kt:Nat}(hg:Gl X "zip")(hm:X.mg "zip"=none)(ha:PA X [a,b] ta)(hs:starEach [a,b] X.env=[(false,eval a X.env),(false,eval b X.env)]:=by rfl)(nj:starEach [b] X.env=[(false,eval b X.env)]:=by rfl) :
  PI X (.Tuple es kt pt) (.Call (.Name "zip" p) [a,b] [] pos) (KD X.K b1 b2 ta):=by
 intro aK s σ H R I h;refine Call_ (sJ I hg hm T9 (Dq (bt (ha pos aK s σ H _ I h) λus s1 ⟨vs,H1,I1,r1,q1⟩=>?_) (by rw[hs,nj]) (by rw[nj];rfl)));obtain⟨l1,l2,e,⟨xs,mh⟩,⟨ys,ir⟩,q⟩:=q1;subst e;cases r1 with
 |cons r rr=>
  cases rr with
  |cons r' rr=>
   cases rr;cases r;cases r';obtain⟨vh,Am,p1,Ky⟩:=I1.sq mh;obtain⟨vi,An,p2,Kz⟩:=I1.sq ir;have a1:l1<s1.heap.objs.size:=by obtain⟨_,e⟩:=p1.obj;exact dO e
   have a2:l2<s1.heap.objs.size:=by obtain⟨_,e⟩:=p2.obj;exact dO e
   refine TY b1 b2 p1 p2 λh' N=>wpAny_pyIter_zip N.zip ?_;refine⟨_,_,_,_,H1,rfl,I1.kept (t':=s1.toks) N.old,T5 b1 b2 (z:=s1.heap.objs.size+4) (TI:=s1.heap.objs.size+2) (TO:=s1.heap.objs.size+3) (i1:=s1.heap.objs.size) (i2:=s1.heap.objs.size+1) ⟨?_,ib a1,ib (Nat.lt_succ_of_lt a2)⟩,⟨N.zip,N.TU,⟨_,_,N.out⟩,N.one,N.two⟩,λb hb=>?_,q⟩
   ·exact⟨jP 2 4,jP 3 4,jP 0 4,jP 1 4,jP 2 3,jP 2 0,jP 2 1,jP 3 0,jP 3 1,jP 0 1,⟨vk (jP 4 0) (vj 4 a1),vk (jP 4 1) (vj 4 a2)⟩,⟨vk (jP 3 0) (vj 3 a1),vk (jP 3 1) (vj 3 a2)⟩,vk (jP 1 0) (vj 1 a1),vk (jP 0 1) (vj 0 a2)⟩
   ·have ny:s1.heap.objs.size≤b:=by
     simp only[eJ,or_false,List.not_mem_nil]at hb;rcases hb with rfl|rfl|rfl|rfl|rfl
     ·exact pS _ 4
     ·exact pS _ 2
     ·exact pS _ 3
     ·exact cC _
     ·exact pS _ 1
    exact I1.qS ny (I1.bQ.fresh ny)
end
theorem aO.sq{K:Frag}(e:aO H H')(h:Sq b K H a xs):Sq b K H' a xs:=by
 cases b with
 |true=>exact e.seq h
 |false=>
  rcases h with h|h
  ·refine .inl ?_;rcases h with h|⟨o,h⟩
   ·exact .inl (e _ _ h)
   ·exact .inr ⟨o,e _ _ h⟩
  ·exact .inr h
theorem aO.bu{K:Frag}(e:aO H H')(h:bh K H a xs):bh K H' a xs:=e.sq (b:=false) h
theorem aO.upd{H:Hp}{p:Addr}{o:HO}(h:H p=none):aO H (upd H p o):=λb u e=>by rw[cF (eO e h)];exact e
def gM(K:Frag)(H:Hp)(xs:List V)(Q:VK):Prop:=∀p H',aO H H'→bh K H' p xs→Q (.ref p) H'
theorem gM.old{K:Frag}{Q:VK}(h:gM K H xs Q)(q:bh K H p xs):Q (.ref p) H:=h p H (.refl H) q
theorem gM.new{K:Frag}{Q:VK}(h:gM K H xs Q)(n:H p=none):Q (.ref p) (upd H p (.tup xs)):=h p _ (.upd n) (.of aY)
theorem Ub:fillsNumberSlot (.type "tuple") "mul"=pure false:=
 PySem.fillsNumberSlot_seq (id := "tuple.__mul__") (r:=some (.builtin "tuple.__rmul__")) F.slot_tuple_mul.lookup (by decide +kernel) F.slot_tuple_rmul.lookup (by decide +kernel)
theorem Uc:seqRepeat? (.type "tuple")=pure (some (.builtin "tuple.__mul__")):=by
 unfold seqRepeat?;rw[PySem.seqSlot_of (T := "tuple") (name := "__mul__") (id := "tuple.__mul__") F.slot_tuple_mul.lookup (by decide +kernel),PySem.seqSlot_of (T := "tuple") (name := "__rmul__") (id := "tuple.__rmul__") F.slot_tuple_rmul.lookup (by decide +kernel)];rfl
theorem Ud(a:Int)(t:Tok)(l:Addr)(items:Array Value)(n:Nat)(dd:Option Addr)(sl:Array (Option Value)) :
  Meets (Builtin.«int.__rmul__» ⟨[.int a t,.ref l],[]⟩) (λ_ R s=>s.heap.get? l=some { cls:=.type "tuple",dict:=dd,data:=.seq items n,slots:=sl }∧R (.ok (.ret Value.notImplemented)) s):=
 .of_wp λprog w A R s h=>by
  obtain⟨EC,ED,EE,EF,EG⟩:=s;have nA:=h.1;wp_walk
  exact⟨_,rfl,h.2⟩
section
variable{X:Cx}
theorem KG:∀{ns:List Int}{its:List Value},Vals (ns.map V.int) its→∃ps:List (Int×Tok),its=ps.map (λp=>Value.int p.1 p.2)∧ps.map (·.1)=ns
 | [],_,.nil=>⟨[],rfl,rfl⟩
 |n::ns,_,.cons r rr=>by
  obtain⟨t,rfl⟩:=r;obtain⟨ps,rfl,rfl⟩:=KG rr;exact⟨(n,t)::ps,rfl,rfl⟩
theorem Ue(hc:X.calm=true):gI X (.builtin "sum") (λxs H Q=>∃p ns,xs=[.ref p]∧cV X.K H p (List.map V.int ns)∧Q (.int ns.sum) H):=by
 intro aK s σ H vs us Q I r h;obtain⟨p,ns,rfl,hq,q⟩:=h;obtain⟨u,rfl,ru⟩:=vals1 r;cases ru;obtain⟨its,rv,pl,hz⟩:=I.list hq;obtain⟨ps,rfl,rfl⟩:=KG rv;have EH:s.heap.IsList p (intItems ps.toArray):=by
  have z:=pl.isList;rwa[show(ps.map λp=>Value.int p.1 p.2).toArray=intItems ps.toArray by simp[intItems]]at z
 refine sum_intListG (I.ok.hd hc) EH λh' tk t' hk=>⟨.int _,H,I.kept hk,⟨t',?_⟩,q⟩
 have:=preSum_eq ps.toArray ps.toArray.size
 simp only[dP]at this;rw[mZ (Nat.le_of_eq (bI _))]at this;simp[this]
theorem Ug{T:String}:gI X (.builtin "isinstance") (λxs H Q=>∃x t b,xs=[x,.ty T]∧l7 X.K H x t∧kitOne X.K t (.type T)=some b∧Q (.bl b) H):=by
 intro aK s σ H vs us Q I r h;obtain⟨x,t,b,rfl,ty,e,q⟩:=h;obtain⟨u,v,rfl,ru,rv⟩:=vals2 r;cases rv;exact Jy I ru ty e λtk=>⟨.bl b,H,I.tok tk,rfl,q⟩
end
mutual
inductive fQ(K:Frag)(H:Hp):V→Dat→Prop
 |none:fQ K H .cE .none
 |bool (b:Bool):fQ K H (.bl b) (.bool b)
 |int (i:Int):fQ K H (.int i) (.int i)
 |str (x:Str):fQ K H (.str x) (.str x)
 |tuple {a:Addr} {xs:List V} {ds:List Dat}:bh K H a xs→bN K H xs ds→fQ K H (.ref a) (.tuple ds)
 |list {a:Addr} {xs:List V} {ds:List Dat}:cV K H a xs→bN K H xs ds→fQ K H (.ref a) (.list ds)
inductive bN(K:Frag)(H:Hp):List V→List Dat→Prop
 |nil:bN K H [] []
 |cons {v:V} {vs:List V} {d:Dat} {ds:List Dat}:fQ K H v d→bN K H vs ds→bN K H (v::vs) (d::ds)
end
mutual
theorem fQ.mono{K:Frag}{H H':Hp}(e:aO H H'):∀{v:V}{d:Dat},fQ K H v d→fQ K H' v d
 |_,_,.none=>.none
 |_,_,.bool b=>.bool b
 |_,_,.int i=>.int i
 |_,_,.str x=>.str x
 |_,_,.tuple h r=>.tuple (e.bu h) (bN.mono e r)
 |_,_,.list h r=>.list (e.seq h) (bN.mono e r)
theorem bN.mono{K:Frag}{H H':Hp}(e:aO H H'):∀{vs:List V}{ds:List Dat},bN K H vs ds→bN K H' vs ds
 |_,_,.nil=>.nil
 |_,_,.cons h r=>.cons (fQ.mono e h) (bN.mono e r)
end
theorem bN.length{K:Frag}{H:Hp}:∀{vs:List V}{ds:List Dat},bN K H vs ds→vs.length=ds.length
 |_,_,.nil=>rfl
 |_,_,.cons _ r=>by rw[eW,eW,bN.length r]
theorem bN.append{K:Frag}{H:Hp}:∀{vs ws:List V}{ds es:List Dat},bN K H vs ds→bN K H ws es→bN K H (vs++ws) (ds++es)
 |_,_,_,_,.nil,k=>k
 |_,_,_,_,.cons h r,k=>.cons h (bN.append r k)
theorem bN.get{K:Frag}{H:Hp}:∀{vs:List V}{ds:List Dat}{i:Nat}{v:V},bN K H vs ds→vs[i]?=some v→∃d,ds[i]?=some d∧fQ K H v d
 |_,_,0,_,.cons h _,e=>by
  have e':_=_:=cY e;subst e';exact⟨_,rfl,h⟩
 |_,_,i+1,v,.cons _ r,e=>bN.get (i:=i) (v:=v) r e
theorem bN.ints{K:Frag}{H:Hp}:∀(ns:List Int),bN K H (ns.map V.int) (ns.map Dat.int)
 | []=>.nil
 |n::ns=>.cons (.int n) (bN.ints ns)
theorem bN.EI{K:Frag}{H:Hp}:∀{xs:List V}{ns:List Int},bN K H xs (ns.map Dat.int)→xs=ns.map V.int
 |_,[],h=>by cases h;rfl
 |_,n::ns,h=>by
  cases h with
  |cons h r=>
   cases h;rw[bN.EI r];rfl
mutual
theorem fQ.reads{X:Cx}{aK:List (Addr×Obj)}{σ:St}{H:Hp}{s:Shared}(I:Inv X aK σ H s):∀{v:V}{d:Dat}{u:Value},fQ X.K H v d→RelV v u→∃as,Reads s.heap u (PySem.W.kqdP d) as
 |_,_,u,.none,r=>by cases(show u=Value.none from r);exact⟨_,.none⟩
 |_,_,u,.bool b,r=>by cases(show u=Value.bool b from r);exact⟨_,.bool b⟩
 |_,_,u,.int i,r=>by obtain⟨t,rfl⟩:=r;exact⟨_,.int i t⟩
 |_,_,u,.str x,r=>by obtain⟨t,rfl⟩:=r;exact⟨_,.str x t⟩
 |_,_,u,.tuple (a:=a) h q,r=>by
  cases(show u=Value.ref a from r)
  obtain⟨its,rv,⟨o,ho,hc,n,hd⟩,_⟩:=I.tuple h;obtain⟨as,z⟩:=bN.reads I q rv;rw[PySem.W.kqdP];exact⟨as,.tuple ho hc hd (by simpa using z)⟩
 |_,_,u,.list (a:=a) h q,r=>by
  cases(show u=Value.ref a from r)
  obtain⟨its,rv,p,_⟩:=I.list h;obtain⟨o,ho,hc,n,hd⟩:=p.isList;obtain⟨as,z⟩:=bN.reads I q rv;rw[PySem.W.kqdP];exact⟨_,.list ho hc hd (by simpa using z)⟩
theorem bN.reads{X:Cx}{aK:List (Addr×Obj)}{σ:St}{H:Hp}{s:Shared}(I:Inv X aK σ H s):∀{vs:List V}{ds:List Dat}{us:List Value},bN X.K H vs ds→Vals vs us→∃as,ReadsAll s.heap us (PySem.W.kqdPs ds) as
 |_,_,_,.nil,.nil=>⟨_,.nil⟩
 |_,_,_,.cons h q,.cons r rr=>by
  obtain⟨as,z⟩:=fQ.reads I h r;obtain⟨bs,y⟩:=bN.reads I q rr;rw[PySem.W.kqdPs];exact⟨_,.cons z y⟩
end
section
variable{X:Cx}
open Classical in
def pd(K:Frag)(neg:Bool):R2:=λx y H Q=>∃d e,fQ K H x d∧fQ K H y e∧kqdOk 8 d=true∧kqdOk 8 e=true∧Q (.bl (if neg then !decide (d=e)else decide (d=e))) H
open Classical in
theorem EJ{d e:Dat}(hd:kqdOk 8 d=true)(he:kqdOk 8 e=true):PyData.eqv (PySem.W.kqdP d) (PySem.W.kqdP e)=decide (d=e):=by
 exact Bool.eq_iff_iff.mpr ((PySem.W.kqd_eqv 8 d e 8 hd he).trans decide_eq_true_iff.symm)
theorem tF{d:Dat}(hd:kqdOk 8 d=true):SeqAt.shaped (PySem.W.kqdP d)=true:=by
 have l:=PySem.W.kqd_lay 8 d hd;unfold SeqAt.shaped;rw[l.1,Bool.true_and];exact aG (gp l.2 (by decide))
theorem Uh(hu:X.A.units+64<cLine):eX X (compareOp .Eq) (pd X.K false):=by
 intro aK s σ H x y v u Q I rx ry h;obtain⟨d,e,hx,hy,hd,he,q⟩:=h;obtain⟨as,ra⟩:=hx.reads I rx;obtain⟨bs,rb⟩:=hy.reads I ry;refine eq_dataH ra rb (tF hd) (tF he) hu ?_;rw[EJ hd he];exact⟨.bl _,H,I,rfl,q⟩
theorem Ui(hu:X.A.units+64<cLine):eX X (compareOp .NotEq) (pd X.K true):=by
 intro aK s σ H x y v u Q I rx ry h;obtain⟨d,e,hx,hy,hd,he,q⟩:=h;obtain⟨as,ra⟩:=hx.reads I rx;obtain⟨bs,rb⟩:=hy.reads I ry;refine ne_dataH ra rb (tF hd) (tF he) hu ?_;rw[EJ hd he];exact⟨.bl _,H,I,rfl,q⟩
end
noncomputable def cy(ns:List Int):Dat:=.tuple (ns.map .int)
theorem Uj(n:Nat)(ns:List Int):kqdOk (n+1) (cy ns)=true:=by
 unfold cy kqdOk;rw[List.all_map];exact se.mpr λ_ _=>by cases n<;>rfl
theorem Uk{a b:List Int}(h:cy a=cy b):a=b:=by
 unfold cy at h;have h':=Dat.tuple.inj h;exact(List.map_inj_right λx y e=>Dat.int.inj e).mp h'
theorem Ul(l:Addr)(items:Array Value)(n:Nat)(dd:Option Addr)(sl:Array (Option Value))(u:Tok) :
  Meets (Builtin.«tuple.__mul__» ⟨[.ref l,.int 1 u],[]⟩) (λ_ R s=>s.heap.get? l=some { cls:=.type "tuple",dict:=dd,data:=.seq items n,slots:=sl }∧R (.ok (.ret (.ref l))) s):=
 .of_wp λprog w A R s h=>by
  obtain⟨EC,ED,EE,EF,EG⟩:=s;have nA:=h.1;have f1:=AutoSeq1.idx_int;wp_walk using sg nA
  exact⟨_,rfl,h.2⟩
theorem Um(l:Addr)(items:Array Value)(n:Nat)(dd:Option Addr)(sl:Array (Option Value))(x:Int)(u:Tok)(hx:x≤0)(hx2:-(2^63)≤x)(dM:items.isEmpty=false) :
  Meets (Builtin.«tuple.__mul__» ⟨[.ref l,.int x u],[]⟩) (λ_ R s=>s.heap.get? l=some { cls:=.type "tuple",dict:=dd,data:=.seq items n,slots:=sl }∧
   R (.ok (.ret (Value.ref s.heap.objs.size))) { s with heap:=s.heap.push { cls:=Value.type "tuple",data:=Data.seq #[] } }):=
 .of_wp λprog w A R s h=>by
  obtain⟨EC,ED,EE,EF,EG⟩:=s;have nA:=h.1;have f1:=AutoSeq1.idx_int;have c1:(decide (x < -2^63)||decide (x≥2^63))=false:=by simp;lia
  have c2:(items.isEmpty||x==1)=false:=by rw[dM];simp;lia
  have c3:(decide (x≤0)||items.isEmpty)=true:=by simp[hx]
  wp_walk using sg nA
  refine aH (by rw[c1];rfl) ?_;wp_walk using sg nA
  refine aH (by rw[c2];rfl) ?_;wp_walk using sg nA
  exact⟨_,rfl,h.2⟩
theorem KH(items:Array Value):∀(k:Nat)(cZ:Array Value),(List.foldl (λx1 x2=>x1++x2) cZ (List.replicate k items)).size=cZ.size+k*items.size
 |0,cZ=>by simp
 |k+1,cZ=>by rw[oV,List.foldl_cons,KH items k,Array.size_append,Nat.succ_mul];lia
theorem Uo(l:Addr)(items:Array Value)(n:Nat)(dd:Option Addr)(sl:Array (Option Value))(x:Int)(u:Tok)(hx:2≤x)(hx2:x<2^63)(dM:items.isEmpty=false)(hz:items.size*x.toNat≤sizeLine) :
  Meets (Builtin.«tuple.__mul__» ⟨[.ref l,.int x u],[]⟩) (λ_ R s=>s.heap.get? l=some { cls:=.type "tuple",dict:=dd,data:=.seq items n,slots:=sl }∧
   R (.ok (.ret (Value.ref s.heap.objs.size))) { s with heap:=s.heap.push { cls:=Value.type "tuple",data:=Data.seq (List.foldl (λx1 x2=>x1++x2) #[] (List.replicate x.toNat items)) } }):=
 .of_wp λprog w A R s h=>by
  obtain⟨EC,ED,EE,EF,EG⟩:=s;have nA:=h.1;have f1:=AutoSeq1.idx_int;have c1:(decide (x < -2^63)||decide (x≥2^63))=false:=by simp;lia
  have c2:(items.isEmpty||x==1)=false:=by rw[dM];simp;lia
  have c3:(decide (x≤0)||items.isEmpty)=false:=by rw[dM];simp;lia
  have e:(items.size:Int)*x=((items.size*x.toNat:Nat):Int):=by
   rw[Int.natCast_mul];congr 1;lia
  have p7:(sizeLine:Nat)≤(2^63-1)/8:=by decide
  have c4:decide ((items.size:Int)*x>(2^63-1)/8)=false:=by rw[e];simp only[decide_eq_false_iff_not];lia
  have c5:Builtin.Tuple.tupleTooMany ((items.size:Int)*x)=false:=by rw[e];unfold Builtin.Tuple.tupleTooMany;simp only[decide_eq_false_iff_not];lia
  have c6:(List.foldl (λx1 x2=>x1++x2) #[] (List.replicate x.toNat items)).size≤sizeLine:=by rw[KH,Array.size_empty,Nat.zero_add,Nat.mul_comm];exact hz
  wp_walk using sg nA
  refine aH (by rw[c1];rfl) ?_;wp_walk using sg nA
  refine aH (by rw[c2];rfl) ?_;wp_walk using sg nA
  refine aH (by rw[c3];rfl) ?_;wp_walk
  refine aH c4 ?_;wp_walk
  refine aH (by rw[c5];rfl) ?_;wp_walk
  exact⟨_,rfl,h.2⟩
def Ao(K:Frag):R2:=λx y H Q=>∃a k xs,x=.ref a∧y=.int k∧bh K H a xs∧xs≠[]∧-(2^63)≤k∧k<2^63∧xs.length*k.toNat≤sizeLine∧gM K H (List.replicate k.toNat xs).flatten Q
theorem Up{X:Cx}:eX X (binaryOp .Mult) (Ao X.K):=by
 intro aK s σ H x y v u Q I rx ry h;obtain⟨l,k,xs,rfl,rfl,hH,dM,h1,h2,hz,q⟩:=h;cases rx;obtain⟨t,rfl⟩:=ry;obtain⟨its,r,ht,_⟩:=I.tuple hH;obtain⟨⟨cls,dd,data,sl⟩,ho,hc,n,hd⟩:=id ht;simp only at hc hd;subst hc hd;have hi:its.toArray.isEmpty=false:=by
  have:its≠[]:=λz=>dM (r.zV.mp z)
  cases its with
  |nil=>exact absurd rfl this
  |cons a b=>rfl
 have cJ:its.toArray.size*k.toNat≤sizeLine:=by rw[dP,← r.length];exact hz
 have f0:∀m:Nat,List.foldl (λx1 x2=>x1++x2) #[] (List.replicate m its.toArray)=(List.replicate m its).flatten.toArray:=λm=>by
  have:=foldl_rep its m []
  rw[List.nil_append]at this;exact this
 refine wpAny_binaryOp_repeat_ref (T := "tuple") (U := "int") (by decide) ⟨_,ho,rfl⟩ (λs'=>typeIs_int s' k t) Ub F.fills_int_mul F.slot_int_rmul Uc F.slot_int_index.lookup
  (aF F.slot_int_rmul (typeIs_int s k t) F.entry_int_rmul (F.args_int_rmul_2 _ _) (Ud k t l its.toArray n dd sl) ⟨ho,rfl,⟨_,ho,rfl⟩,?_⟩)
 by_cases Uq:k=1
 ·subst Uq;refine aF F.slot_tuple_mul ⟨_,ho,rfl⟩ F.entry_tuple_mul (F.args_tuple_mul_2 _ _) (Ul l its.toArray n dd sl t) ⟨ho,?_⟩;exact⟨.ref l,H,I,rfl,q.old (by simpa using hH)⟩
 ·by_cases EK:k≤0
  ·refine aF F.slot_tuple_mul ⟨_,ho,rfl⟩ F.entry_tuple_mul (F.args_tuple_mul_2 _ _) (Um l its.toArray n dd sl k t EK h1 hi) ⟨ho,?_⟩;have e:k.toNat=0:=by lia
   rw[e]at q;exact⟨.ref _,_,I.laid (t':=s.toks) (o:=.tup []) (λb ob q=>eh _ q) (cC _) ⟨nO _,[],.nil,oY.new _ _⟩,rfl,q.new I.fresh⟩
  ·refine aF F.slot_tuple_mul ⟨_,ho,rfl⟩ F.entry_tuple_mul (F.args_tuple_mul_2 _ _) (Uo l its.toArray n dd sl k t (by lia) h2 hi cJ) ⟨ho,?_⟩;rw[f0];exact⟨.ref _,_,I.laid (t':=s.toks) (o:=.tup (List.replicate k.toNat xs).flatten) (λb ob q=>eh _ q) (cC _) ⟨by rw[JV,Nat.mul_comm];exact hz,_,r.rep k.toNat,oY.new _ _⟩,rfl,q.new I.fresh⟩
noncomputable def KI(oN:List Str)(qV:Scope)(N:List Str)(own:Nat)(caps:List Nat)(scope:Scope):Bool:=
 decide (scope.kind=.function)&&decide N.Nodup&&decide (scope.names.map (·.1)).Nodup &&
 scope.names.all (λx=>x.2 != .free||(decide (qV.names.lookup x.1=some .cell)||decide (qV.names.lookup x.1=some .free))) &&
 decide (N.length=own+caps.length)&&decide (caps.map (λi=>oN[i]?)=(N.drop own).map some)&&(N.drop own).all (λx=>decide (scope.names.lookup x=some .free))
theorem dg.mk'{oN:List Str}{qV:Scope}{N:List Str}{own:Nat}{caps:List Nat}{scope:Scope}(h:KI oN qV N own caps scope=true):dg oN qV N own caps scope:=by
 unfold KI at h;simp only[fo,aI,se,Bool.or_eq_true,bne_iff_ne,ne_eq]at h;obtain⟨⟨⟨⟨⟨⟨h1,h2⟩,h3⟩,h4⟩,h5⟩,h6⟩,h7⟩:=h;exact⟨h1,h2,h3,λx hx hk=>(h4 x hx).elim (λz=>absurd hk z) id,h5,h6,h7⟩
def lD(n:Nat)(cp:St)(H1:Hp)(P:Hp→List V→Prop):St→Hp→List V→Prop:=λσ H zs=>(∃o:St,o.length=n∧σ=o++cp)∧aO H1 H∧P H zs
section
variable{K:Frag}{H1:Hp}{cp:St}{g:TG}{tt:TT}{te:TE}{Q:VK}{xs ys:List V}{l1 l2 a:Addr}{b1 b2 b:Bool}{n own:Nat}{J:It}
theorem xv(Pv:Nat→Hp→List V→Prop)(hn:n≤sizeLine)(h0:Pv 0 H1 [])(cJ:∀i H zs,Pv i H zs→zs.length≤i)
  (Ur:∀i H,aO H1 H→i<n→J.go i H) (Us:∀H,aO H1 H→J.stop n H)
  (step:∀i o H zs,i<n→o.length=own→aO H1 H→Pv i H zs→∀x H2,J.qR i H x H2→g x (o++cp) H2 λσ3 H3=>tt σ3 H3 λc H4=>if c=true then te σ3 H4 λv H5=>lD own cp H1 (Pv (i+1)) σ3 H5 (zs++[v])else lD own cp H1 (Pv (i+1)) σ3 H4 zs)
  (done:∀H zs,aO H1 H→Pv n H zs→∀p,H p=none→Q (.ref p) (upd H p (.lst zs))) :
  ∃W:Nat→Nat→St→Hp→List V→Prop,(∃m,W 0 m (List.replicate own none++cp) H1 [])∧jO J g tt te Q W:=by
 refine⟨λi m σ H zs=>m=n-i∧i≤n∧lD own cp H1 (Pv i) σ H zs,⟨n,by simp,nO _,⟨_,by simp,rfl⟩,.refl _,h0⟩,?_⟩;rintro i m σ H zs ⟨rfl,hi,⟨o,ho,rfl⟩,sm,pv⟩;have hl:=cJ _ _ _ pv;by_cases c7:i<n
 ·exact .inr ⟨Ur i H sm c7,by lia,lD own cp H1 (Pv (i+1)),λσ2 H2 xw q=>⟨n-(i+1),by lia,rfl,c7,q⟩,step i o H zs c7 ho sm pv⟩
 ·have e:i=n:=by lia
  subst e;exact .inl ⟨Us H sm,by lia,done H zs sm pv⟩
theorem Ap{o:St}(h:o.length=1):∃x,o=[x]:=by
 match o,h with
 | [x],_=>exact⟨x,rfl⟩
theorem Ut{o:St}(h:o.length=2):∃x y,o=[x,y]:=by
 match o,h with
 | [x,y],_=>exact⟨x,y,rfl⟩
theorem qd(Pv:Nat→Hp→List V→Prop)(hq:cV K H1 a xs)(hz:xs.length≤sizeLine)(h0:Pv 0 H1 [])(cJ:∀i H zs,Pv i H zs→zs.length≤i)
  (step:∀i x H zs,xs[i]?=some x→aO H1 H→Pv i H zs→tt (some x::cp) H λc H4=>if c=true then te (some x::cp) H4 λv H5=>lD 1 cp H1 (Pv (i+1)) (some x::cp) H5 (zs++[v])else lD 1 cp H1 (Pv (i+1)) (some x::cp) H4 zs)
  (done:∀H zs,aO H1 H→Pv xs.length H zs→∀p,H p=none→Q (.ref p) (upd H p (.lst zs))) :
  ∃W:Nat→Nat→St→Hp→List V→Prop,(∃m,W 0 m (List.replicate 1 none++cp) H1 [])∧jO (nY K a) (br 0) tt te Q W:=by
 refine xv (n:=xs.length) Pv hz h0 cJ (λi H sm hi=>⟨xs,xs[i],sm.seq hq,by simp[hi]⟩) (λH sm=>⟨xs,sm.seq hq,cC _⟩) (λi o H zs hi ho sm pv x H2 y=>?_) done;obtain⟨w,rfl⟩:=Ap ho;obtain⟨rfl,y⟩:=y;exact step i x _ zs (y xs (sm.seq hq)) sm pv
theorem vm(Pv:Nat→Hp→List V→Prop)(hq:bh K H1 a xs)(hz:xs.length≤sizeLine)(h0:Pv 0 H1 [])(cJ:∀i H zs,Pv i H zs→zs.length≤i)
  (step:∀i x H zs,xs[i]?=some x→aO H1 H→Pv i H zs→tt (some x::cp) H λc H4=>if c=true then te (some x::cp) H4 λv H5=>lD 1 cp H1 (Pv (i+1)) (some x::cp) H5 (zs++[v])else lD 1 cp H1 (Pv (i+1)) (some x::cp) H4 zs)
  (done:∀H zs,aO H1 H→Pv xs.length H zs→∀p,H p=none→Q (.ref p) (upd H p (.lst zs))) :
  ∃W:Nat→Nat→St→Hp→List V→Prop,(∃m,W 0 m (List.replicate 1 none++cp) H1 [])∧jO (sR K a) (br 0) tt te Q W:=by
 refine xv (n:=xs.length) Pv hz h0 cJ (λi H sm hi=>⟨xs,xs[i],sm.bu hq,by simp[hi]⟩) (λH sm=>⟨xs,sm.bu hq,cC _⟩) (λi o H zs hi ho sm pv x H2 y=>?_) done;obtain⟨w,rfl⟩:=Ap ho;obtain⟨rfl,y⟩:=y;exact step i x _ zs (y xs (sm.bu hq)) sm pv
theorem tG{lo:Int}(Pv:Nat→Hp→List V→Prop)(hz:n≤sizeLine)(h0:Pv 0 H1 [])(cJ:∀i H zs,Pv i H zs→zs.length≤i)
  (step:∀i H zs,i<n→aO H1 H→Pv i H zs→tt (some (.int (lo+(i:Nat)))::cp) H λc H4=>if c=true then te (some (.int (lo+(i:Nat)))::cp) H4 λv H5=>lD 1 cp H1 (Pv (i+1)) (some (.int (lo+(i:Nat)))::cp) H5 (zs++[v])else lD 1 cp H1 (Pv (i+1)) (some (.int (lo+(i:Nat)))::cp) H4 zs)
  (done:∀H zs,aO H1 H→Pv n H zs→∀p,H p=none→Q (.ref p) (upd H p (.lst zs))) :
  ∃W:Nat→Nat→St→Hp→List V→Prop,(∃m,W 0 m (List.replicate 1 none++cp) H1 [])∧jO (p4 lo n) (br 0) tt te Q W:=by
 refine xv (n:=n) Pv hz h0 cJ (λi H sm hi=>hi) (λH sm=>cC _) (λi o H zs hi ho sm pv x H2 y=>?_) done;obtain⟨w,rfl⟩:=Ap ho;obtain⟨rfl,rfl⟩:=y;exact step i _ zs hi sm pv
abbrev EL(K:Frag)(i j:Nat):TG:=sQ K 2 (jx (br i) (jx (br j) uS))
theorem KJ{p:Addr}{x y:V}{i j:Nat}{σ:St}{H:Hp}{R:St→Hp→Prop}(h:bh K H p [x,y])(q:R ((σ.set i (some x)).set j (some y)) H):EL K i j (.ref p) σ H R:=
 ⟨p,[x,y],rfl,h,rfl,x,[y],rfl,y,[],rfl,rfl,q⟩
theorem Uu(Pv:Nat→Hp→List V→Prop)(mh:Sq b1 K H1 l1 xs)(ir:Sq b2 K H1 l2 ys)(hl:xs.length=ys.length)(hz:xs.length≤sizeLine)(h0:Pv 0 H1 [])(cJ:∀i H zs,Pv i H zs→zs.length≤i)(mono:∀i H H' zs,aO H H'→Pv i H zs→Pv i H' zs)
  (step:∀i x y H zs,xs[i]?=some x→ys[i]?=some y→aO H1 H→Pv i H zs→tt (some x::some y::cp) H λc H4=>if c=true then te (some x::some y::cp) H4 λv H5=>lD 2 cp H1 (Pv (i+1)) (some x::some y::cp) H5 (zs++[v])else lD 2 cp H1 (Pv (i+1)) (some x::some y::cp) H4 zs)
  (done:∀H zs,aO H1 H→Pv xs.length H zs→∀p,H p=none→Q (.ref p) (upd H p (.lst zs))) :
  ∃W:Nat→Nat→St→Hp→List V→Prop,(∃m,W 0 m (List.replicate 2 none++cp) H1 [])∧jO (vg K b1 b2 l1 l2) (EL K 0 1) tt te Q W:=by
 refine xv (n:=xs.length) Pv hz h0 cJ (λi H sm hi=>⟨xs,ys,xs[i],ys[i],sm.sq mh,sm.sq ir,by simp[hi],by simp[hl▸hi]⟩) (λH sm=>⟨xs,ys,sm.sq mh,sm.sq ir,.inl rfl⟩) (λi o H zs hi ho sm pv v H2 yl=>?_) done;obtain⟨w1,w2,rfl⟩:=Ut ho;obtain⟨p,x,y,rfl,hp,rfl,hx,hy⟩:=yl;refine KJ (.of aY) ?_;have s2:aO H (upd H p (.tup [x,y])):=.upd hp;exact step i x y _ zs (hx xs (sm.sq mh)) (hy ys (sm.sq ir)) (sm.trans s2) (mono _ _ _ _ s2 pv)
end
section
variable{K:Frag}{a l1 l2:Addr}{xs ys:List V}{b b1 b2:Bool}{tb:TS}{D:Ends}{σ:St}{H:Hp}{i j:Nat}
theorem Uv(Pv:Nat→St→Hp→Prop)(hl:xs.length=ys.length)(h0:Pv 0 σ H)(hq:∀k σ H,Pv k σ H→Sq b1 K H l1 xs∧Sq b2 K H l2 ys)(mono:∀k σ H H',aO H H'→Pv k σ H→Pv k σ H')
  (hs:∀k x y σ H,xs[k]?=some x→ys[k]?=some y→Pv k σ H→tb { D with nx:=Pv (k+1),ct:=Pv (k+1),bk:=D.nx } ((σ.set i (some x)).set j (some y)) H) (hd:∀σ H,Pv xs.length σ H→D.nx σ H) :
  ∃W:Nat→Nat→St→Hp→Prop,(∃m,W 0 m σ H)∧∀k m σ H,W k m σ H→
   ((vg K b1 b2 l1 l2).stop k H∧D.nx σ H)∨((vg K b1 b2 l1 l2).go k H∧∃N:St→Hp→Prop,(∀σ' H',N σ' H'→∃m',m'<m∧W (k+1) m' σ' H')∧∀x H',(vg K b1 b2 l1 l2).qR k H x H'→EL K i j x σ H' λσ2 H2=>tb { D with nx:=N,ct:=N,bk:=D.nx } σ2 H2):=by
 refine⟨λk m σ H=>m=xs.length-k∧k≤xs.length∧Pv k σ H,⟨xs.length,by simp,nO _,h0⟩,?_⟩;rintro k m σ H ⟨rfl,hk,p⟩;obtain⟨q1,q2⟩:=hq k σ H p;by_cases c7:k<xs.length
 ·refine .inr ⟨⟨xs,ys,xs[k],ys[k],q1,q2,by simp[c7],by simp[hl▸c7]⟩,Pv (k+1),λσ' H' p'=>⟨xs.length-(k+1),by lia,rfl,c7,p'⟩,λv H' yl=>?_⟩;obtain⟨pp,x,y,rfl,hp,rfl,hx,hy⟩:=yl;exact KJ (.of aY) (hs k x y σ _ (hx xs q1) (hy ys q2) (mono _ _ _ _ (.upd hp) p))
 ·have e:k=xs.length:=by lia
  subst e;exact .inl ⟨⟨xs,ys,q1,q2,.inl rfl⟩,hd σ H p⟩
end
theorem Uw(K:Frag):kitOne K (.type "int") (.type "int")=some true:=by kernel_rfl
theorem Ux(K:Frag):kitOne K (.type "str") (.type "int")=some false:=by kernel_rfl
section
variable{X:Cx}
end
theorem Uy(n:String):RelV (.ty n) (.type n):=rfl
theorem KL{X:Cx}{x:Str}{T:String}{pos:Pos}(hg:Gl X x)(hm:X.mg x=none)(hv:bootBuiltins x=some (.type T))(hn:x ≠ "__name__":=by decide)(hd:(x==("__debug__":Str))=false:=by decide):PE X (.Name x pos) (tC (.ty T)):=Rj hg hm hv (Uy T) hn hd
theorem KN{K:Frag}{H:Hp}{x:V}{r:List Int}(h:fQ K H x (cy r)):∃a,x=.ref a∧bh K H a (r.map V.int):=by
 unfold cy at h;cases h with
 |tuple hq ha=>exact⟨_,rfl,by rw[← ha.EI];exact hq⟩
theorem jn{K:Frag}{H:Hp}{a:Addr}{r:List Int}(h:bh K H a (r.map V.int)):fQ K H (.ref a) (cy r):=.tuple h (bN.ints r)
theorem aO.write{H H':Hp}{l:Addr}{o:HO}(sm:aO H H')(h:H l=none):aO H (L2.upd H' l o):=λb u e=>by rw[cF (eO e h)];exact sm b u e
open Classical in
theorem KO{d e:Dat}{A B:Prop}(h:d=e)(b:B):if(if true=true then !decide (d=e)else decide (d=e))=true then A else B:=by
 subst h;simp only[decide_true,Bool.not_true,if_true,Bool.false_eq_true,if_false];exact b
theorem KP(n:Nat)(rs:LL):(rs.map cy).all (kqdOk (n+1))=true:=by
 rw[List.all_map];exact se.mpr λr _=>Uj n r
section
variable{X:Cx}(K:Frag)(hK:X.K=K)
include hK
theorem dB:xk X (o7 K):=hK▸Sa
theorem cH:xk X (jM K):=hK▸Sb
theorem EN:tm X (zY K):=hK▸Sj
theorem kc:gI X (.builtin "len") (λxs H Q=>∃p ys,xs=[.ref p]∧(cV K H p ys∨bh K H p ys)∧Q (.int ys.length) H):=hK▸Sm
theorem EO:gI X (.type "list") (λxs H Q=>∃p ys,xs=[.ref p]∧(cV K H p ys∨bh K H p ys)∧∀l,H l=none→Q (.ref l) (upd H l (.lst ys))):=hK▸Sn
theorem mi:gI X (.type "tuple") (λxs H Q=>∃p ys,xs=[.ref p]∧((cV K H p ys∧∀l,H l=none→Q (.ref l) (upd H l (.tup ys)))∨(bh K H p ys∧Q (.ref p) H))):=hK▸So
theorem Uz(hc:X.calm=true):gI X (.builtin "sum") (λxs H Q=>∃p ns,xs=[.ref p]∧cV K H p (List.map V.int ns)∧Q (.int ns.sum) H):=hK▸Ue hc
theorem Aq(hu:X.A.units+64<cLine):eX X (compareOp .Eq) (pd K false):=hK▸Uh hu
theorem KQ(hu:X.A.units+64<cLine):eX X (compareOp .NotEq) (pd K true):=hK▸Ui hu
theorem nB:eX X (binaryOp .Mult) (Ao K):=hK▸Up
theorem KR:eX X (compareOp .In) (Ea K false):=hK▸Sl
theorem jo{tg l:Expr}{tl:TE}(hl:PE X l tl):PI X tg l (n5 K tl):=hK▸RD hl
theorem lE{tg l:Expr}{tl:TE}(hl:PE X l tl):PI X tg l (lj K tl):=hK▸RE hl
theorem KS(b1 b2:Bool){a b:Expr}{ta:TA}{p pos pt:Pos}{es:List Expr}{kt:Nat}(hg:Gl X "zip")(hm:X.mg "zip"=none)(ha:PA X [a,b] ta)(hs:starEach [a,b] X.env=[(false,eval a X.env),(false,eval b X.env)]:=by rfl)(nj:starEach [b] X.env=[(false,eval b X.env)]:=by rfl) :
  PI X (.Tuple es kt pt) (.Call (.Name "zip" p) [a,b] [] pos) (KD K b1 b2 ta):=hK▸Ua b1 b2 hg hm ha hs nj
theorem qe{es:List Expr}{k:Nat}{t:qQ}{n:Nat}{pos:Pos}(hc:X.calm=true)(h:xb X es t)
  (hn:(assignEach es X.env).length=n:=by rfl) (DN:(assignEach es X.env).findIdx? (·.1)=none:=by rfl):PG X (.Tuple es k pos) (sQ K n t):=hK▸Rx hc h hn DN
end
theorem mj:bootBuiltins "tuple"=some (.type "tuple"):=by decide +kernel
theorem ER:bootBuiltins "list"=some (.type "list"):=by decide +kernel
theorem Ar:bootBuiltins "int"=some (.type "int"):=by decide +kernel
theorem tH:bootBuiltins "isinstance"=some (.builtin "isinstance"):=by decide +kernel
theorem UA:bootBuiltins "sum"=some (.builtin "sum"):=by decide +kernel
theorem kd:bootBuiltins "len"=some (.builtin "len"):=by decide +kernel
theorem jq{σ:St}{H:Hp}{Y N:Hp→Prop}(h:Y H):g6 σ H (λc H4=>if c=true then Y H4 else N H4):=by
 show if true=true then Y H else N H
 exact gU h
end L2
namespace L2
open PySem
end L2
namespace L2
open PySem PySem.Spec PyProof.Rows
variable{X:Cx}
section
variable{X:Cx}{pos:Pos}
end
theorem KU(l b:Addr)(its tq:Array Value)(n n2:Nat)(dd zP:Option Addr)(sl zQ:Array (Option Value))(he:its.isEmpty=true) :
  Meets (Builtin.«tuple.__add__» ⟨[.ref l,.ref b],[]⟩) (λ_ R s=>s.heap.get? l=some { cls:=.type "tuple",dict:=dd,data:=.seq its n,slots:=sl }∧s.heap.get? b=some { cls:=.type "tuple",dict:=zP,data:=.seq tq n2,slots:=zQ }∧R (.ok (.ret (.ref b))) s):=
 .of_wp λ_ _ _ _ s h=>by
  obtain⟨hpA,gA,dA,tkA,osA⟩:=s;have nA:=h.1;have UC:=h.2.1;have f2:=AutoSeq1.sub_tuple_tuple;wp_walk using sg nA,sg UC
  exact⟨_,rfl,h.2.2⟩
def vn(K:Frag):R2:=λx y H Q=>∃a b xs ys,x=.ref a∧y=.ref b∧bh K H a xs∧bh K H b ys∧xs.length+ys.length≤sizeLine∧gM K H (xs++ys) Q
theorem UD:eX X (binaryOp .Add) (vn X.K):=by
 rintro aK s σ H x y v u Q I rx ry ⟨a,b,xs,ys,rfl,rfl,ha,hb,hz,q⟩;by_cases hx:xs=[]
 ·subst hx;cases rx;cases ry;obtain⟨its,r1,⟨⟨c1,d1,t1,s1⟩,o1,e1,n1,f1⟩,_⟩:=I.tuple ha;obtain⟨tq,r2,⟨⟨c2,d2,t2,s2⟩,o2,e2,n2,f2⟩,_⟩:=I.tuple hb;simp only at e1 f1 e2 f2;subst e1 f1 e2 f2;cases r1;refine concat_meets ⟨_,o1,rfl⟩ ⟨_,o2,rfl⟩ noFill_tuple_add seq_tuple_add PySem.F.slot_tuple_add PySem.F.entry_tuple_add (PySem.F.args_tuple_add_2 _ _) (KU a b _ _ _ _ d1 d2 s1 s2 rfl) ⟨o1,o2,?_⟩;exact⟨.ref b,H,I,rfl,q.old hb⟩
 ·refine JK aK s σ H _ _ v u Q I rx ry ⟨a,b,xs,ys,rfl,rfl,ha,hb,hx,hz,λhy=>?_,λ_ p hp=>q.new hp⟩;subst hy;exact q.old (by rw[ij];exact ha)
theorem eE(K:Frag)(hK:X.K=K):eX X (binaryOp .Add) (vn K):=hK▸UD
theorem UE(K:Frag)(hK:X.K=K):tm X (zU K):=hK▸JJ
theorem UG(d:Bool)(bs:List Bool):(List.range bs.length).map (λi=>(bs[i]?).getD d)=bs:=by
 apply List.ext_getElem
 ·simp
 ·intro i h1 h2;simp[cM h2]
theorem UH(bs:List Bool):((List.range bs.length).any λi=>(bs[i]?).getD false)=bs.any id:=by
 have e:=ao (λl=>List.any l id) (UG false bs);rw[← e];simp only[List.any_map];rfl
section
variable{X:Cx}
theorem UI:bootBuiltins "any"=some (.builtin "any"):=by decide +kernel
end
end L2
namespace Bw
variable{D L:LL}{f:Nat→Int}{h o:List Int}{j place:Nat}{ls:List Nat}{p:Int}{u v:Fn}
noncomputable def cW:List Int:=[2,3,5,7,11,13,17,19,23,29,31,37,41,43,47,53,59,61,67,71,73,79,83,89,97]
noncomputable def tI(p n:Int):Nat→Int
 |0=>1
 |k+1=>tI p n k*n%p
noncomputable def eF(p n:Int):Int:=tI p n (p-2).toNat
noncomputable def KW(p n:Int):Bool:=decide (1≤eF p n)&&decide (eF p n<p)&&decide (eF p n*n%p=1)
theorem UJ:(cW.all λp=>(List.range p.toNat).all λn=>n==0||KW p n)=true:=by decide +kernel
theorem iD:∀p∈cW,2≤p∧p≤97:=by decide +kernel
theorem xx{n:Int}(hp:p∈cW)(h1:1≤n)(h2:n<p):1≤eF p n∧eF p n<p∧eF p n*n%p=1:=by
 have h:=se.mp UJ p hp;have h':=se.mp h n.toNat (oS.mpr (by lia));have en:((n.toNat:Nat):Int)=n:=by lia
 have n0:(n.toNat==0)=false:=by simp;lia
 rw[n0,Bool.false_or,en]at h';unfold KW at h';simp only[aI,fo]at h';exact⟨h'.1.1,h'.1.2,h'.2⟩
theorem UK{n:Int}(hp:2≤p):∀k,0≤tI p n k∧tI p n k<p
 |0=>by unfold tI;lia
 |k+1=>by
  unfold tI;exact⟨ky _ (by lia),kz _ (by lia)⟩
noncomputable def gj(p:Int)(row:List Int)(f:Int)(other:List Int):List Int:=List.zipWith (λa b=>(a+f*b)%p) row other
noncomputable def jQ(p:Int):List (List Int×Int)→List Int→List Int
 | [],t=>t
 |(r,f)::L,t=>jQ p L (gj p t f r)
noncomputable def tJ(L:List (List Int×Int))(j:Nat):Int:=(L.map λq=>q.1.getD j 0*q.2).sum
theorem UL(r:List Int)(f:Int)(L:List (List Int×Int))(j:Nat):tJ ((r,f)::L) j=r.getD j 0*f+tJ L j:=by simp[tJ]
theorem UM{f:Int}{n:Nat}{r:List Int}(c:Nat→Int)(hr:r.length=n):gj p ((List.range n).map λj=>c j%p) f r=(List.range n).map λj=>(c j+r.getD j 0*f)%p:=by
 apply List.ext_getElem
 ·simp[gj,hr]
 ·intro i h1 h2;have hi:i<r.length:=by simp[gj,hr]at h1;lia
  simp only[gj,List.getElem_zipWith,List.getElem_map,List.getElem_range];rw[cL,cM hi,Option.getD_some,nP f,Int.emod_add_emod]
theorem KY{p:Int}{n:Nat}:∀(L:List (List Int×Int))(c:Nat→Int),(∀q∈L,q.1.length=n)→jQ p L ((List.range n).map λj=>c j%p)=(List.range n).map λj=>(c j+tJ L j)%p
 | [],c,_=>by simp[jQ,tJ]
 |(r,f)::L,c,h=>by
  rw[jQ,UM c (h (r,f) dj),KY L (λj=>c j+r.getD j 0*f) λq hq=>h q (gq _ hq)];apply List.map_congr_left;intro j _;rw[UL,Int.add_assoc]
theorem KZ{n:Nat}(L:List (List Int×Int))(h:∀q∈L,q.1.length=n):jQ p L (List.replicate n 0)=(List.range n).map λj=>tJ L j%p:=by
 have e:List.replicate n (0:Int)=(List.range n).map λj=>(λ_=>(0:Int)) j%p:=by
  apply List.ext_getElem
  ·simp
  ·intro i _ _;simp
 rw[e,KY L (λ_=>0) h];apply List.map_congr_left;intro j _;rw[nc]
abbrev Fn:=Nat→Int
def eN(p:Int)(u v:Fn):Prop:=∀j,p∣u j-v j
theorem pe(p a:Int):p∣a%p-a:=⟨-(a/p),by
 have:=Int.emod_add_mul_ediv a p
 rw[Int.mul_neg];lia⟩
theorem eN.refl(p:Int)(u:Fn):eN p u u:=λj=>⟨0,by lia⟩
theorem eN.symm(h:eN p u v):eN p v u:=λj=>by
 have:=Int.dvd_neg.mpr (h j)
 rwa[show -(u j-v j)=v j-u j by lia]at this
theorem eN.trans{w:Fn}(h:eN p u v)(k:eN p v w):eN p u w:=λj=>by
 have:=pT (h j) (k j)
 rwa[show u j-v j+(v j-w j)=u j-w j by lia]at this
inductive Sp(p:Int)(R:Fn→Prop):Fn→Prop
 |zero:Sp p R (λ_=>0)
 |add {v r:Fn} (c:Int):Sp p R v→R r→Sp p R (λj=>v j+c*r j)
 |cN {u v:Fn}:Sp p R v→eN p v u→Sp p R u
section
variable{p:Int}{R R':Fn→Prop}
theorem Sp.of_eq(h:Sp p R v)(e:∀j,v j=u j):Sp p R u:=.cN h λj=>⟨0,by rw[e j];lia⟩
theorem Sp.mem{r:Fn}(h:R r):Sp p R r:=(Sp.add 1 .zero h).of_eq λj=>by lia
theorem Sp.plus(c:Int)(hu:Sp p R u)(hv:Sp p R v):Sp p R (λj=>u j+c*v j):=by
 induction hv with
 |zero=>exact hu.of_eq λj=>by simp
 | @add v r d _ hr ih=>exact(Sp.add (c*d) ih hr).of_eq λj=>by rw[Int.mul_add,← Int.add_assoc,Int.mul_assoc]
 | @cN w v _ e ih=>
  refine .cN ih λj=>?_
  have:p∣c*(v j-w j):=wN (e j)
  rw[Int.mul_sub]at this;rwa[show u j+c*v j-(u j+c*w j)=c*v j-c*w j by lia]
theorem Sp.trans(h:∀r,R r→Sp p R' r)(hv:Sp p R v):Sp p R' v:=by
 induction hv with
 |zero=>exact .zero
 |add c _ hr ih=>exact ih.plus c (h _ hr)
 |cN _ e ih=>exact .cN ih e
end
noncomputable def fn(r:List Int):Fn:=λj=>r.getD j 0
def RS(L:LL):Fn→Prop:=λf=>∃r∈L,f=fn r
def Rw(p:Int)(n:Nat)(r:List Int):Prop:=r.length=n∧∀x∈r,0≤x∧x<p
def cz(p:Int)(n:Nat)(L:LL):Prop:=∀r∈L,Rw p n r
theorem Rw.at{n:Nat}{r:List Int}(hp:0<p)(h:Rw p n r)(j:Nat):0≤r.getD j 0∧r.getD j 0<p:=by
 rw[cL (i:=j)];by_cases hj:j<r.length
 ·rw[cM hj];exact h.2 _ (jG hj)
 ·rw[jw (by lia)];exact⟨Int.le_refl 0,hp⟩
theorem Rw.out{n:Nat}{r:List Int}(h:Rw p n r)(hj:n≤j):r.getD j 0=0:=by
 rw[cL,jw (by rw[h.1];exact hj)];rfl
theorem K0{a b:Int}(h:p∣a-b)(a0:0≤a)(a1:a<p)(b0:0≤b)(b1:b<p):a=b:=by
 obtain⟨c,hc⟩:=h
 have:c=0:=by
  rcases Int.lt_trichotomy c 0 with h|h|h
  ·have:=IQ (show c≤-1 by lia) (show 0≤p by lia)
   lia
  ·exact h
  ·have:=IQ (show 1≤c by lia) (show 0≤p by lia)
   lia
 rw[this]at hc;lia
theorem Rw.ext{n:Nat}{r s:List Int}(hp:0<p)(hr:Rw p n r)(hs:Rw p n s)(h:∀j,p∣r.getD j 0-s.getD j 0):r=s:=by
 apply List.ext_getElem (by rw[hr.1,hs.1]);intro i h1 h2
 have:=K0 (h i) (hr.at hp i).1 (hr.at hp i).2 (hs.at hp i).1 (hs.at hp i).2
 simpa[cL,h1,h2]using this
theorem xy{n:Nat}{r:List Int}(f:Int)(hr:r.length=n)(ho:o.length=n)(j:Nat):(gj p r f o).getD j 0=if j<n then(r.getD j 0+f*o.getD j 0)%p else 0:=by
 by_cases hj:j<n
 ·rw[ae hj];have h1:j<r.length:=by lia
  have h2:j<o.length:=by lia
  have h3:j<(gj p r f o).length:=by simp[gj];lia
  rw[cL,cM h3,cL,cM h1,cL,cM h2];simp[gj]
 ·rw[ah hj,cL,jw (by simp[gj];lia)];rfl
theorem K1{n:Nat}{r:List Int}(f:Int)(hp:0<p)(hr:r.length=n)(ho:o.length=n):Rw p n (gj p r f o):=by
 refine⟨by simp[gj];lia,λx hx=>?_⟩;obtain⟨i,hi,rfl⟩:=uI.mp hx;simp only[gj,List.getElem_zipWith];exact⟨ky _ (show p≠0 by lia),kz _ hp⟩
theorem UN{n:Nat}{r:List Int}(f:Int)(hr:r.length=n)(ho:o.length=n):eN p (λj=>fn r j+f*fn o j) (fn (gj p r f o)):=λj=>by
 show p∣r.getD j 0+f*o.getD j 0-(gj p r f o).getD j 0;rw[xy f hr ho];by_cases hj:j<n
 ·rw[ae hj]
  have:=Int.dvd_neg.mpr (pe p (r.getD j 0+f*o.getD j 0))
  rwa[show -((r.getD j 0+f*o.getD j 0)%p-(r.getD j 0+f*o.getD j 0))=r.getD j 0+f*o.getD j 0-(r.getD j 0+f*o.getD j 0)%p by lia]at this
 ·rw[ah hj];have e1:r.getD j 0=0:=by rw[cL,jw (by lia)];rfl
  have e2:o.getD j 0=0:=by rw[cL,jw (by lia)];rfl
  rw[e1,e2];exact⟨0,by simp⟩
noncomputable def dS(p:Int)(lead:List Int)(place:Nat)(row:List Int):List Int:=if row.getD place 0≠0 then gj p row (-(row.getD place 0)) lead else row
section
variable{p:Int}{n place:Nat}{lead row:List Int}
theorem K2(hp:0<p)(hl:Rw p n lead)(hr:Rw p n row):Rw p n (dS p lead place row):=by
 unfold dS;split
 ·exact K1 _ hp hr.1 hl.1
 ·exact hr
theorem K3(hl:Rw p n lead)(hr:Rw p n row):eN p (λj=>fn row j + -(row.getD place 0)*fn lead j) (fn (dS p lead place row)):=by
 unfold dS;split
 ·exact UN _ hr.1 hl.1
 ·rename_i h
  have h0:row.getD place 0=0:=by simpa using h
  rw[h0];intro j;exact⟨0,by simp⟩
theorem As(hl:Rw p n lead)(hr:Rw p n row)(hj:lead.getD j 0=0)(hp:0<p):(dS p lead place row).getD j 0=row.getD j 0:=by
 unfold dS;split
 ·rw[xy _ hr.1 hl.1,hj,Int.mul_zero,Int.add_zero];by_cases h:j<n
  ·rw[ae h];exact Int.emod_eq_of_lt (hr.at hp j).1 (hr.at hp j).2
  ·rw[ah h,hr.out (by lia)]
 ·rfl
theorem K4(hl:Rw p n lead)(hr:Rw p n row)(h1:lead.getD place 0=1):(dS p lead place row).getD place 0=0:=by
 unfold dS;split
 ·rw[xy _ hr.1 hl.1,h1];split
  ·rw[Int.mul_one,show row.getD place 0 + -(row.getD place 0)=0 by lia];exact Int.zero_emod p
  ·rfl
 ·rename_i h
  simpa using h
end
noncomputable def dC(p:Int)(n:Nat)(h:List Int)(place:Nat):List Int:=jQ p [(h,eF p (h.getD place 0))] (List.replicate n 0)
noncomputable def tK(p:Int)(n:Nat)(st:LL×LL)(place:Nat):LL×LL:=
 match st.2.filter λr=>r.getD place 0≠0 with
 | []=>st
 |h::_=>(st.1.map (dS p (dC p n h place) place)++[dC p n h place],st.2.map (dS p (dC p n h place) place))
noncomputable def iE(p:Int)(n:Nat)(L:LL):Nat→LL×LL
 |0=>([],L)
 |k+1=>tK p n (iE p n L k) k
noncomputable def qf(L:LL):Nat:=(L.head?.map List.length).getD 0
noncomputable def dt(p:Int)(L:LL):LL:=(iE p (qf L) L (qf L)).1
structure jR(n k:Nat)(D:LL)(ls:List Nat):Prop where
 len:ls.length=D.length
 up:ls.Pairwise (· < ·)
 lt:∀l∈ls,l<k
 one:∀(i:Nat)(r:List Int)(l:Nat),D[i]?=some r→ls[i]?=some l→r.getD l 0=1∧∀j,j<l→r.getD j 0=0
 alone:∀(i i':Nat)(r:List Int)(l:Nat),i≠i'→D[i']?=some r→ls[i]?=some l→r.getD l 0=0
theorem xA{n:Nat}(hh:Rw p n h)(j:Nat):(dC p n h place).getD j 0=if j<n then h.getD j 0*eF p (h.getD place 0)%p else 0:=by
 unfold dC;rw[KZ _ (λq hq=>by rw[dX.mp hq];exact hh.1)];by_cases hj:j<n
 ·rw[ae hj];simp[cL,hj,tJ]
 ·rw[ah hj];simp[cL,hj]
theorem xB{n:Nat}(hp:0<p)(hh:Rw p n h):Rw p n (dC p n h place):=by
 unfold dC;rw[KZ _ (λq hq=>by rw[dX.mp hq];exact hh.1)];refine⟨by simp,λx hx=>?_⟩;obtain⟨j,_,rfl⟩:=eA.mp hx;exact⟨ky _ (show p≠0 by lia),kz _ hp⟩
theorem K5{n:Nat}(hh:Rw p n h):eN p (λj=>eF p (h.getD place 0)*fn h j) (fn (dC p n h place)):=λj=>by
 show p∣eF p (h.getD place 0)*h.getD j 0-(dC p n h place).getD j 0;rw[xA hh,nP];by_cases hj:j<n
 ·rw[ae hj]
  have:=Int.dvd_neg.mpr (pe p (h.getD j 0*eF p (h.getD place 0)))
  rwa[show -(h.getD j 0*eF p (h.getD place 0)%p-h.getD j 0*eF p (h.getD place 0))=h.getD j 0*eF p (h.getD place 0)-h.getD j 0*eF p (h.getD place 0)%p by lia]at this
 ·rw[ah hj,hh.out (by lia)];exact⟨0,by simp⟩
structure jr(p:Int)(n:Nat)(L:LL)(k:Nat)(st:LL×LL):Prop where
 d:cz p n st.1
 r:cz p n st.2
 z:∀r∈st.2,∀j,j<k→r.getD j 0=0
 nC:∃ls,jR n k st.1 ls
 sub:∀r∈st.1++st.2,Sp p (RS L) (fn r)
 sup:∀r∈L,Sp p (RS (st.1++st.2)) (fn r)
theorem K6{n k:Nat}{st:LL×LL}(hp:p∈cW)(hk:k+1≤n)(I:jr p n L k st):jr p n L (k+1) (tK p n st k):=by
  have p0:0<p:=by have:=iD p hp;lia
  obtain⟨D,T⟩:=st;unfold tK;dsimp only;cases hf:T.filter λr=>r.getD k 0≠0 with
  |nil=>
   dsimp only;obtain⟨ls,E⟩:=I.nC;refine⟨I.d,I.r,λr hr j hj=>?_,⟨ls,E.len,E.up,λl hl=>Nat.lt_succ_of_lt (E.lt l hl),E.one,E.alone⟩,I.sub,I.sup⟩;by_cases Au:j<k
   ·exact I.z r hr j Au
   ·have ej:j=k:=by lia
    subst ej;by_cases h0:r.getD j 0=0
    ·exact h0
    ·have:r∈T.filter λr=>r.getD j 0≠0:=mY.mpr ⟨hr,by simpa using h0⟩
     rw[hf]at this;cases this
  |cons h dE=>
   dsimp only;have hm:h∈T.filter λr=>r.getD k 0≠0:=by rw[hf];exact dj
   obtain⟨hT,EK⟩:=mY.mp hm;have abP:h.getD k 0≠0:=by simpa using EK
   have hh:=I.r h hT;have i5:Rw p n (dC p n h k):=xB p0 hh;have hb:=hh.at p0 k;obtain⟨t1,t2,t3⟩:=xx hp (show 1≤h.getD k 0 by lia) hb.2;have l1:(dC p n h k).getD k 0=1:=by rw[xA hh,ae (by lia),nP];exact t3
   have l0:∀j,j<k→(dC p n h k).getD j 0=0:=λj hj=>by
    rw[xA hh,I.z h hT j hj,Int.zero_mul];split
    ·exact Int.zero_emod p
    ·rfl
   have K7:∀{Q:Fn→Prop},Sp p Q (fn h)→Sp p Q (fn (dC p n h k)):=λq=>.cN (((Sp.zero).plus (eF p (h.getD k 0)) q).of_eq λj=>by rw[nc]) (K5 hh);have UO:∀{Q:Fn→Prop},Sp p Q (fn (dC p n h k))→Sp p Q (fn h):=λ{Q} q=>by
    refine .cN (((Sp.zero).plus (h.getD k 0) q)) λj=>?_;rw[nc];show p∣h.getD k 0*(dC p n h k).getD j 0-h.getD j 0;have a:=K5 (place:=k) hh j;have a':p∣h.getD k 0*(eF p (h.getD k 0)*fn h j-fn (dC p n h k) j):=wN a;rw[Int.mul_sub]at a';have t4:p∣eF p (h.getD k 0)*h.getD k 0-1:=by
     have z:=Int.dvd_neg.mpr (pe p (eF p (h.getD k 0)*h.getD k 0));rw[t3]at z;rwa[show -(1-eF p (h.getD k 0)*h.getD k 0)=eF p (h.getD k 0)*h.getD k 0-1 by lia]at z
    have b:p∣h.getD j 0*(eF p (h.getD k 0)*h.getD k 0-1):=wN t4;have c:=kG b a';have e:h.getD j 0*(eF p (h.getD k 0)*h.getD k 0-1)-(h.getD k 0*(eF p (h.getD k 0)*fn h j)-h.getD k 0*fn (dC p n h k) j)=h.getD k 0*(dC p n h k).getD j 0-h.getD j 0:=by
     show h.getD j 0*(eF p (h.getD k 0)*h.getD k 0-1)-(h.getD k 0*(eF p (h.getD k 0)*h.getD j 0)-h.getD k 0*(dC p n h k).getD j 0)=_;rw[Int.mul_sub,Int.mul_one,Int.mul_left_comm (h.getD k 0),nP (h.getD j 0) (eF p (h.getD k 0)*h.getD k 0),Int.mul_assoc];lia
    rwa[e]at c
   generalize dC p n h k=lead at i5 l1 l0 K7 UO ⊢;obtain⟨ls,E⟩:=I.nC;have Av:ls.length=D.length:=E.len;have hD:∀r∈D,Rw p n r:=I.d;have xC:∀r∈T,Rw p n r:=I.r;have spT:Sp p (RS L) (fn h):=I.sub h (jv _ hT);have ET:=K7 spT;have K8:∀{Q:Fn→Prop}{r:List Int},Rw p n r→Sp p Q (fn r)→Sp p Q (fn lead)→Sp p Q (fn (dS p lead k r)):=λhr a b=>.cN (a.plus _ b) (K3 i5 hr);have K9:∀{Q:Fn→Prop}{r:List Int},Rw p n r→Sp p Q (fn (dS p lead k r))→Sp p Q (fn lead)→Sp p Q (fn r):=λ{Q r} hr a b=>by
    refine .cN (a.plus (r.getD k 0) b) λj=>?_;have q:=(K3 (place:=k) i5 hr j);have q':=Int.dvd_neg.mpr q;rwa[show -(fn r j + -(r.getD k 0)*fn lead j-fn (dS p lead k r) j)=fn (dS p lead k r) j+r.getD k 0*fn lead j-fn r j by rw[Int.neg_mul];lia]at q'
   refine⟨λr hr=>?_,λr hr=>?_,λr hr j hj=>?_,⟨ls++[k],?_,?_,?_,?_,?_⟩,λr hr=>?_,λr hr=>?_⟩
   ·rcases(eT.mp hr)with(hr|hr)
    ·obtain⟨r0,h0,rfl⟩:=eA.mp hr;exact K2 p0 i5 (hD r0 h0)
    ·rw[dX.mp hr];exact i5
   ·obtain⟨r0,h0,rfl⟩:=eA.mp hr;exact K2 p0 i5 (xC r0 h0)
   ·obtain⟨r0,h0,rfl⟩:=eA.mp hr;by_cases Au:j<k
    ·rw[As i5 (xC r0 h0) (l0 j Au) p0];exact I.z r0 h0 j Au
    ·have ej:j=k:=by lia
     subst ej;exact K4 i5 (xC r0 h0) l1
   ·simp[E.len]
   ·refine List.pairwise_append.mpr ⟨E.up,by simp,λa ha b hb=>?_⟩;rw[dX.mp hb];exact E.lt a ha
   ·intro l hl;rcases(eT.mp hl)with(hl|hl)
    ·exact Nat.lt_succ_of_lt (E.lt l hl)
    ·rw[dX.mp hl];exact Nat.lt_succ_self k
   ·intro i r l hr hl;by_cases hi:i<D.length
    ·rw[ip (by simpa using hi),eU,cM hi]at hr;rw[ip (by rw[Av];exact hi)]at hl;cases hr;have Aw:l<k:=E.lt l (gT hl);obtain⟨o1,o2⟩:=E.one i _ l (cM hi) hl;have rD:=hD _ (jG hi);refine⟨by rw[As i5 rD (l0 l Aw) p0];exact o1,λj hj=>?_⟩;rw[As i5 rD (l0 j (by lia)) p0];exact o2 j hj
    ·rw[iK (by simpa using hi),bI]at hr;rw[iK (by lia),Av]at hl;have e0:i-D.length=0:=by
      have:=(gc.mp hr).1
      simp at this;lia
     rw[e0]at hr hl;simp at hr hl;subst hr hl;exact⟨l1,l0⟩
   ·intro i i' r l dM hr hl;by_cases hi:i<ls.length
    ·rw[ip hi]at hl;have Aw:l<k:=E.lt l (gT hl);by_cases oj:i'<D.length
     ·rw[ip (by simpa using oj),eU,cM oj]at hr;cases hr;rw[As i5 (hD _ (jG oj)) (l0 l Aw) p0];exact E.alone i i' _ l dM (cM oj) hl
     ·rw[iK (by simpa using oj),bI]at hr;have e0:i' - D.length=0:=by
       have:=(gc.mp hr).1
       simp at this;lia
      rw[e0]at hr;simp at hr;subst hr;exact l0 l Aw
    ·rw[iK (by lia)]at hl;have e0:i-ls.length=0:=by
      have:=(gc.mp hl).1
      simp at this;lia
     rw[e0]at hl;simp at hl;subst hl;by_cases oj:i'<D.length
     ·rw[ip (by simpa using oj),eU,cM oj]at hr;cases hr;exact K4 i5 (hD _ (jG oj)) l1
     ·rw[iK (by simpa using oj),bI]at hr;have e1:i' - D.length=0:=by
       have:=(gc.mp hr).1
       simp at this;lia
      lia
   ·rcases(eT.mp hr)with(hr|hr)
    ·rcases(eT.mp hr)with(hr|hr)
     ·obtain⟨r0,h0,rfl⟩:=eA.mp hr;exact K8 (hD r0 h0) (I.sub r0 (nN _ h0)) ET
     ·rw[dX.mp hr];exact ET
    ·obtain⟨r0,h0,rfl⟩:=eA.mp hr;exact K8 (xC r0 h0) (I.sub r0 (jv _ h0)) ET
   ·refine Sp.trans (λf hf=>?_) (I.sup r hr);obtain⟨r0,h0,rfl⟩:=hf;have lH:Sp p (RS (D.map (dS p lead k)++[lead]++T.map (dS p lead k))) (fn lead):=.mem ⟨lead,by simp,rfl⟩;rcases(eT.mp h0)with(h0|h0)
    ·exact K9 (hD r0 h0) (.mem ⟨_,by simp;exact .inl ⟨r0,h0,rfl⟩,rfl⟩) lH
    ·exact K9 (xC r0 h0) (.mem ⟨_,by simp;exact .inr (.inr ⟨r0,h0,rfl⟩),rfl⟩) lH
theorem EU{p:Int}{n:Nat}{L:LL}(hp:p∈cW)(hL:cz p n L):∀k,k≤n→jr p n L k (iE p n L k)
 |0,_=>⟨λr hr=>absurd hr (by simp[iE]),by simpa[iE]using hL,λr _ j hj=>absurd hj (by lia),⟨[],by simp[iE],.nil,by simp,by simp[iE],by simp⟩,
   λr hr=>.mem ⟨r,by simpa[iE]using hr,rfl⟩,λr hr=>.mem ⟨r,by simpa[iE]using hr,rfl⟩⟩
 |k+1,hk=>K6 hp hk (EU hp hL k (by lia))
noncomputable def Sg(f:Nat→Int):Nat→Int
 |0=>0
 |n+1=>Sg f n+f n
theorem La{n:Nat}(h:∀i,i<n→f i=0):Sg f n=0:=by
 induction n with
 |zero=>rfl
 |succ n ih=>rw[Sg,ih λi hi=>h i (by lia),h n (by lia)];rfl
theorem UP(f g:Nat→Int)(n:Nat):Sg (λi=>f i+g i) n=Sg f n+Sg g n:=by
 induction n with
 |zero=>rfl
 |succ n ih=>rw[Sg,ih,Sg,Sg];lia
theorem Ax{n:Nat}(h:∀i,i<n→p∣f i):p∣Sg f n:=by
 induction n with
 |zero=>exact⟨0,by simp[Sg]⟩
 |succ n ih=>rw[Sg];exact pT (ih λi hi=>h i (by lia)) (h n (by lia))
theorem EV{n l:Nat}(hl:l<n):Sg f n=f l+Sg (λi=>if i=l then 0 else f i) n:=by
 induction n with
 |zero=>lia
 |succ n ih=>
  by_cases h:l=n
  ·subst h;rw[Sg,Sg,ae rfl];have e:Sg (λi=>if i=l then 0 else f i) l=Sg f l:=by
    have:∀m,m≤l→Sg (λi=>if i=l then 0 else f i) m=Sg f m:=by
     intro m;induction m with
     |zero=>intro _;rfl
     |succ m ih=>intro hm;rw[Sg,Sg,ih (by lia),ah (by lia)]
    exact this l (cC l)
   rw[e];lia
  ·rw[Sg,Sg,ih (by lia),ah (λz=>h z.symm)];lia
def ES(n:Nat)(e:Nat→Option (List Int)):Fn→Prop:=λf=>∃l r,l<n∧e l=some r∧f=fn r
noncomputable def eG(e:Nat→Option (List Int))(l j:Nat):Int:=match e l with|some r=>r.getD j 0|none=>0
theorem ES.coeff{n:Nat}{e:Nat→Option (List Int)}(h:Sp p (ES n e) v):∃c:Nat→Int,eN p (λj=>Sg (λl=>c l*eG e l j) n) v:=by
 induction h with
 |zero=>exact⟨λ_=>0,λj=>⟨0,by simp[La]⟩⟩
 | @add v r d _ hr ih=>
  obtain⟨c,hc⟩:=ih;obtain⟨l,row,hl,he,rfl⟩:=hr;refine⟨λi=>c i+if i=l then d else 0,λj=>?_⟩
  have e1:Sg (λi=>(c i+if i=l then d else 0)*eG e i j) n=Sg (λi=>c i*eG e i j) n+d*fn row j:=by
   have e2:(λi=>(c i+if i=l then d else 0)*eG e i j)=λi=>c i*eG e i j+(if i=l then d*fn row j else 0):=by
    funext i
    by_cases hi:i=l
    ·subst hi;rw[ae rfl,ae rfl,Int.add_mul]
     congr 1
     simp[eG,he,fn]
    ·rw[ah hi,ah hi,Int.add_zero,Int.add_zero]
   rw[e2,UP]
   congr 1
   rw[EV hl,ae rfl,La λi _=>by by_cases hi:i=l<;>simp[hi]]
   lia
  show p∣Sg (λi=>(c i+if i=l then d else 0)*eG e i j) n-(v j+d*fn row j)
  rw[e1,show Sg (λi=>c i*eG e i j) n+d*fn row j-(v j+d*fn row j)=Sg (λi=>c i*eG e i j) n-v j by lia];exact hc j
 |cN _ q ih=>
  obtain⟨c,hc⟩:=ih;exact⟨c,hc.trans q⟩
structure EW(n:Nat)(e:Nat→Option (List Int)):Prop where
 one:∀l r,e l=some r→l<n→r.getD l 0=1∧∀j,j<l→r.getD j 0=0
theorem EW.zero{p:Int}{n:Nat}{e:Nat→Option (List Int)}{v:Fn}(E:EW n e)(h:Sp p (ES n e) v)(hz:∀l r,l<n→e l=some r→p∣v l):∀j,p∣v j:=by
 obtain⟨c,hc⟩:=ES.coeff h;have all:∀m,m≤n→∀l,l<m→∀j,p∣c l*eG e l j:=by
  intro m;induction m with
  |zero=>intro _ l hl;lia
  |succ m ih=>
   intro hm l hl j;by_cases qZ:l<m
   ·exact ih (by lia) l qZ j
   ·have el:l=m:=by lia
    subst el;cases hr:e l with
    |none=>exact⟨0,by simp[eG,hr]⟩
    |some r=>
     obtain⟨o1,o2⟩:=E.one l r hr (by lia);have s:=hc l;dsimp only at s;rw[EV (show l<n by lia)]at s;have dE:p∣Sg (λi=>if i=l then 0 else c i*eG e i l) n:=Ax λi hi=>by
      by_cases h1:i=l
      ·rw[ae h1];exact⟨0,by simp⟩
      ·rw[ah h1];by_cases h2:i<l
       ·exact ih (by lia) i h2 l
       ·cases EX:e i with
        |none=>exact⟨0,by simp[eG,EX]⟩
        |some r2=>
         have:=(E.one i r2 EX hi).2 l (by lia)
         refine⟨0,?_⟩;simp only[eG,EX,this,Int.mul_zero]
     have e1:eG e l l=1:=by simp only[eG,hr];exact o1
     rw[e1,Int.mul_one]at s;have k:=pT (kG s dE) (hz l r (by lia) hr);rw[show c l+Sg (λi=>if i=l then 0 else c i*eG e i l) n-v l-Sg (λi=>if i=l then 0 else c i*eG e i l) n+v l=c l by lia]at k
     exact Int.dvd_mul_of_dvd_left k
 intro j;have s:=hc j;dsimp only at s;have t:p∣Sg (λl=>c l*eG e l j) n:=Ax λi hi=>all n (cC n) i hi j;have k:=kG t s;rwa[show Sg (λl=>c l*eG e l j) n-(Sg (λl=>c l*eG e l j) n-v j)=v j by lia]at k
theorem Lb{n:Nat}{r:List Int}(h:Rw p n r)(hz:∀j,j<n→r.getD j 0=0)(j:Nat):fn r j=0:=by
 by_cases hj:j<n
 ·exact hz j hj
 ·exact h.out (by lia)
noncomputable def iF:LL→List Nat→Nat→Option (List Int)
 |r::D,l::ls,i=>if i=l then some r else iF D ls i
 |_,_,_=>none
theorem vo:∀{D:LL}{ls:List Nat}{l:Nat}{r:List Int},iF D ls l=some r→∃(i:Nat),D[i]?=some r∧ls[i]?=some l
 | [],_,_,_,h=>by simp[iF]at h
 |_::_,[],_,_,h=>by simp[iF]at h
 |q::D,m::ls,l,r,h=>by
  rw[iF]at h;by_cases e:l=m
  ·rw[ae e]at h;cases h;exact⟨0,rfl,by rw[e];rfl⟩
  ·rw[ah e]at h;obtain⟨i,h1,h2⟩:=vo h;exact⟨i+1,by simpa using h1,by simpa using h2⟩
theorem Lc:∀{D:LL}{ls:List Nat}{i l:Nat}{r:List Int},ls.Pairwise (· < ·)→D[i]?=some r→ls[i]?=some l→iF D ls l=some r
 | [],_,_,_,_,_,h,_=>by simp at h
 |_::_,[],_,_,_,_,_,h=>by simp at h
 |q::D,m::ls,0,l,r,_,h1,h2=>by simp at h1 h2;subst h1 h2;simp[iF]
 |q::D,m::ls,i+1,l,r,hp,h1,h2=>by
  have hl:ls[i]?=some l:=by simpa using h2
  have:m<l:=(List.pairwise_cons.mp hp).1 l (gT hl)
  rw[iF,ah (by lia)];exact Lc (List.pairwise_cons.mp hp).2 (by simpa using h1) hl
theorem jR.lead{n k:Nat}(E:jR n k D ls):EW k (iF D ls):=⟨λl r h _=>by
 obtain⟨i,h1,h2⟩:=vo h;exact E.one i r l h1 h2⟩
theorem jR.sp{n k:Nat}(E:jR n k D ls)(h:Sp p (RS D) v):Sp p (ES k (iF D ls)) v:=h.trans λf hf=>by
 obtain⟨r,hr,rfl⟩:=hf;obtain⟨i,hi,rfl⟩:=uI.mp hr;have hl:i<ls.length:=by rw[E.len];exact hi
 exact .mem ⟨ls[i],D[i],E.lt _ (jG hl),Lc E.up (cM hi) (cM hl),rfl⟩
structure UQ(p:Int)(n:Nat)(L D:LL):Prop where
 rws:cz p n D
 nC:∃ls,jR n n D ls
 sub:∀r∈D,Sp p (RS L) (fn r)
 sup:∀r∈L,Sp p (RS D) (fn r)
theorem Ay{n:Nat}(h:cz p n L)(dM:L≠[]):qf L=n:=by
 cases L with
 |nil=>exact absurd rfl dM
 |cons r L=>exact(h r dj).1
theorem nE{n:Nat}(hp:p∈cW)(hL:cz p n L):UQ p n L (dt p L):=by
 by_cases dM:L=[]
 ·subst dM;exact⟨λr hr=>absurd hr (by simp[dt,qf,iE]),⟨[],by simp[dt,qf,iE],.nil,by simp,by simp,by simp⟩,λr hr=>absurd hr (by simp[dt,qf,iE]),λr hr=>absurd hr (by simp)⟩
 ·unfold dt;rw[Ay hL dM];have I:=EU hp hL n (cC n);generalize iE p n L n=st at I;refine⟨I.d,I.nC,λr hr=>I.sub r (nN _ hr),λr hr=>(I.sup r hr).trans λf hf=>?_⟩;obtain⟨r0,h0,rfl⟩:=hf;rcases(eT.mp h0)with(h0|h0)
  ·exact .mem ⟨r0,h0,rfl⟩
  ·exact(Sp.zero).of_eq λj=>(Lb (I.r r0 h0) (I.z r0 h0) j).symm
theorem jR.same{n:Nat}(E:jR n n D ls)(hu:Sp p (RS D) u)(hv:Sp p (RS D) v)(h:∀l∈ls,p∣u l-v l):eN p u v:=λj=>by
 have hd:Sp p (RS D) (λj=>u j+(-1)*v j):=hu.plus (-1) hv
 have:=E.lead.zero (E.sp hd) (λl r _ he=>by
  obtain⟨i,_,h2⟩:=vo he;have q:=h l (gT h2);show p∣u l + -1*v l;rwa[show u l + -1*v l=u l-v l by lia]) j
 rwa[show u j + -1*v j=u j-v j by lia]at this
theorem UR(hp:p∈cW):¬p∣1:=λ⟨c,hc⟩=>by
 have:=iD p hp
 rcases Int.lt_trichotomy c 0 with h|h|h
 ·have:=IQ (show c≤-1 by lia) (show 0≤p by lia)
  lia
 ·rw[h]at hc;lia
 ·have:=IQ (show 1≤c by lia) (show 0≤p by lia)
  lia
theorem jR.starts{n:Nat}(hp:p∈cW)(E:jR n n D ls){l:Nat}(hv:Sp p (RS D) v)(h1:v l=1)(h0:∀j,j<l→v j=0):l∈ls:=by
 by_cases hm:l∈ls
 ·exact hm
 ·exfalso;obtain⟨c,hc⟩:=ES.coeff (E.sp hv);have all:∀m,m≤l→∀i,i<m→∀j,p∣c i*eG (iF D ls) i j:=by
   intro m;induction m with
   |zero=>intro _ i hi;lia
   |succ m ih=>
    intro Az i hi j;by_cases US:i<m
    ·exact ih (by lia) i US j
    ·have ei:i=m:=by lia
     subst ei;cases hr:iF D ls i with
     |none=>exact⟨0,by simp[eG,hr]⟩
     |some r=>
      obtain⟨z,z1,z2⟩:=vo hr;have jS:i<n:=E.lt i (gT z2);have s:=hc i;dsimp only at s;rw[EV jS,h0 i (by lia)]at s;have dE:p∣Sg (λq=>if q=i then 0 else c q*eG (iF D ls) q i) n:=Ax λq hq=>by
       by_cases q1:q=i
       ·rw[ae q1];exact⟨0,by simp⟩
       ·rw[ah q1];by_cases q2:q<i
        ·exact ih (by lia) q q2 i
        ·cases ir:iF D ls q with
         |none=>exact⟨0,by simp[eG,ir]⟩
         |some r2=>
          have:=(E.lead.one q r2 ir hq).2 i (by lia)
          exact⟨0,by simp only[eG,ir,this,Int.mul_zero]⟩
      have e1:eG (iF D ls) i i=1:=by simp only[eG,hr];exact(E.lead.one i r hr jS).1
      rw[e1,Int.mul_one]at s;have k:=kG s dE;rw[show c i+Sg (λq=>if q=i then 0 else c q*eG (iF D ls) q i) n-0-Sg (λq=>if q=i then 0 else c q*eG (iF D ls) q i) n=c i by lia]at k
      exact Int.dvd_mul_of_dvd_left k
  have s:=hc l;dsimp only at s;have t:p∣Sg (λq=>c q*eG (iF D ls) q l) n:=Ax λq hq=>by
   by_cases q2:q<l
   ·exact all l (cC l) q q2 l
   ·cases ir:iF D ls q with
    |none=>exact⟨0,by simp[eG,ir]⟩
    |some r2=>
     obtain⟨z,z1,z2⟩:=vo ir
     have:q≠l:=λe=>hm (e▸gT z2)
     have:=(E.lead.one q r2 ir hq).2 l (by lia)
     exact⟨0,by simp only[eG,ir,this,Int.mul_zero]⟩
  have k:=kG t s;rw[show Sg (λq=>c q*eG (iF D ls) q l) n-(Sg (λq=>c q*eG (iF D ls) q l) n-v l)=v l by lia,h1]at k;exact UR hp k
theorem EY:∀{a b:List Nat},a.Pairwise (· < ·)→b.Pairwise (· < ·)→(∀x,x∈a↔x∈b)→a=b
 | [],[],_,_,_=>rfl
 | [],y::b,_,_,h=>absurd ((h y).mpr dj) (by simp)
 |x::a,[],_,_,h=>absurd ((h x).mp dj) (by simp)
 |x::a,y::b,ha,hb,h=>by
  obtain⟨a1,a2⟩:=List.pairwise_cons.mp ha;obtain⟨b1,b2⟩:=List.pairwise_cons.mp hb;have UT:x=y:=by
   rcases eJ.mp ((h x).mp dj)with e|e
   ·exact e
   ·rcases eJ.mp ((h y).mpr dj)with e2|e2
    ·exact e2.symm
    ·have:=b1 x e
     have:=a1 y e2
     lia
  subst UT
  congr 1
  refine EY a2 b2 λz=>⟨λhz=>?_,λhz=>?_⟩
  ·rcases eJ.mp ((h z).mp (gq _ hz))with e|e
   ·have:=a1 z hz;lia
   ·exact e
  ·rcases eJ.mp ((h z).mpr (gq _ hz))with e|e
   ·have:=b1 z hz;lia
   ·exact e
theorem jR.unique{n:Nat}{D':LL}{dZ:List Nat}(hp:p∈cW)(E:jR n n D ls)(E':jR n n D' dZ)(hD:cz p n D)(UU:cz p n D')(s1:∀r∈D,Sp p (RS D') (fn r))(s2:∀r∈D',Sp p (RS D) (fn r)):D=D':=by
 have p0:0<p:=by have:=iD p hp;lia
 have Ld:∀{D D':LL}{ls dZ:List Nat},jR n n D ls→jR n n D' dZ→(∀r∈D,Sp p (RS D') (fn r))→∀x,x∈ls→x∈dZ:=λ{D D' ls dZ} E E' s x hx=>by
  obtain⟨i,hi,rfl⟩:=uI.mp hx;have Le:i<D.length:=by rw[← E.len];exact hi
  obtain⟨o1,o2⟩:=E.one i D[i] ls[i] (cM Le) (cM hi);exact E'.starts hp (s _ (jG Le)) o1 o2
 have el:ls=dZ:=EY E.up E'.up λx=>⟨Ld E E' s1 x,Ld E' E s2 x⟩;subst el;have Av:D.length=D'.length:=by rw[← E.len,← E'.len]
 apply List.ext_getElem Av;intro i h1 h2;have hi:i<ls.length:=by rw[E.len];exact h1
 refine(hD _ (jG h1)).ext p0 (UU _ (jG h2)) ?_;refine E'.same (s1 _ (jG h1)) (.mem ⟨_,jG h2,rfl⟩) λl hl=>?_;obtain⟨k,hk,rfl⟩:=uI.mp hl;by_cases EZ:k=i
 ·subst EZ;have a:=(E.one k D[k] ls[k] (cM h1) (cM hk)).1;have b:=(E'.one k D'[k] ls[k] (cM h2) (cM hk)).1;show p∣(D[k]).getD ls[k] 0-(D'[k]).getD ls[k] 0;rw[a,b];exact⟨0,by lia⟩
 ·have a:=E.alone k i D[i] ls[k] EZ (cM h1) (cM hk);have b:=E'.alone k i D'[i] ls[k] EZ (cM h2) (cM hk);show p∣(D[i]).getD ls[k] 0-(D'[i]).getD ls[k] 0;rw[a,b];exact⟨0,by lia⟩
theorem Lf{n:Nat}{L':LL}(hp:p∈cW)(hL:cz p n L)(vp:cz p n L')(s1:∀r∈L,Sp p (RS L') (fn r))(s2:∀r∈L',Sp p (RS L) (fn r)):dt p L=dt p L':=by
 have A:=nE hp hL;have B:=nE hp vp;obtain⟨ls,E⟩:=A.nC;obtain⟨dZ,E'⟩:=B.nC;have t:∀{P Q:LL},(∀r∈P,Sp p (RS Q) (fn r))→∀{v:Fn},Sp p (RS P) v→Sp p (RS Q) v:=λh v hv=>hv.trans λf hf=>by
  obtain⟨r,hr,rfl⟩:=hf;exact h r hr
 exact E.unique hp E' A.rws B.rws (λr hr=>t B.sup (t s1 (A.sub r hr))) (λr hr=>t A.sup (t s2 (B.sub r hr)))
theorem UW{f:Int→Int}{r:List Int}{n:Nat}(hr:r.length=n)(h0:j<n):(r.map f).getD j 0=f (r.getD j 0):=by
 have:j<r.length:=by lia
 rw[cL,eU,cM this,cL,cM this];rfl
noncomputable def pf(r:List Int):List Nat:=(List.range r.length).filter λj=>r.getD j 0≠0
theorem UX{r:List Int}(h:pf r=[])(j:Nat)(hj:j<r.length):r.getD j 0=0:=by
 have:=List.filter_eq_nil_iff.mp h j (oS.mpr hj)
 simpa using this
theorem UY{r:List Int}{l:Nat}{t:List Nat}(h:pf r=l::t):l<r.length∧r.getD l 0≠0∧∀j,j<l→r.getD j 0=0:=by
 have hm:l∈pf r:=by rw[h];exact dj
 have h1:=mY.mp hm;have hl:=oS.mp h1.1;refine⟨hl,by simpa using h1.2,λj hj=>?_⟩;apply Classical.byContradiction;intro dM;have vq:j∈pf r:=mY.mpr ⟨oS.mpr (by lia),by simpa using dM⟩;rw[h]at vq;have hs:(pf r).Pairwise (· < ·):=List.Pairwise.filter _ List.pairwise_lt_range;rw[h]at hs;cases vq with
 |head=>lia
 |tail _ vq=>have:=(List.pairwise_cons.mp hs).1 j vq;lia
noncomputable def col(rs:LL)(j:Nat):Fn:=fn (rs.map λq=>q.getD j 0)
noncomputable def gN(rs:LL)(fs:List Int)(j:Nat):Int:=(List.zipWith (λr f=>r.getD j 0*f) rs fs).sum
theorem lI{U:List Fn}(h:Sp p (·∈u::U) v):∃(c:Int)(w:Fn),Sp p (·∈U) w∧eN p (λj=>w j+c*u j) v:=by
 induction h with
 |zero=>exact⟨0,λ_=>0,.zero,λj=>⟨0,by simp⟩⟩
 | @add v r d _ hr ih=>
  obtain⟨c,w,hw,e⟩:=ih;rcases(eJ.mp hr)with(rfl|hr)
  ·refine⟨c+d,w,hw,λj=>?_⟩;obtain⟨k,hk⟩:=e j;exact⟨k,by grind⟩
  ·refine⟨c,_,Sp.add d hw hr,λj=>?_⟩;obtain⟨k,hk⟩:=e j;exact⟨k,by grind⟩
 |cN _ e ih=>
  obtain⟨c,w,hw,e2⟩:=ih;exact⟨c,w,hw,e2.trans e⟩
theorem jT{R:Fn→Prop}(h0:∀f,¬R f)(h:Sp p R v)(j:Nat):p∣v j:=by
 induction h with
 |zero=>exact⟨0,by simp⟩
 |add c _ hr ih=>exact absurd hr (h0 _)
 |cN _ e ih=>
  obtain⟨k,hk⟩:=ih;obtain⟨k2,hk2⟩:=e j;exact⟨k-k2,by grind⟩
noncomputable def UZ(n:Nat)(ls:List Nat):List Nat:=(List.range n).filter λj=>j ∉ ls
theorem U0{n:Nat}(up:ls.Pairwise (· < ·))(lt:∀l∈ls,l<n):(UZ n ls).length+ls.length=n:=by
 have hnd:ls.Nodup:=up.imp λh=>by lia
 have h1:((List.range n).filter λj=>j∈ls).length=ls.length:=by
  have e:((List.range n).filter λj=>j∈ls)=ls:=by
   refine EY (List.Pairwise.filter _ List.pairwise_lt_range) up λx=>?_;simp only[mY,oS,aI];exact⟨λh=>h.2,λh=>⟨lt x h,h⟩⟩
  rw[e]
 have h2:∀L:List Nat,(L.filter λj=>j ∉ ls).length+(L.filter λj=>j∈ls).length=L.length:=by
  intro L;induction L with
  |nil=>rfl
  |cons a L ih=>
   by_cases h:a∈ls
   ·rw[Ds (by simpa using h),zt (by simpa using h),eW,eW];lia
   ·rw[zt (by simpa using h),Ds (by simpa using h),eW,eW];lia
 have:=h2 (List.range n)
 rw[h1,kH]at this;exact this
section
variable{p:Int}{n:Nat}{D:LL}{ls:List Nat}
end
end Bw
namespace L2
open PySem Bw
def LR(N:Addr→Prop)(H:Hp)(LS:List V)(L:LL):Prop:=LS.length=L.length∧∀(i:Nat)(v:V)(r:List Int),LS[i]?=some v→L[i]?=some r→∃a,v=.ref a∧N a∧H a=some (.lst (r.map V.int))
section
variable{N:Addr→Prop}{H H':Hp}{LS:List V}{L:LL}{l a:Addr}{o:HO}{r:List Int}
theorem LR.nil:LR N H [] []:=⟨rfl,λi v r h=>by simp at h⟩
theorem LR.mono(h:LR N H LS L)(e:aO H H'):LR N H' LS L:=⟨h.1,λi v r a b=>by
 obtain⟨x,rfl,hN,g⟩:=h.2 i v r a b;exact⟨x,rfl,hN,e _ _ g⟩⟩
theorem LR.fresh(h:LR N H LS L)(hl:H l=none):LR (·≠l) (upd H l o) LS L:=⟨h.1,λi v r a b=>by
 obtain⟨x,rfl,hN,g⟩:=h.2 i v r a b;have ne:=eO g hl;exact⟨x,rfl,ne,by rw[cF ne];exact g⟩⟩
theorem LR.wr(h:LR (·≠l) H LS L):LR (·≠l) (upd H l o) LS L:=⟨h.1,λi v r a b=>by
 obtain⟨x,rfl,ne,g⟩:=h.2 i v r a b;exact⟨x,rfl,ne,by rw[cF ne];exact g⟩⟩
theorem LR.snoc(h:LR N H LS L)(hN:N a)(g:H a=some (.lst (r.map V.int))):LR N H (LS++[.ref a]) (L++[r]):=⟨by simp[h.1],λj v q e1 e2=>by
 by_cases hj:j<LS.length
 ·rw[ip hj]at e1;rw[ip (by rw[← h.1];exact hj)]at e2;exact h.2 j v q e1 e2
 ·rw[iK (by lia)]at e1;rw[iK (by rw[← h.1];lia),← h.1]at e2;cases hk:j-LS.length with
  |zero=>rw[hk]at e1 e2;cases e1;cases e2;exact⟨a,rfl,hN,g⟩
  |succ k=>rw[hk]at e1;cases e1⟩
end
end L2
namespace L2
open PySem PySem.Spec PyProof.Rows
end L2
namespace L2
open PySem Bw
variable{H:Hp}{L:LL}{LS:List V}{N:Addr→Prop}
theorem LR.erase(h:LR N H LS L)(i:Nat):LR N H (LS.eraseIdx i) (L.eraseIdx i):=by
 refine⟨by rw[List.length_eraseIdx,List.length_eraseIdx,h.1],λj v r e1 e2=>?_⟩;rw[List.getElem?_eraseIdx]at e1 e2;split at e1
 ·rw[ae (by assumption)]at e2;exact h.2 _ v r e1 e2
 ·rw[ah (by assumption)]at e2;exact h.2 _ v r e1 e2
theorem LR.at{i:Nat}{r:List Int}(h:LR N H LS L)(hi:L[i]?=some r):∃a,LS[i]?=some (.ref a)∧N a∧H a=some (.lst (r.map V.int)):=by
 have il:=(gc.mp hi).1
 have:i<LS.length:=by rw[h.1];exact il
 obtain⟨a,e,hN,g⟩:=h.2 i _ r (cM this) hi;exact⟨a,by rw[cM this,e],hN,g⟩
theorem LR.get{i:Nat}{v:V}(h:LR N H LS L)(hi:LS[i]?=some v):∃a r,v=.ref a∧L[i]?=some r∧N a∧H a=some (.lst (r.map V.int)):=by
 have il:=(gc.mp hi).1
 have:i<L.length:=by rw[← h.1];exact il
 obtain⟨a,e,hN,g⟩:=h.2 i v _ hi (cM this);exact⟨a,_,e,cM this,hN,g⟩
end L2
namespace L2
open PySem PySem.Spec PyProof.Rows
variable{H H':Hp}{aZ:List (List Key×V)}{u:Value}{xs:List (List Key×Addr×Value)}{y:V}
section
variable{κ:Type} [DecidableEq κ]
noncomputable def gX(aZ:List (κ×V))(k:κ):Option V:=(aZ.find? λkv=>decide (kv.1=k)).map (·.2)
noncomputable def jB(aZ:List (κ×V))(k:κ)(v:V):List (κ×V):=
 if(aZ.any λkv=>decide (kv.1=k))=true then aZ.map (λkv=>if kv.1=k then(kv.1,v)else kv)else aZ++[(k,v)]
theorem om{p:κ×V}{r:List (κ×V)}{k:κ}(e:p.1=k):gX (p::r) k=some p.2:=by simp[gX,List.find?_cons,e]
theorem oo{p:κ×V}{r:List (κ×V)}{k:κ}(e:¬p.1=k):gX (p::r) k=gX r k:=by simp[gX,List.find?_cons,e]
theorem AA(k:κ):∀aZ:List (κ×V),(aZ.any λkv=>decide (kv.1=k))=(gX aZ k).isSome
 | []=>rfl
 |p::r=>by
  rw[List.any_cons];by_cases e:p.1=k
  ·simp only[om e,aG e,Bool.true_or,Option.isSome_some]
  ·rw[oo e,aa e,Bool.false_or];exact AA k r
theorem Lg(k j:κ)(y:V):∀aZ:List (κ×V),gX (aZ.map λkv=>if kv.1=k then(kv.1,y)else kv) j=(gX aZ j).map λx=>if j=k then y else x
 | []=>rfl
 |p::r=>by
  have ih:=Lg k j y r;rw[oW];by_cases h:p.1=k
  ·rw[ae h];by_cases e:p.1=j
   ·rw[om (p:=(p.1,y)) e,om e,Option.map_some,ae (e.symm.trans h)]
   ·rw[oo (p:=(p.1,y)) e,oo e,ih]
  ·rw[ah h];by_cases e:p.1=j
   ·rw[om (p:=p) e,om e,Option.map_some,ah (λz=>h (e.trans z))]
   ·rw[oo (p:=p) e,oo e,ih]
theorem Lh(k j:κ)(y:V):∀aZ:List (κ×V),gX aZ k=none→gX (aZ++[(k,y)]) j=if j=k then some y else gX aZ j
 | [],_=>by
  by_cases e:k=j
  ·rw[ae e.symm];exact om (p:=(k,y)) e
  ·rw[ah (λz=>e z.symm)];exact oo (p:=(k,y)) e
 |p::r,hn=>by
  rw[wM];have hk:¬p.1=k:=λz=>by rw[om z]at hn;cases hn
  rw[oo hk]at hn;have ih:=Lh k j y r hn;by_cases e:p.1=j
  ·rw[om e,om e,ah (λz=>hk (e.trans z))]
  ·rw[oo e,oo e,ih]
theorem U1(aZ:List (κ×V))(k j:κ)(y:V):gX (jB aZ k y) j=if j=k then some y else gX aZ j:=by
 unfold jB;by_cases a:(aZ.any λkv=>decide (kv.1=k))=true
 ·rw[ae a,Lg];rw[AA]at a;by_cases e:j=k
  ·obtain⟨x,hx⟩:=zp.mp a;rw[ae e,e,hx,Option.map_some,ae rfl]
  ·rw[ah e];cases gX aZ j with
   |none=>rfl
   |some x=>rw[Option.map_some,ah e]
 ·rw[ah a];refine Lh k j y aZ ?_;rw[AA]at a;cases q:gX aZ k with
  |none=>rfl
  |some x=>rw[q]at a;exact(a rfl).elim
theorem E2(aZ:List (κ×V))(k:κ)(v:V):(jB aZ k v).length≤aZ.length+1:=by
 unfold jB;split
 ·rw[bI];lia
 ·rw[cq,eW,qM];lia
theorem nT.U3{o:Option V}{u:Option Value}(r:nT o u):o.isSome=u.isSome:=by
 cases o with
 |none=>cases u with
  |none=>rfl
  |some _=>exact(show False from r).elim
 |some _=>cases u with
  |none=>exact(show False from r).elim
  |some _=>rfl
theorem KV.val{aZ:List (κ×V)}{vs:List (κ×Value)}(r:KV aZ vs)(k:κ):nT (gX aZ k) (valueAt vs k):=by
 unfold KV at r;induction r with
 |nil=>exact True.intro
 | @cons p q ps qs h t ih=>
  obtain⟨h1,h2⟩:=h;by_cases e:p.1=k
  ·have e':q.1=k:=h1.symm.trans e;have b:valueAt (q::qs) k=some q.2:=by simp[valueAt,List.find?_cons,e']
   rw[om e,b];exact h2
  ·have e':¬q.1=k:=λz=>e (h1.trans z);have b:valueAt (q::qs) k=valueAt qs k:=by simp[valueAt,List.find?_cons,e']
   rw[oo e,b];exact ih
theorem KV.any{aZ:List (κ×V)}{vs:List (κ×Value)}(r:KV aZ vs)(k:κ):(aZ.any λkv=>decide (kv.1=k))=vs.any λkv=>decide (kv.1=k):=by
 unfold KV at r;induction r with
 |nil=>rfl
 |cons h t ih=>rw[List.any_cons,List.any_cons,ih,h.1]
theorem KV.E3{aZ:List (κ×V)}{vs:List (κ×Value)}(r:KV aZ vs)(k:κ)(ry:RelV y u) :
  KV (aZ.map λkv=>if kv.1=k then(kv.1,y)else kv) (vs.map λkv=>if kv.1=k then(kv.1,u)else kv):=by
 unfold KV at r ⊢;induction r with
 |nil=>exact .nil
 | @cons p q ps qs h t ih=>
  rw[oW,oW];refine .cons ?_ ih;obtain⟨h1,h2⟩:=h;by_cases e:p.1=k
  ·rw[ae e,ae (h1.symm.trans e)];exact⟨h1,ry⟩
  ·rw[ah e,ah (λz=>e (h1.trans z))];exact⟨h1,h2⟩
theorem KV.put{aZ:List (κ×V)}{vs:List (κ×Value)}(r:KV aZ vs)(k:κ)(ry:RelV y u):KV (jB aZ k y) (stored vs k u):=by
 unfold jB stored;rw[r.any k];by_cases e:(vs.any λkv=>decide (kv.1=k))=true
 ·rw[ae e,ae e];exact r.E3 k ry
 ·rw[ah e,ah e];exact Paired.snoc r ⟨rfl,ry⟩
theorem KV.length{aZ:List (κ×V)}{vs:List (κ×Value)}(r:KV aZ vs):aZ.length=vs.length:=Paired.length r
end
theorem E4{P:Program}{w:World}{k:Key}(r:RelV (kV k) u):(kQ P w).is k u=true:=by
 cases k with
 |inl i=>obtain⟨t,e⟩:=(show ∃t,u=Value.int i t from r);subst e;exact Q6 P w i t
 |inr x=>obtain⟨t,e⟩:=(show ∃t,u=Value.str x t from r);subst e;exact Q7 P w x t
theorem Li{P:Program}{w:World}:∀{ks:List Key}{us:List Value},Vals (ks.map kV) us→ItemsAre (kQ P w) ks us
 | [],_,r=>by rw[List.map_nil]at r;cases r;exact .nil
 |k::ks,_,r=>by
  rw[oW]at r;cases r with
  |cons h t=>exact .cons (E4 h) (Li t)
abbrev KT(H:Hp):List (List Key×V)→List (List Key×Addr×Value)→Prop:=Paired λp q=>p.1=q.1∧H q.2.1=some (.tup (p.1.map kV))∧RelV p.2 q.2.2
theorem KT.val(r:KT H aZ xs)(k:List Key):nT (gX aZ k) ((atKey xs k).map (·.2)):=by
 induction r with
 |nil=>exact True.intro
 | @cons p q ps qs h t ih=>
  obtain⟨h1,_,h2⟩:=h;by_cases e:p.1=k
  ·have e':q.1=k:=h1.symm.trans e;have b:atKey (q::qs) k=some q.2:=by simp[atKey,List.find?_cons,e']
   rw[om e,b];exact h2
  ·have e':¬q.1=k:=λz=>e (h1.trans z);have b:atKey (q::qs) k=atKey qs k:=by simp[atKey,List.find?_cons,e']
   rw[oo e,b];exact ih
theorem KT.E3(r:KT H aZ xs)(k:List Key)(ry:RelV y u) :
  KT H (aZ.map λkv=>if kv.1=k then(kv.1,y)else kv) (xs.map (putAt k u)):=by
 induction r with
 |nil=>exact .nil
 | @cons p q ps qs h t ih=>
  rw[oW,oW];refine .cons ?_ ih;obtain⟨h1,h2,h3⟩:=h;unfold putAt;by_cases e:p.1=k
  ·rw[ae e,ae (h1.symm.trans e)];exact⟨h1,h2,ry⟩
  ·rw[ah e,ah (λz=>e (h1.trans z))];exact⟨h1,h2,h3⟩
theorem KT.put(r:KT H aZ xs)(k:List Key){b:Addr}(hb:H b=some (.tup (k.map kV)))(ry:RelV y u) :
  KT H (jB aZ k y) (storedH xs k b u):=by
 have e:(aZ.any λkv=>decide (kv.1=k))=(atKey xs k).isSome:=by
  rw[AA,(r.val k).U3,Option.isSome_map]
 unfold jB storedH;rw[e];by_cases q:(atKey xs k).isSome=true
 ·rw[ae q,ae q];exact r.E3 k ry
 ·rw[ah q,ah q];exact Paired.snoc r ⟨rfl,hb,ry⟩
theorem KT.keeps(r:KT H aZ xs)(ht:∀b ys,H b=some (.tup ys)→H' b=some (.tup ys)):KT H' aZ xs:=
 Paired.Dw r λ_ _ z=>⟨z.1,ht _ _ z.2.1,z.2.2⟩
section
variable{P:Program}{w:World}{H:Hp}{h:Heap}{a:Addr}
theorem Lj{u:HO}(ok:dy P w H h)(e:Rd H a u):eB P w H h a u:=e.ok ok
theorem E5{aZ:List (Key×V)}(ok:dy P w H h)(e:Rd H a (.dK aZ)):aZ.length≤sizeLine∧(a==sysModules)=false∧∃vs,KV aZ vs∧h.DictOf (kQ P w) a vs:=
 show eB P w H h a (.dK aZ) from Lj ok e
theorem U4{aZ:List (Key×V)}(ok:dy P w H h)(e:H a=some (.dK aZ)):aZ.length≤sizeLine∧(a==sysModules)=false∧∃vs,KV aZ vs∧h.DictOf (kQ P w) a vs:=E5 ok (.inl e)
theorem E6{ks:List Key}(ok:dy P w H h)(e:H a=some (.tup (ks.map kV))):(tupleKind (kQ P w)).is h ks a:=by
 obtain⟨_,its,r,o,h1,h2,_,n,h3⟩:=(show eB P w H h a (.tup (ks.map kV)) from ok a _ e)
 exact⟨o,its.toArray,n,h1,h2,h3,by simpa using Li r⟩
theorem E7(ok:dy P w H h)(e:Rd H a (.dT aZ)):aZ.length≤sizeLine∧(a==sysModules)=false∧
  ∃xs,KT H aZ xs∧h.DictOfH (tupleKind (kQ P w)) a xs:=by
 obtain⟨z,y,xs,r,o,es,ep,h1,h2,h3,h4,h5⟩:=(show eB P w H h a (.dT aZ) from Lj ok e)
 refine⟨z,y,xs,r,o,es,ep,h1,h2,h3,h4,λx hx=>?_,h5⟩;have all:∀{l:List (List Key×V)}{m:List (List Key×Addr×Value)},KT H l m→∀x∈m,(tupleKind (kQ P w)).is h x.1 x.2.1:=by
  intro l m q;induction q with
  |nil=>intro x hx;exact nomatch hx
  | @cons p q ps qs hq t ih=>
   intro x hx;rcases eJ.mp hx with e|hx
   ·subst e;exact E6 ok (by rw[← hq.1];exact hq.2.1)
   ·exact ih x hx
 exact all r x hx
theorem U5(ok:dy P w H h)(e:H a=some (.dT aZ)):aZ.length≤sizeLine∧(a==sysModules)=false∧
  ∃xs,KT H aZ xs∧h.DictOfH (tupleKind (kQ P w)) a xs:=E7 ok (.inl e)
end
def tL(H:Hp)(a:Addr)(y:V)(r:Option V):Prop:=
 (∃aZ k,Rd H a (.dK aZ)∧y=kV k∧r=gX aZ k)∨∃aZ k b,Rd H a (.dT aZ)∧y=.ref b∧H b=some (.tup (k.map kV))∧r=gX aZ k
def xD(H:Hp)(a:Addr)(y v:V)(H':Hp):Prop:=
 (∃aZ k,H a=some (.dK aZ)∧y=kV k∧aZ.length<sizeLine∧H'=upd H a (.dK (jB aZ k v))) ∨
 ∃aZ k b,H a=some (.dT aZ)∧y=.ref b∧H b=some (.tup (k.map kV))∧aZ.length<sizeLine∧H'=upd H a (.dT (jB aZ k v))
theorem tL.k{H:Hp}{a:Addr}{aZ:List (Key×V)}{k:Key}(e:H a=some (.dK aZ)):tL H a (kV k) (gX aZ k):=.inl ⟨aZ,k,.inl e,rfl,rfl⟩
theorem xD.k{H:Hp}{a:Addr}{aZ:List (Key×V)}{k:Key}{v:V}(e:H a=some (.dK aZ))(hl:aZ.length<sizeLine):xD H a (kV k) v (upd H a (.dK (jB aZ k v))):=.inl ⟨aZ,k,e,rfl,hl,rfl⟩
section
variable{X:Cx}{aK:List (Addr×Obj)}{σ:St}{H:Hp}{s:Shared}{a:Addr}{y v:V}{u r:Value}{o:Option V}{A:Around}{E:QV}
theorem Inv.big(I:Inv X aK σ H s):sysModules<s.heap.objs.size:=by
 have h:mainGlobals<s.heap.objs.size:=(I.mod.glob.keeps I.bk).lt;exact Nat.lt_trans (by decide) h
theorem U6{Q:QV}(hu:A.units+1<cLine)(I:Inv X aK σ H s)(g:tL H a y (some v))(ry:RelV y u)(h:∀w' s',Inv X aK σ H s'→RelV v w'→Q w' s') :
  wpAny (model X.prog X.w) A (getItem (.ref a) u) Q E s:=by
 rcases g with⟨aZ,k,e,ey,l⟩|⟨aZ,k,b,e,ey,eb,l⟩
 ·subst ey;obtain⟨z,hd,vs,rel,dd⟩:=E5 I.bQ e;obtain⟨w',hw,oh⟩:=nT.some_of (v:=v) (o:=valueAt vs k) (by rw[l];exact rel.val k);exact wpAny_getItem_of (E4 ry) dd.mapOf hw (h w' _ (I.tok _) oh)
 ·subst ey;cases(show u=Value.ref b from ry)
  obtain⟨z,hd,xs,rel,dd⟩:=E7 I.bQ e;obtain⟨w',hw,oh⟩:=nT.some_of (v:=v) (o:=(atKey xs k).map (·.2)) (by rw[l];exact rel.val k);obtain⟨p,hp,EB⟩:=Option.map_eq_some_iff.mp hw;refine wpAny_getItem_heap (tupleKind_room_in1 hu) (E6 I.bQ eb) dd hp ?_;rw[EB];exact h w' _ (I.tok _) oh
theorem Lk{h':Heap}{t':Nat}{ob:HO}(I:Inv X aK σ H s)(mu:wU (H a))(hs:Heap.SameBut a s.heap h')(he:∃q,h'.get? a=some q)(new:eB X.prog X.w (upd H a ob) h' a ob) :
  Inv X aK σ (upd H a ob) { s with heap:=h',toks:=t' }:=
 I.write (x:=a) (e:=a) mu (.inl rfl) (λb q hb z=>(hs.2 b hb).trans z) he new
theorem U7{P:Program}{w:World}{h':Heap}{aZ:List (Key×V)}{vs:List (Key×Value)}(z:aZ.length≤sizeLine)(hd:(a==sysModules)=false)(rel:KV aZ vs)(dd:h'.DictOf (kQ P w) a vs) :
  eB P w H' h' a (.dK aZ):=⟨z,hd,vs,rel,dd⟩
theorem U8{Q:Unit→Shared→Prop}(hu:A.units+1<cLine)(I:Inv X aK σ H s)(g:xD H a y v H')(ry:RelV y u)(rv:RelV v r)(h:∀s',Inv X aK σ H' s'→Q () s') :
  wpAny (model X.prog X.w) A (setItem (.ref a) u r) Q E s:=by
 rcases g with⟨aZ,k,e,ey,l,eH⟩|⟨aZ,k,b,e,ey,eb,l,eH⟩
 ·subst ey eH;obtain⟨z,hd,vs,rel,dd⟩:=U4 I.bQ e;have hz:vs.length≤sizeLine:=by rw[← rel.length];exact z
  have hl:(jB aZ k v).length≤sizeLine:=by have:=E2 aZ k v;lia
  refine wpAny_setItem_pairs (hsz:=hz) (E4 ry) dd λh' AB hs=>h _ ?_;have he:∃q,h'.get? a=some q:=let ⟨q,_,_,hq,_⟩:=AB;⟨q,hq⟩;exact Lk I (by rw[e];exact True.intro) hs he (U7 hl hd (rel.put k rv) AB)
 ·subst ey eH;cases(show u=Value.ref b from ry)
  obtain⟨z,hd,xs,rel,dd⟩:=U5 I.bQ e;have hz:xs.length≤sizeLine:=by rw[← Paired.length rel];exact z
  have hl:(jB aZ k v).length≤sizeLine:=by have:=E2 aZ k v;lia
  refine wpAny_setItem_heap (hsz:=hz) (tupleKind_room_in1 hu) (E6 I.bQ eb) dd λh' AB hs=>h _ ?_;obtain⟨q,es,ep,hq,h2,h3,h4,_,h5⟩:=AB;refine Lk I (by rw[e];exact True.intro) hs ⟨q,hq⟩ ⟨hl,hd,_,(rel.put k eb rv).keeps λc ys ec=>?_,q,es,ep,hq,h2,h3,h4,h5⟩;rw[cF (Q8 ec e (λz=>nomatch z))];exact ec
end
section
variable{X:Cx}{aK:List (Addr×Obj)}{σ:St}{H:Hp}{s:Shared}{a:Addr}{aZ:List (Key×V)}{k:Key}{u:Value}{A:Around}{E:QV}
end
def E8(i:Expr):Prop:=∀ov iv,subscripted i false ov iv=operate [ov,iv] (getItem ov iv)
theorem Ll{prog:Program}{w:World}{A:Around}{E:QV}{s:Shared}{env:Env}{value slice:Expr}{pos:Pos}{T id:String}{Q:QV}
  (hl:typeLookup (.type T) "__getitem__"=pure (some (.builtin id))) (hs:E8 slice)
  (h:wpAny (model prog w) A (eval value env) (λo s₁=>wpAny (model prog w) A (eval slice env) (λi s₂=>s₂.TypeIs o T∧wpAny (model prog w) A (getItem o i) Q E s₂) E s₁) E s) :
  wpAny (model prog w) A (eval (.Subscript value slice pos) env) Q E s:=by
 refine Subscript_ (ai h (λo s₁ h₁=>ai h₁ (λi s₂ h₂=>?_) λ_ _ x=>x) λ_ _ x=>x);obtain⟨hT,h₂⟩:=h₂;unfold subscriptTail;refine au ?_;rw[getitemInPython_of_ne hT.not_modules];refine au (wpAny_specialOf hT hl ?_);have fin:wpAny (model prog w) A (subscripted slice false o i) (λr s₃=>wpAny (model prog w) A (letTemporaryGo value o r >>= λ_=>pure r) Q E s₃) E s₂:=by
  rw[hs o i];exact wpAny_operating (ai h₂ (λr s₃ h₃=>au (wpAny_letTemporaryGo (ay h₃))) λ_ _ x=>x)
 first
  |exact ay (au fin)
  |exact au (ay (au fin))
  |exact au fin
theorem U9{X:Cx}{aK:List (Addr×Obj)}{σ:St}{s:Shared}{a:Addr}{o:Option V}(I:Inv X aK σ H s)(g:tL H a y o):s.TypeIs (.ref a) "dict":=by
 rcases g with⟨aZ,k,e,_,_⟩|⟨aZ,k,b,e,_,_,_⟩
 ·obtain⟨_,_,vs,_,dd⟩:=E5 I.bQ e;exact dd.typeIs
 ·obtain⟨_,_,xs,_,dd⟩:=E7 I.bQ e;exact dd.typeIs
def Va(td ty:TE):TE:=λσ H Q=>td σ H λx H1=>ty σ H1 λy H2=>∃a v,x=.ref a∧tL H2 a y (some v)∧Q v H2
def Vb(td ty tv:TE):TS:=λD σ H=>tv σ H λv H1=>td σ H1 λx H2=>ty σ H2 λy H3=>∃a H4,x=.ref a∧xD H3 a y v H4∧D.nx σ H4
section
variable{X:Cx}{o i e value:Expr}{pos nW RX:Pos}{td ty tv:TE}
theorem Lm(hu:X.A.units+1<cLine)(ho:PE X o td)(hi:PE X i ty)(hs:E8 i):PE X (.Subscript o i pos) (Va td ty):=by
 intro aK s σ H Q I h;refine Ll PySem.F.slot_dict_getitem.lookup hs (bt (ho aK s σ H _ I h) λu s1 ⟨x,H1,I1,rx,q1⟩=>bt (hi aK s1 σ H1 _ I1 q1) λiv s2 ⟨y,H2,I2,ry,a,v,ex,g,q2⟩=>?_);subst ex;obtain rfl:u=Value.ref a:=rx;exact⟨U9 I2 g,U6 hu I2 g ry λw' s3 I3 oh=>⟨v,H2,I3,oh,q2⟩⟩
theorem Vc(hu:X.A.units+1<cLine)(ho:PE X o td)(hi:PE X i ty)(hv:PE X value tv)(hs:swapsWith value (some (.Subscript o i nW)) pos.line X.env=pure false) :
  PS X (.Assign [.Subscript o i nW] value pos) (Vb td ty tv):=by
 intro aK s σ H D I h;refine wpAny_Assign_Subscript (bt (hv aK s σ H _ I h) λr s1 ⟨v,H1,I1,rv,q1⟩=>bt (ho aK s1 σ H1 _ I1 q1) λu s2 ⟨x,H2,I2,rx,q2⟩=>bt (hi aK s2 σ H2 _ I2 q2) λiv s3 ⟨y,H3,I3,ry,a,H4,ex,g,q3⟩=>?_) hs;subst ex;obtain rfl:u=Value.ref a:=rx;exact U8 hu I3 g ry rv λs4 I4=>⟨σ,H4,I4,q3⟩
end
theorem Vd{P:Program}{w:World}(h:Heap)(hb:sysModules<h.objs.size):eB P w H (h.push { cls:=.type "dict",data:=.dict #[] }) h.objs.size (.dK []):=
 ⟨nO _,beq_eq_false_iff_ne.mpr (Ne.symm (ib hb)),[],.nil,Heap.DictOf.new h⟩
def Ve:TE:=λ_ H Q=>∀p,H p=none→Q (.ref p) (upd H p (.dK []))
section
variable{X:Cx}{pos:Pos}
theorem Vf:PE X (.Dict [] [] pos) Ve:=λaK s σ H Q I h=>
 wpAny_Dict_empty ⟨.ref s.heap.objs.size,_,I.laid (a:=s.heap.objs.size) (o:=.dK []) (t':=s.toks) (λ_ _ q=>eh _ q) (cC _) (Vd s.heap I.big),rfl,h _ (I.bQ.fresh (cC _))⟩
end
structure M2(X:Cx)(o:Expr)(m:Str)(ji:Pos)(e f:Expr)(eM:Pos):Prop where
 base:attributeBase o m X.env (eval o X.env)=eval o X.env
 ph:((backTo eM (starEach [e,f] X.env)).all (λx=>!x.1)&&(backToKw eM (keywordEach [] X.env)).all (λx=>x.1.isSome)
  && decide (([e,f]:List Expr).length+([]:List Keyword).length+(if([]:List Keyword).isEmpty then 0 else 1)<30))=true
 line:(ji.endLine==eM.line)=true
 trees:backTo eM (starEach [e,f] X.env)=[(false,eval e X.env),(false,eval f X.env)]
section
variable{X:Cx}{aK:List (Addr×Obj)}{σ:St}{H:Hp}{s:Shared}{a:Addr}{y d:V}{u r:Value}{o:Option V}{A:Around}{E:QV}
end
section
variable{X:Cx}{o e f:Expr}{ji eM:Pos}{td ty tx:TE}
end
section
variable{X:Cx}{aK:List (Addr×Obj)}{σ:St}{H:Hp}{s:Shared}{a:Addr}{aZ:List (Key×V)}{A:Around}{E:QV}
end
section
variable{X:Cx}{aK:List (Addr×Obj)}{σ:St}{H:Hp}{s:Shared}{a:Addr}{y:V}{u:Value}{A:Around}{E:QV}
end
end L2
namespace HT
open PySem PySem.Spec PyProof.Rows
variable{prog:Program}{w:World}{A:Around}{E:QV}{s:Shared}
theorem Vg{t sl:Addr}{items:Array Value}{vl vu:Value}{lo hi:Option Int}{Q:QV}(ht:IsTup s.heap t items)(hs:s.heap.IsSliceOf sl vl vu .none)(pl:IsPart vl lo)(pu:IsPart vu hi)
  (h0:cK items.size 0 lo=0) (h1:cK items.size items.size hi=items.size) (h:Q (.ref t) s):wpAny (model prog w) A (getItem (.ref t) (.ref sl)) Q E s:=by
 obtain⟨os,tj,zS,xj⟩:=id hs;have uW:s.TypeIs (.ref sl) "slice":=⟨os,tj,zS⟩;unfold getItem
 try with_reducible refine av ?_
 first|refine au (ay ?_)|skip
 refine au (wpAny_sequenceKey ht.typeIs (by decide) ?_);refine au (aC (name:=Str.ofString "__getitem__") ht.typeIs zq (aD zq ht.typeIs entry_tuple_getitem ?_ (args_tuple_getitem _ _)));show wpAny _ _ (Builtin.Tuple.tupleItemsOf (.ref t) >>= _) _ _ s;refine au (tupleItemsOf_ ht ?_);refine au (wpAny_typeOf uW ?_);rw[ae (by decide)];refine au (JH hs pl pu ?_);have Vh:(((cK items.size 0 lo:Nat):Int)==0&&(1:Int)==1&&(cK items.size items.size hi-cK items.size 0 lo)==items.size)=true:=by
  rw[h0,h1];simp
 show wpAny _ _ (if(((cK items.size 0 lo:Nat):Int)==0&&(1:Int)==1&&(cK items.size items.size hi-cK items.size 0 lo)==items.size)=true then _ else _) _ _ s
 rw[ae Vh];unfold Builtin.Tuple.tupleIsExact;refine au (au (wpAny_typeOf ht.typeIs (ay ?_)));rw[ae (by decide)];first
  |exact au (ay (ay ⟨_,rfl,ay h⟩))
  |exact au (m:=rule _) (ay ⟨_,rfl,ay h⟩)
  |exact ay ⟨_,rfl,ay h⟩
  |exact au (wpAny_rule (ay ⟨_,rfl,ay h⟩))
  |exact au (wpAny_rule (au (ay (ay ⟨_,rfl,ay h⟩))))
end HT
namespace L2
open PySem PySem.Spec PyProof.Rows
variable{H H':Hp}{Q:QV}{X:Cx}{a c f:Addr}{fd:FuncData}{h:Heap}{i:Int}{ps:List Str}{qual x:Str}{s:Shared}{st:Stmt}
def g7(K:Frag):V→Option Int→Option Int→Hp→VK→Prop:=λx lo hi H Q=>∃a xs,x=.ref a∧bh K H a xs∧gM K H (iY xs lo hi) Q
theorem Vi:tm X (g7 X.K):=by
 intro aK s σ H x v vl vu lo hi sl Q I rx hs pl pu h;obtain⟨a,xs,rfl,hx,q⟩:=h;by_cases hw:HT.cK xs.length 0 lo=0∧HT.cK xs.length xs.length hi=xs.length
 ·cases rx;obtain⟨its,r,ht,hz⟩:=I.tuple hx;have cJ:its.toArray.size=xs.length:=by rw[dP];exact r.length.symm
  refine⟨"tuple",_,zq.lookup,ht.typeIs,?_⟩;refine HT.Vg ht hs pl pu (by rw[cJ];exact hw.1) (by rw[cJ];exact hw.2) ?_;refine⟨.ref a,H,I,rfl,q.old ?_⟩;unfold iY;rw[hw.1,hw.2,List.drop_zero,Nat.sub_zero,lV];exact hx
 ·exact JJ aK s σ H _ v vl vu lo hi sl Q I rx hs pl pu ⟨a,xs,rfl,hx,hw,λp hp=>q.new hp⟩
theorem ft(K:Frag)(hK:X.K=K):tm X (g7 K):=hK▸Vi
section
variable{X:Cx}
theorem Vj(hc:X.calm=true):gI X (.builtin "any") (λxs H Q=>∃p ns,xs=[.ref p]∧bh X.K H p (List.map V.int ns)∧Q (.bl (ns.any λn=>n != 0)) H):=by
 intro aK s σ H vs us Q I r h;obtain⟨p,ns,rfl,hq,q⟩:=h;obtain⟨u,rfl,ru⟩:=vals1 r;cases ru;obtain⟨its,rv,ht,hz⟩:=I.tuple hq;have c7:p<s.heap.objs.size:=ht.lt;have cJ:its.length=ns.length:=by have:=rv.length;rw[bI]at this;exact this.symm
 apply call_any_walk;apply wpAny_pyIter_tuple ht;refine⟨s.heap.objs.size,[s.heap.objs.size,p],[s.heap.objs.size],its.toArray.size,_,_,λi=>((ns.map λn=>n != 0)[i]?).getD false,rfl,Walks.tuple (A:=X.A.in1) (I.ok.hd hc) _ p (ib c7) its.toArray,⟨⟨_,iW _ rfl,rfl,rfl⟩,ht.push _⟩,λi v s1 Q1 E1 hP hQ=>?_,λh1 tk1 hk=>?_⟩
 ·have hP:its[i]?=some v:=by simpa using hP
  have hi:i<ns.length:=by rw[← cJ];exact(gc.mp hP).1
  have hx:(ns.map V.int)[i]?=some (.int ns[i]):=by simp[hi]
  obtain⟨u,hu,ru⟩:=rv.get hx;rw[hP]at hu;cases hu;obtain⟨t,rfl⟩:=ru;dsimp only at hQ;rw[show(ns.map λn=>n != 0)[i]?=some (ns[i] != 0) by simp[hi],Option.getD_some]at hQ;exact truthy_int hQ
 ·have e:((List.range its.toArray.size).any λi=>((ns.map λn=>n != 0)[i]?).getD false)=ns.any λn=>n != 0:=by
   have e2:=UH (ns.map λn=>n != 0);rw[bI]at e2;rw[dP,cJ,e2,List.any_map];rfl
  rw[e];refine⟨.bl _,H,I.kept (λb x e=>hk b x (λhm=>by rw[dX.mp hm]at e;exact uF _ (dO e)) (eh _ e)),rfl,q⟩
theorem Vk(K:Frag)(hK:X.K=K)(hc:X.calm=true):gI X (.builtin "any") (λxs H Q=>∃p ns,xs=[.ref p]∧bh K H p (List.map V.int ns)∧Q (.bl (ns.any λn=>n != 0)) H):=hK▸Vj hc
end
section
variable{K:Frag}{H1:Hp}{cp:St}{tt:TT}{te:TE}{Q:VK}{xs ys:List V}{l1 l2:Addr}{b1 b2:Bool}
end
def iH(H:Hp)(Pt:Addr)(pos:Pos)(qual:Str):Prop:=
 H Pt=some (.fg #[])∨∃c',H Pt=some (.fg #[rawInt pos.line,rawInt pos.col,.ref c'])∧H c'=some (.ext λh=>h.CodeRec (.ref c') qual)
def AD(Pt:Addr)(H H':Hp):Prop:=∀b o,H b=some o→b≠Pt→H' b=some o
def Ln(H:Hp)(f:Addr)(qual:Str)(params:Arguments)(body:Expr)(scope:Scope)(cl:List (Str×Addr)):Prop:=
 ∃c',H f=some (.ext λh=>∃pm gy,h.get? f=some (PySem.W.kla_obj "<lambda>" qual params body scope cl pm c' gy))∧H c'=some (.ext λh=>h.CodeRec (.ref c') qual)
theorem Vl{P:Program}{w:World}(x:h.CodeRec (.ref c) qual):eB P w H h c (.ext λh=>h.CodeRec (.ref c) qual):=by
 refine⟨x,?_,λh1 h2 z k=>?_⟩
 ·obtain⟨c2,oc,vs,t,e,ho,_⟩:=x;cases e;exact⟨oc,ho⟩
 ·obtain⟨c2,oc,vs,t,e,ho,r⟩:=z;cases e;exact⟨c,oc,vs,t,rfl,k _ ho,r⟩
theorem Lo{P:Program}{w:World}{params:Arguments}{body:Expr}{scope:Scope}{cl:List (Str×Addr)}{pm gy:Value}(x:h.get? f=some (PySem.W.kla_obj "<lambda>" qual params body scope cl pm c gy)) :
  eB P w H h f (.ext λh=>∃pm gy,h.get? f=some (PySem.W.kla_obj "<lambda>" qual params body scope cl pm c gy)):=
 ⟨⟨pm,gy,x⟩,⟨_,x⟩,λh1 h2 ⟨pm,gy,z⟩ k=>⟨pm,gy,k _ z⟩⟩
def rf(mg:Str→Option Value)(h:Heap):Prop:=∃bm ob,mg "__builtins__"=some (.ref bm)∧bm≠builtinsNs∧h.get? bm=some ob∧ob.cls=.type "module"∧ob.dict=some builtinsNs∧ob.data=.plain
section
variable{X:Cx}
def Vm(Pt:Addr)(pos:Pos)(qual:Str)(params:Arguments)(body:Expr)(scope:Scope)(cl:List (Str×Addr)):TE:=λ_ H Q=>iH H Pt pos qual∧
 ∀f H',H f=none→AD Pt H H'→iH H' Pt pos qual→Ln H' f qual params body scope cl→Q (.ref f) H'
theorem Vn{params:Arguments}{body:Expr}{scope:Scope}{pos:Pos}{Pt:Addr}{cl:List (Str×Addr)}(Lp:X.env.code=.ref c)(C:CodeHd X.base c Pt)(B:rf X.mg X.base)(Lq:closureFor scope X.env=pure cl)(Vo:defaultsOf params X.env=([],[]):=by rfl) :
  PE X (.Lambda params body scope pos) (Vm Pt pos (X.env.qual ++ "<lambda>") params body scope cl):=by
 intro aK s σ H Q I h;obtain⟨hT,h⟩:=h;generalize hq:X.env.qual ++ "<lambda>"=qual at hT h;refine PySem.W.kla_eval Vo ?_;rw[hq];have hg:s.heap.Ns mainGlobals X.mg:=I.mod.glob.keeps I.bk;have Cs:=C.keeps I.bk;obtain⟨bm,ob,b1,b2,b3,b4,b5,b6⟩:=B;have Lr:bm≠mainGlobals:=λq=>by
  obtain⟨o,es,ep,e,hd,_⟩:=I.mod.glob;rw[q,e]at b3;cases b3;rw[hd]at b6;cases b6
 have Vp:∃ps,H Pt=some (.fg ps):=hT.elim (λz=>⟨_,z⟩) λ⟨_,z,_⟩=>⟨_,z⟩;obtain⟨Vq,xE⟩:=Vp;have xF:s.heap.get? Pt=some (PySem.W.tabObj Vq):=I.bQ Pt _ xE;have Vr:mainGlobals≠Pt:=λq=>by
  obtain⟨o,es,ep,e,hd,_⟩:=hg;rw[q,xF]at e;cases e;cases hd
 have Ls:bm≠Pt:=λq=>by
  have e:=I.bk _ _ b3;rw[q,xF]at e;cases e;cases b4
 have Lu:Pt<s.heap.objs.size:=dO xF;rcases hT with hT|⟨c',hT,hc⟩
 ·rw[hT]at xE;cases xE;refine PySem.W.kla_makeFunction (mg:=X.mg) Lq I.ok.glob hg Lp Cs xF trivial rfl Vr ⟨bm,ob,b1,b2,Lr,Ls,I.bk _ _ b3,b4,b5,b6⟩ λc' gy h' tk hx AE c7 Vs Vt=>?_;have hsz:s.heap.objs.size≤h'.objs.size:=gp AE (pR c7);have hn:∀a,s.heap.objs.size≤a→H a=none:=λa ha=>I.bQ.fresh ha;have Vu:Pt≠c':=ib (iJ Lu AE);have Lv:Pt≠h'.objs.size:=ib (iJ Lu hsz);have Lw:c'≠h'.objs.size:=ib c7;have hk:∀b o,b≠Pt→s.heap.get? b=some o→(h'.push (PySem.W.kla_obj "<lambda>" qual params body scope cl ((X.mg "__name__").getD .none) c' gy)).get? b=some o:=λb o hb e=>eh _ (hx b o hb e);have hf:(h'.push (PySem.W.kla_obj "<lambda>" qual params body scope cl ((X.mg "__name__").getD .none) c' gy)).get? h'.objs.size=some (PySem.W.kla_obj "<lambda>" qual params body scope cl ((X.mg "__name__").getD .none) c' gy):=iW _ rfl;have Lx:(h'.push (PySem.W.kla_obj "<lambda>" qual params body scope cl ((X.mg "__name__").getD .none) c' gy)).CodeRec (.ref c') qual:=by
   obtain⟨c2,oc,vs,t,e,ho,r⟩:=Vs;exact⟨c2,oc,vs,t,e,eh _ ho,r⟩
  have E9:(h'.push (PySem.W.kla_obj "<lambda>" qual params body scope cl ((X.mg "__name__").getD .none) c' gy)).get? Pt=some (PySem.W.tabObj (#[]++#[rawInt pos.line,rawInt pos.col,.ref c'])):=eh _ Vt;generalize h'.push (PySem.W.kla_obj "<lambda>" qual params body scope cl ((X.mg "__name__").getD .none) c' gy)=hh at hk hf Lx E9 ⊢;generalize h'.objs.size=f at hsz Lv Lw hf ⊢;have Fb:=hn f hsz;have Vv:=hn c' AE
  let H':Hp:=upd (upd (upd H Pt (.fg (#[]++#[rawInt pos.line,rawInt pos.col,.ref c']))) c' (.ext λh=>h.CodeRec (.ref c') qual)) f (.ext λh=>∃pm gy,h.get? f=some (PySem.W.kla_obj "<lambda>" qual params body scope cl pm c' gy))
  have e1:∀b,b≠f→b≠c'→b≠Pt→H' b=H b:=λb x1 x2 x3=>by
   show upd (upd (upd H Pt _) c' _) f _ b=_;rw[cF x1,cF x2,cF x3]
  have e2:H' Pt=some (.fg (#[]++#[rawInt pos.line,rawInt pos.col,.ref c'])):=by
   show upd (upd (upd H Pt _) c' _) f _ Pt=_;rw[cF Lv,cF Vu,aY]
  have e3:H' c'=some (.ext λh=>h.CodeRec (.ref c') qual):=by
   show upd (upd (upd H Pt _) c' _) f _ c'=_;rw[cF Lw,aY]
  have e4:H' f=some (.ext λh=>∃pm gy,h.get? f=some (PySem.W.kla_obj "<lambda>" qual params body scope cl pm c' gy)):=aY;have e5:∀b o,H b=some o→b≠Pt→H' b=some o:=λb o q hb=>by
   rw[e1 b (eO q Fb) (eO q Vv) hb];exact q
  have AF:∀b o,H b=some o→(∀ps,o≠.fg ps)→b≠Pt:=λb o q ht z=>by
   rw[z,hT]at q;exact ht _ (cY q).symm
  refine⟨.ref f,H',I.un (t':=tk) ⟨λb o e n _ _=>hk b o (λz=>by rw[z,hT]at n;cases n) e,λb o e n _ _=>⟨o.slots,hk b o (λz=>by rw[z,hT]at n;cases n) e⟩,λb o e n _=>?_,λb o e _=>?_,λb xs q=>e5 b _ q (AF b _ q λ_ z=>nomatch z),λb o u q=>e5 b _ q (AF b _ q λ_ z=>nomatch z),λb ps q=>?_⟩ λa o e=>?_,rfl,h f H' Fb e5 (.inr ⟨c',by rw[e2];rfl,e3⟩) ⟨c',e4,e3⟩⟩
  ·have hb:=dO e;rw[e1 b (ib (iJ hb hsz)) (ib (iJ hb AE)) (λz=>by rw[z,hT]at n;cases n)];exact n
  ·by_cases hb:b=Pt
   ·rw[hb];exact⟨_,E9⟩
   ·exact⟨o,hk b o hb e⟩
  ·by_cases hb:b=Pt
   ·subst hb;rw[hT]at q;cases q;exact⟨_,e2⟩
   ·exact⟨#[],by rw[e5 b _ q hb];simp⟩
  ·by_cases fN:a=f
   ·subst fN;rw[e4]at e;cases e;exact Lo hf
   by_cases jJ:a=c'
   ·subst jJ;rw[e3]at e;cases e;exact Vl Lx
   by_cases ve:a=Pt
   ·subst ve;rw[e2]at e;cases e;exact E9
   ·rw[e1 a fN jJ ve]at e;refine(I.bQ a o e).nh (λb u hb q=>hk b u (λz=>?_) q) (λb q=>e5 b _ q (AF b _ q λ_ z=>nomatch z)) λb xs q=>e5 b _ q (AF b _ q λ_ z=>nomatch z);rcases hb with hb|hb
    ·exact ve (hb▸z)
    ·rw[z,hT]at hb;cases hb
 ·rw[hT]at xE;cases xE;refine PySem.W.kla_makeFunctionHit (cv:=.ref c') (mg:=X.mg) Lq I.ok.glob hg Lp Cs xF (by simp[TriplesOk,rawInt]) (by simp[codeAmong,rawInt]) ⟨bm,ob,b1,b2,Lr,Ls,I.bk _ _ b3,b4,b5,b6⟩ λgy h' tk hk hsz=>?_;have hn:H h'.objs.size=none:=I.bQ.fresh hsz;refine⟨.ref h'.objs.size,_,I.laid (t':=tk) (o:=.ext λh=>∃pm gy,h.get? h'.objs.size=some (PySem.W.kla_obj "<lambda>" qual params body scope cl pm c' gy)) (λb u e=>eh _ (hk b u e)) hsz (Lo (iW _ rfl)),rfl,?_⟩;have e5:∀b o,H b=some o→(upd H h'.objs.size (.ext λh=>∃pm gy,h.get? h'.objs.size=some (PySem.W.kla_obj "<lambda>" qual params body scope cl pm c' gy))) b=some o:=λb o q=>by rw[cF (eO q hn)];exact q
  exact h _ _ hn (λb o q _=>e5 b o q) (.inr ⟨c',e5 _ _ hT,e5 _ _ hc⟩) ⟨c',aY,e5 _ _ hc⟩
end
structure rh(P:Program)(w:World)(K:Frag)(mg:Str→Option Value)(base:Heap)(k:Nat)(f:Addr)(fd:FuncData)(ps:List Str)(sp:Shared→Sp):Prop where
 len:∀s vs H Q E,sp s vs H Q E→vs.length=ps.length
 run:∀(A:Around)(outer:List Env)(s:Shared)(H:Hp)(args:Args)(us:List Value)(vs:List V)(Q:VK)(E:XK),dv k A→uU P w K mg base A outer s H→BindsTo s fd args (ps.zip us)→Vals vs us→sp s vs H Q E→
  codeAny (model P w) A (.call (.ref f) args) (CR bx outer P w H s Q E) s
section
variable{P:Program}{w:World}{K:Frag}{mg:Str→Option Value}{base:Heap}
theorem cD.Ly{N:List Str}{k:Nat}{sp:Shared→Sp}(F:cD K x qual st f fd)(S:c8 N ps (bG st))(len:∀s vs H Q E,sp s vs H Q E→vs.length=ps.length)
  (oa:∀(bZ:Value)(A:Around)(outer:List Env)(s:Shared)(H:Hp)(vs:List V)(Q:VK)(E:XK),dv k (A.deeper (envOfC qual (bG st) s.heap.objs.size f bZ))→sp s vs H Q E→
   ∃t,jh (jL bx P w K mg base N qual (bG st) f bZ A outer s H E).kZ (j7 st) t∧t { nx:=λ_ H'=>Q .cE H',rt:=Q } (start N vs) H):rh P w K mg base (k+1) f fd ps sp:=by
 obtain⟨oc,od,kV,doc,pm,an,bZ,ct,ma,rfl,lk,gZ⟩:=F.ex;refine⟨len,λA outer s H args us vs Q E hr e0 hb r jj=>?_⟩;have hl:=len _ _ _ _ _ jj;have KX:K.In s.heap:=e0.mod.pV.keeps λb o e=>(e0.bs b o e).1;have sX:s.heap.NoLimit:=e0.mod.nolimit.keeps λb o e=>(e0.bs b o e).1;have xi:∀y∈ps.zip us,(bG st).names.lookup y.1=some .local∨((bG st).names.lookup y.1=some .cell∧((cellsFrom (s.heap.objs.size+1) (bG st).names []).lookup y.1).isSome=true):=λ⟨n,v⟩ hy=>by
  rcases S.par n (wK hy).1 with q|q
  ·exact .inl q
  ·exact .inr ⟨q,Dr _ _ _ (.inl q)⟩
 refine codeAny_call_function hr.depth (KX _ _ lk) rfl S.co S.gen rfl (PySem.W.codeRec_of KX gZ) (hb _ _ _ _ ?_);refine aA S.kind xi λenv he s1 x=>?_;subst he;refine⟨sX.keeps x.toInCall.keep,codeAny_func ?_⟩;obtain⟨t,ht,hq⟩:=oa bZ A outer s H vs Q E (hr.deeper _) jj;have I:Inv (jL bx P w K mg base N qual (bG st) f bZ A outer s H E) [] (start N vs) H s1:=D5 S hr.hd e0 hl r x;refine ai (ht.kZ [] s1 (start N vs) H _ I hq) (λfl s' hs=>?_) λe s' hs=>hs;have fin:∀{σ':St}{H':Hp}{v:V}{u:Value},Inv (jL bx P w K mg base N qual (bG st) f bZ A outer s H E) [] σ' H' s'→RelV v u→Q v H'→CE outer P w H s Q u s':=
  λ{σ' H' v u} J rv q=>⟨v,H',J.os,J.bare,J.base,J.bQ,rv,q⟩
 cases fl with
 |ret u=>
  obtain⟨v,σ',H',J,rv,q⟩:=hs;exact fin J rv q
 |next=>
  obtain⟨σ',H',J,q⟩:=hs;exact fin (v:=V.cE) (u:=Value.none) J rfl q
 |brk=>
  obtain⟨_,_,_,q⟩:=hs;exact False.elim q
 |cont=>
  obtain⟨_,_,_,q⟩:=hs;exact False.elim q
end
section
variable{X:Cx}{k:Nat}{f:Addr}{fd:FuncData}{ps:List Str}{x:Str}{p pos:Pos}{e:Expr}{es:List Expr}{t:TA}{te:TE}
theorem AG{sp:Shared→Sp}(F:rh X.prog X.w X.K X.mg X.base k f fd ps sp)(hr:dv k X.A)(hg:Gl X x)(hm:X.mg x=some (.ref f))(hk:Kp X.K f)(hb:Binds X.K fd ps [])
  (ha:PA X (e::es) t) (p5:(x==("__debug__":Str))=false:=by decide) (he:starEach (e::es) X.env=(false,eval e X.env)::starEach es X.env:=by rfl) (iN:(backTo pos (starEach es X.env)).any (·.1)=false:=by rfl) :
  PE X (.Call (.Name x p) (e::es) [] pos) (λσ H Q=>t σ H λvs H1=>∀aK s,Inv X aK σ H1 s→sp s vs H1 Q E0):=by
 intro aK s σ H Q I h;refine az (xa I hg hm ?_ p5);refine PySem.W.callWith_K (h₀:=X.base) I.ok.mod.pV hk (bt (ha pos aK s σ H _ I h) λus s1 ⟨vs,H1,I1,r,q⟩=>⟨I1.fh,?_⟩) he iN;have hs:=q aK s1 I1;have hl:us.length=ps.length:=by rw[← r.length];exact F.len _ _ _ _ _ hs
 have pj:=hb s1 us I1.fh (by rw[ij];exact hl);rw[ij]at pj;refine wpAny_call (codeAny_mono (F.run X.A X.stack s1 H1 ⟨us,[]⟩ us vs Q E0 hr I1.zO pj r hs) λr s' hq=>?_);cases r with
 |error e=>exact False.elim hq
 |ok fl=>
  cases fl with
  |ret u=>exact I1.after hq
  |next=>exact False.elim hq
  |brk=>exact False.elim hq
  |cont=>exact False.elim hq
end
noncomputable def Fc(P:Program)(w:World)(K:Frag)(mg:Str→Option Value)(base:Heap)(N:List Str)(qual:Str)(scope:Scope)(f c:Addr)(cl:List (Str×Addr))(A:Around)(outer:List Env)(s:Shared)(H:Hp):Cx where
 prog:=P
 w:=w
 K:=K
 mg:=mg
 base:=base
 A:=A.deeper (PySem.W.envX qual scope s.heap.objs.size f (.ref c) cl)
 N:=N
 s₀:=s
 H₀:=H
 env:=PySem.W.envX qual scope s.heap.objs.size f (.ref c) cl
 outer:=outer
 stack:=PySem.W.envX qual scope s.heap.objs.size f (.ref c) cl::outer
 ex:=[]
 calm:=true
 fn:=λ_=>false
 pn:=[]
 xe:=λe s'=>wpAny (model P w) (A.deeper (PySem.W.envX qual scope s.heap.objs.size f (.ref c) cl)) (leaving (PySem.W.envX qual scope s.heap.objs.size f (.ref c) cl) e) (λ_ _=>False) (λ_ _=>False) s'
section
variable{P:Program}{w:World}{K:Frag}{mg:Str→Option Value}{base:Heap}
end
section
variable{P:Program}{w:World}{K:Frag}{mg:Str→Option Value}{base:Heap}
theorem cD.Vw{N:List Str}{k:Nat}{sp:Sp}(F:cD K x qual st f fd)(S:c8 N ps (bG st))(len:∀vs H Q E,sp vs H Q E→vs.length=ps.length)
  (oa:∀(bZ:Value)(A:Around)(outer:List Env)(s:Shared)(H:Hp)(vs:List V)(Q:VK)(E:XK),fd.code=bZ→dv k (A.deeper (envOfC qual (bG st) s.heap.objs.size f bZ))→sp vs H Q E→
   ∃t,jh (jL bx P w K mg base N qual (bG st) f bZ A outer s H E).kZ (j7 st) t∧t { nx:=λ_ H'=>Q .cE H',rt:=Q } (start N vs) H):bz P w K mg base bx (k+1) f fd ps sp:=by
 obtain⟨oc,od,kV,doc,pm,an,bZ,ct,ma,rfl,lk,gZ⟩:=F.ex;refine D6 lk gZ S len λA outer s H vs Q E hr jj=>?_;obtain⟨t,h,q⟩:=oa bZ A outer s H vs Q E rfl hr jj;exact⟨t,h.kZ,q⟩
theorem Vx{Pt:Addr}{oc:Value}{od:Option Addr}{sl:Array (Option Value)}(a:nsIn K mainGlobals x=some (some (.ref f)))(l:K.lookup f=some ⟨oc,od,.func fd,sl⟩)(t:tabIn K x=some (c,Pt)):fd.code=.ref c:=by
 unfold tabIn at t;rw[a]at t;simp only[l]at t;split at t
 ·rename_i c2 hc
  split at t
  ·split at t
   ·cases t;exact hc
   ·cases t
  ·cases t
 ·cases t
theorem Vy{tabs:List (Addr×Addr)}{mb:Str→Option Value}{k:Nat}{fa:Addr}{sp:Sp}{s₁:Shared}{vs:List Value}{ns:List Int}
  (KX:K.In s₁.heap) (noT:PySem.W.noTabs K=true) (hT:PySem.W.TabsAt tabs s₁.heap) (AH:s₁.heap.Ns mainGlobals mg) (hb:s₁.heap.Ns builtinsNs mb) (pj:∀x:Str,x ≠ "__name__"→mb x=bootBuiltins x) (Vz:rf mg s₁.heap) (VA:s₁.heap.NoLimit) (hg:s₁.gens=#[])
  (ha:s₁.heap.get? a=some { cls:=.type "list",data:=.seq vs.toArray }) (hi:IntsAre vs ns) (hl:ns.length≤sizeLine) (hr:dv k callerA)
  (F:∀base:Heap,K.In base→base.Ns mainGlobals mg→rf mg base→(∀q∈tabs,CodeHd base q.1 q.2)→bz P w K mg base bx k fa fd [x] sp) (Fd:∀(s:Shared)(u:Value),BindsTo s fd ⟨[u],[]⟩ [(x,u)])
  (jj:∀H:Hp,cV K H a (ns.map V.int)→(∀q∈tabs,H q.2=some (.fg #[]))→sp [.ref a] H (λv _=>v=.bl true) λ_ _ _=>False) :
  codeAny (model P w) callerA (.call (.ref fa) ⟨[.ref a],[]⟩) (λr s'=>r=.ok (.ret (.bool true))∧OldK s₁.heap s'.heap∧s'.os=s₁.os∧AllBare s'.gens) s₁:=by
 have rv:=JW hi;have VC:=hi.length;have VD:∀q∈tabs,K.lookup q.2=none:=λq hq=>by
  cases e:K.lookup q.2 with
  |none=>rfl
  |some o=>
   have e1:=KX _ _ e;rw[(hT q hq).2]at e1;cases e1;have h2:=se.mp noT (q.2,PySem.W.tabObj #[]) (PySem.W.mem_of_lookupK e);exact(ic (show false=true from h2)).elim
 have aT:∀q∈tabs,q.2≠a:=λq hq z=>by
  have e:=(hT q hq).2;rw[z,ha]at e;cases e
 have core:∀H:Hp,cV K H a (ns.map V.int)→dy P w H s₁.heap→(∀q∈tabs,H q.2=some (.fg #[]))→(∀b u,H b=some u→(b=a∧K.lookup a=none∧∃o xs,u=.jg o (.lst xs))∨(∃q∈tabs,b=q.2))→
   codeAny (model P w) callerA (.call (.ref fa) ⟨[.ref a],[]⟩) (λr s'=>r=.ok (.ret (.bool true))∧OldK s₁.heap s'.heap∧s'.os=s₁.os∧AllBare s'.gens) s₁:=by
  intro H hS bQ vt hA;have AI:∀{b:Addr}{o:Obj},s₁.heap.get? b=some o→H b=none→(nU s₁.heap H).get? b=some o:=λe n=>Rb e n;have Fe:∀{b:Addr}{o:Obj},s₁.heap.get? b=some o→o≠{ cls:=.type "list",data:=.seq vs.toArray }→o≠PySem.W.tabObj #[]→H b=none:=λ{b o} e n1 n2=>by
   cases q:H b with
   |none=>rfl
   |some u=>
    rcases hA b u q with⟨rfl,_⟩|⟨r,hr,rfl⟩
    ·rw[ha]at e;cases e;exact absurd rfl n1
    ·rw[(hT r hr).2]at e;cases e;exact absurd rfl n2
  have AJ:∀{b:Addr}{m:Str→Option Value},s₁.heap.Ns b m→(nU s₁.heap H).Ns b m:=λ{b m} ⟨o,es,ep,e,d,r⟩=>⟨o,es,ep,AI e (Fe e (λz=>by rw[z]at d;cases d) (λz=>by rw[z]at d;cases d)),d,r⟩;have Lz:K.In (nU s₁.heap H):=λb o e=>AI (KX b o e) (by
   cases q:H b with
   |none=>rfl
   |some u=>
    rcases hA b u q with⟨rfl,hn,_⟩|⟨r,hr,rfl⟩
    ·rw[hn]at e;cases e
    ·rw[VD r hr]at e;cases e)
  have hM:Mod K mg (nU s₁.heap H):=⟨Lz,AJ AH,⟨mb,AJ hb,pj⟩,let ⟨mc,h1,h2⟩:=VA;⟨mc,AJ h1,h2⟩⟩;have VE:rf mg (nU s₁.heap H):=by
   obtain⟨bm,ob,b1,b2,b3,b4,b5,b6⟩:=Vz;exact⟨bm,ob,b1,b2,AI b3 (Fe b3 (λz=>by rw[z]at b4;exact absurd (Value.type.inj b4) (by decide)) (λz=>by rw[z]at b4;cases b4)),b4,b5,b6⟩
  have VF:∀q∈tabs,CodeHd (nU s₁.heap H) q.1 q.2:=λq hq=>by
   obtain⟨o,VG,file,tf,VH,tg,VI,text,tt,e1,e2,r⟩:=(hT q hq).1;exact⟨o,VG,file,tf,VH,tg,VI,text,tt,AI e1 (Fe e1 (λz=>by rw[z]at e2;exact absurd (Value.type.inj e2) (by decide)) (λz=>by rw[z]at e2;cases e2)),e2,r⟩
  have e0:uU P w K mg (nU s₁.heap H) callerA [] s₁ H:=⟨rfl,hM,λb o e=>Rc e,Nat.le_of_eq (Ra _ _),trivial,λb hb=>absurd (show b∈([]:List Addr) from hb) (by simp),bQ,.of_eq hg⟩
  refine codeAny_mono ((F _ Lz (AJ AH) VE VF).run callerA [] s₁ H ⟨[.ref a],[]⟩ [.ref a] [.ref a] _ _ hr e0 (Fd s₁ (.ref a)) (.cons rfl .nil) (jj H hS vt)) λr s' h=>?_;cases r with
  |error e=>exact False.elim h
  |ok fl=>
   cases fl with
   |next=>exact False.elim h
   |brk=>exact False.elim h
   |cont=>exact False.elim h
   |ret u=>
    obtain⟨v,H',os,bare,un,LA,r',q⟩:=h;have q':v=.bl true:=q;subst q';obtain rfl:u=Value.bool true:=r';have keep:∀b o,s₁.heap.get? b=some o→s'.heap.get? b=some o∨∃q∈tabs,b=q.2∧o=PySem.W.tabObj #[]∧∃ps,s'.heap.get? b=some (PySem.W.tabObj ps):=λb o e=>by
     cases q:H b with
     |none=>exact .inl (un.keep b o e q (by intro z;exact absurd (show b∈([]:List Addr) from z) (by simp)) (by simp))
     |some u=>
      rcases hA b u q with⟨rfl,_,ob,xs,rfl⟩|⟨r,hr,rfl⟩
      ·have z2:=un.jI _ ob _ q;obtain⟨e1,_⟩:=bQ _ _ q;obtain⟨e2,_⟩:=LA _ _ z2;rw[e]at e1;cases e1;exact .inl e2
      ·obtain⟨more,hm⟩:=un.j6 _ _ (vt r hr);have e2:=(hT r hr).2;rw[e]at e2;exact .inr ⟨r,hr,rfl,cY e2,_,LA _ _ hm⟩
    refine⟨rfl,⟨λb o e=>?_,λb o e=>?_⟩,os,bare⟩
    ·rcases keep b o e with h|⟨q,hq,rfl,rfl,ps,hP⟩
     ·exact .inl h
     ·exact .inr (.inl ⟨((hT q hq).1.tab (hT q hq).2).isCodeTable,rfl,#[],ps,rfl,by rw[Array.empty_append];exact hP⟩)
    ·rcases keep b o e with h|⟨q,hq,rfl,rfl,ps,hP⟩
     ·exact⟨_,h⟩
     ·exact⟨_,hP⟩
 cases hk:K.lookup a with
 |some o=>
  have e:=KX a o hk;rw[ha]at e;cases e;refine core (λb=>if b∈tabs.map (·.2)then some (.fg #[])else none) (.inr ⟨_,vs.toArray,_,hk,rfl,rfl,rfl,by rw[dP,VC];exact hl,by simpa using rv⟩) (λb u z=>?_) (λq hq=>ae (List.mem_map_of_mem hq)) λb u z=>?_
  ·by_cases ml:b∈tabs.map (·.2)
   ·have z':=(ae ml).symm.trans z;cases z';obtain⟨q,hq,rfl⟩:=eA.mp ml;exact(hT q hq).2
   ·have z':=(ah ml).symm.trans z;cases z'
  ·by_cases ml:b∈tabs.map (·.2)
   ·obtain⟨q,hq,rfl⟩:=eA.mp ml;exact .inr ⟨q,hq,rfl⟩
   ·have z':=(ah ml).symm.trans z;cases z'
 |none=>
  have hif:∀b,b=a→(if b=a then some (HO.jg { cls:=.type "list",data:=.seq vs.toArray } (.lst (ns.map V.int)))else if b∈tabs.map (·.2)then some (.fg #[])else none)=some (HO.jg { cls:=.type "list",data:=.seq vs.toArray } (.lst (ns.map V.int))):=λb hb=>ae hb
  refine core (λb=>if b=a then some (.jg { cls:=.type "list",data:=.seq vs.toArray } (.lst (ns.map V.int)))else if b∈tabs.map (·.2)then some (.fg #[])else none) (.inl (.inr ⟨{ cls:=.type "list",data:=.seq vs.toArray },ae rfl⟩)) (λb u z=>?_) (λq hq=>(ah (aT q hq)).trans (ae (List.mem_map_of_mem hq))) λb u z=>?_
  ·by_cases hb:b=a
   ·have z':=(ae hb).symm.trans z;cases z';subst hb;exact⟨ha,by rw[bI];exact hl,vs,_,rv,ha⟩
   ·have z:=(ah hb).symm.trans z;by_cases ml:b∈tabs.map (·.2)
    ·have z':=(ae ml).symm.trans z;cases z';obtain⟨q,hq,rfl⟩:=eA.mp ml;exact(hT q hq).2
    ·have z':=(ah ml).symm.trans z;cases z'
  ·by_cases hb:b=a
   ·have z':=(ae hb).symm.trans z;cases z';exact .inl ⟨hb,hk,_,_,rfl⟩
   ·have z:=(ah hb).symm.trans z;by_cases ml:b∈tabs.map (·.2)
    ·obtain⟨q,hq,rfl⟩:=eA.mp ml;exact .inr ⟨q,hq,rfl⟩
    ·have z':=(ah ml).symm.trans z;cases z'
end
theorem VJ{l:PySem.W.OpenLaw}{n k:Nat}{q:Program}{uZ:List Str}{XP:(Str→Option Value)→Heap→Prop}{YP:World→Heap→Prop}{d:DefRec}{K:Params→Frag}{sp:World→Sp}{tabs:World→List (Addr×Addr)}
  (hn:l.most=some n) (VL:n≤sizeLine) (xo:d.params.defaults=[]) (hr:dv k callerA)
  (hY:∀(w:World)(h:Heap),YP w h→(K w.params).In h) (noT:∀w:World,PySem.W.noTabs (K w.params)=true)
  (hT:∀(w:World){xG:ExcName→Option Value}{lo:List Str}{mg mb:Str→Option Value}{h:Heap},Top q lo xG mg mb h→(K w.params).In h→PySem.W.TabsAt (tabs w) h)
  (F:∀(w:World)(mg:Str→Option Value)(fa:Addr)(h:Heap),(K w.params).In h→h.Ns mainGlobals mg→mg d.name=some (.ref fa)→
   ∃fd:FuncData,(∀(s:Shared)(u:Value),BindsTo s fd ⟨[u],[]⟩ [(x,u)])∧
    ∀base:Heap,(K w.params).In base→base.Ns mainGlobals mg→rf mg base→(∀q∈tabs w,CodeHd base q.1 q.2)→bz l.prog w (K w.params) mg base bx k fa fd [x] (sp w))
  (jj:∀(w:World)(H:Hp)(a:Addr)(ns:List Int),ns.length≤n→cV (K w.params) H a (ns.map V.int)→(∀q∈tabs w,H q.2=some (.fg #[]))→sp w [.ref a] H (λv _=>v=.bl true) λ_ _ _=>False) :
  PySem.W.WalkO q uZ XP YP l.row.toRowW d [] (λf vs=>PySem.call f vs):=by
 refine Att.SI hn xo λw s₀ s₁ mg mb fa o pm cd doc a vs ns G Y ho hd gZ hmg Ei hints cJ hg=>?_;have KX:=hY w _ Y;obtain⟨fd,hb,hF⟩:=F w mg fa _ KX G.T.g hmg;exact Vy KX (noT w) (hT w G.T KX) G.T.g G.T.b G.T.builtins G.T.bmain G.T.nolimit hg Ei hints (gp cJ VL) hr hF hb λH hS vt=>jj w H a ns cJ hS vt
noncomputable def nF(K:Frag)(x:Str):Addr×Addr:=(tabIn K x).getD (0,0)
theorem LB{K:Frag}(h:(tabIn K x).isSome=true):tabIn K x=some (nF K x):=by
 unfold nF;cases e:tabIn K x with
 |none=>rw[e]at h;cases h
 |some q=>rfl
theorem tabs_nil:PySem.W.TabsAt [] h:=λ_ hq=>(nomatch hq)
theorem tabs_cons{q:Program}{lo:List Str}{xG:ExcName→Option Value}{mg mb:Str→Option Value}{K:Frag}{d:DefRec}{l:List (Addr×Addr)}(T:Top q lo xG mg mb h)(X:K.In h)(hr:(recsOf q).find? (λe=>e.name==x)=some d)
  (hs:(tabIn K x).isSome=true) (hl:PySem.W.TabsAt l h):PySem.W.TabsAt (nF K x::l) h:=List.forall_mem_cons.mpr ⟨PySem.W.tab_of (c:=(nF K x).1) (P:=(nF K x).2) T X hr (LB hs),hl⟩
def jU(h:Heap)(a:Addr)(D:List (Str×V)):Prop:=KTD.TabOf (λ(v:V)(u:Value)=>RelV v u) h a D
noncomputable def LC:V→Value→Bool
 | .cE,.none=>true
 | .bl b,.bool c=>b==c
 | .int i,.int j _=>i==j
 | .str x,.str y _=>x==y
 | .ref a,.ref b=>a==b
 |_,_=>false
theorem VM(v:V)(u:Value)(h:LC v u=true):RelV v u:=by
 cases v<;>cases u<;>first|exact Bool.noConfusion h|rfl|(have e:=beq_iff_eq.mp h;subst e;first|rfl|exact⟨_,rfl⟩)
noncomputable def VN:Value→V
 | .bool b=>.bl b
 | .int i _=>.int i
 | .str x _=>.str x
 | .ref a=>.ref a
 |_=>.cE
noncomputable def fV(K:Frag)(a:Addr):List (Str×V):=match K.lookup a with
 |some ⟨_,_,.dict es _,_⟩=>es.toList.map λe=>((match e.key with | .str x _=>x|_ => ""),VN e.val)
 |_=>[]
noncomputable def AK(K:Frag)(a:Addr):Bool:=KTD.tabLook LC (λb=>K.lookup b) a (fV K a)
theorem Ff{K:Frag}(X:K.In h)(e:AK K a=true):jU h a (fV K a):=KTD.tab_of_look VM (λb o q=>X b o q) e
theorem jU.typeIs{D:List (Str×V)}(T:jU s.heap a D):s.TypeIs (.ref a) "dict":=by
 obtain⟨_,o,_,_,ho,hc,_⟩:=T;exact⟨o,ho,hc.1⟩
theorem jU.noDict{D:List (Str×V)}(T:jU h a D):∀b,Value.ref a=.ref b→∃ob,h.get? b=some ob∧ob.dict=none:=λb e=>by
 cases e;obtain⟨_,o,_,_,ho,hc,_⟩:=T;exact⟨o,ho,hc.2.1⟩
section
variable{prog:Program}{w:World}{A:Around}{E:QV}{s:Shared}{a:Addr}{D:List (Str×V)}{x:Str}{tk:Tok}
theorem Fg{Q:Option Value→Shared→Prop}(T:jU s.heap a D)(h1:∀v u,KTD.datumAt x D=some v→RelV v u→Q (some u) { s with toks:=s.toks+1 })(h2:KTD.datumAt x D=none→Q none { s with toks:=s.toks+1 }) :
  wpAny (model prog w) A (dictGet a (.str x tk)) Q E s:=by
 obtain⟨_,o,es,ep,ho,hc,hd,hr⟩:=T;have VO:(es.all λe=>isExactStrKey e.key)=true:=by
  have z:=hr.exact;obtain⟨l⟩:=es;simpa using z
 have hf:findBy (λk v=>v.isStr k) es x=(es.toList.find? λe=>e.key.isStr x).map (·.val):=by obtain⟨l⟩:=es;simp[findBy]
 have hq:Q (findBy (λk v=>v.isStr k) es x) { s with toks:=s.toks+1 }:=by
  rw[hf];cases e:KTD.datumAt x D with
  |none=>rw[hr.find_none e];exact h2 e
  |some v=>obtain⟨u,z1,z2⟩:=hr.find_some e;rw[z1];exact h1 v u e z2
 rw[findBy_of_findIdx?]at hq;unfold dictGet;refine au (wpAny_pyHash_str (au (KTD.kt_dictFind_strs (s:={ s with toks:=s.toks+1 }) ho hd VO ?_)));cases e:es.findIdx? λe=>e.key.isStr x with
 |none=>rw[e]at hq;exact ay hq
 |some i=>rw[e]at hq;exact au (wpAny_dictEntries (s:={ s with toks:=s.toks+1 }) ho hd (ay hq))
theorem kd_item{v:V}(T:jU s.heap a D)(hv:KTD.datumAt x D=some v)(h:∀u,RelV v u→Q u { s with toks:=s.toks+1 }):wpAny (model prog w) A (getItem (.ref a) (.str x tk)) Q E s:=by
 unfold getItem
 try (with_reducible refine av ?_)
 refine au (wpAny_sequenceKey (T.typeIs) (by decide) ?_);refine au (aC (name:=Str.ofString "__getitem__") T.typeIs PySem.F.slot_dict_getitem (aD PySem.F.slot_dict_getitem T.typeIs PySem.F.entry_dict_getitem ?_ (PySem.F.args_dict_getitem_2 _ _)));show wpAny _ _ (dictGet a (.str x tk) >>= _) _ _ s;exact au (Fg T (λv' u e r=>by rw[hv]at e;cases e;exact ay ⟨u,rfl,ay (h u r)⟩) λe=>by rw[hv]at e;cases e)
theorem VP(T:jU s.heap a D)(h:Q (.bool (KTD.datumAt x D).isSome) { s with toks:=s.toks+1 }):wpAny (model prog w) A (compareOp .In (.str x tk) (.ref a)) Q E s:=by
 show wpAny _ _ (do return .bool (← contains (.ref a) (.str x tk))) Q E s
 refine au ?_;unfold contains
 try (with_reducible refine av ?_)
 refine au (wpAny_specialOf T.typeIs PySem.F.slot_dict_contains.lookup ?_);show wpAny _ _ (if(some (Value.builtin "dict.__contains__")==some Value.none)=true then _ else _) _ _ s
 rw[ah (by decide)];refine au (wpAny_callSpecialUnlessNone?_slot (name:=Str.ofString "__contains__") T.typeIs PySem.F.slot_dict_contains (aD PySem.F.slot_dict_contains T.typeIs PySem.F.entry_dict_contains ?_ (PySem.F.args_dict_contains_2 _ _)));show wpAny _ _ (dictGet a (.str x tk) >>= _) _ _ s;refine au (Fg T (λv u e _=>?_) λe=>?_)
 ·rw[e]at h;exact(ay ⟨_,rfl,aj (ay h)⟩)
 ·rw[e]at h;show wpAny _ _ (Builtin.Dict.pendingKey? a (.str x tk) >>= _) _ _ _;exact au (wpAny_pendingKey_other T.1 (ay ⟨_,rfl,aj (ay h)⟩))
theorem VQ{dflt:Value}:MeetsIn prog w (Builtin.«dict.get» ⟨[.ref a,.str x tk,dflt],[]⟩) (λ_ R s=>jU s.heap a D∧(∀v u,KTD.datumAt x D=some v→RelV v u→R (.ok (.ret u)) { s with toks:=s.toks+1 })∧(KTD.datumAt x D=none→R (.ok (.ret dflt)) { s with toks:=s.toks+1 })):=
 .of_wp λA₁ R s ⟨T,h1,h2⟩=>by
  show wpAny _ _ (dictGet a (.str x tk) >>= _) _ _ s;refine au (Fg T (λv u e r=>ay ⟨u,rfl,h1 v u e r⟩) λe=>?_);show wpAny _ _ (Builtin.Dict.missed a (.str x tk) >>= _) _ _ _;exact au (wpAny_missed_other T.1 (ay ⟨dflt,rfl,h2 e⟩))
theorem VR{dflt:Value}(T:jU s.heap a D)(h1:∀v u,KTD.datumAt x D=some v→RelV v u→Q u { s with toks:=s.toks+1 })(h2:KTD.datumAt x D=none→Q dflt { s with toks:=s.toks+1 }) :
  wpAny (model prog w) A (call (.builtin "dict.get") [.ref a,.str x tk,dflt]) Q E s:=
 call_meetsIn PySem.F.slot_dict_get T.typeIs PySem.F.entry_dict_get (PySem.F.args_dict_get_3 _ _ _) (VQ (D:=D)) ⟨T,h1,h2⟩
end
section
variable{X:Cx}{o i e f:Expr}{pos ji eM:Pos}{td ty tx:TE}{a:Addr}{D:List (Str×V)}
def AL(a:Addr)(D:List (Str×V))(td ty:TE):TE:=λσ H Q=>td σ H λu H1=>ty σ H1 λy H2=>∃x v,u=.ref a∧y=.str x∧KTD.datumAt x D=some v∧Q v H2
theorem Fh(hT:∀h,X.K.In h→jU h a D)(ho:PE X o td)(hi:PE X i ty)(hs:E8 i):PE X (.Subscript o i pos) (AL a D td ty):=by
 intro aK s σ H Q I h;refine Ll PySem.F.slot_dict_getitem.lookup hs (bt (ho aK s σ H _ I h) λu s1 ⟨x',H1,I1,rx,q1⟩=>bt (hi aK s1 σ H1 _ I1 q1) λiv s2 ⟨y,H2,I2,ry,x,v,ex,ey,g,q2⟩=>?_);subst ex ey;obtain rfl:u=Value.ref a:=rx;obtain⟨tk,rfl⟩:=ry;exact⟨(hT _ I2.fh).typeIs,kd_item (hT _ I2.fh) g λu r=>⟨v,H2,I2.tok _,r,q2⟩⟩
def AM(a:Addr)(D:List (Str×V))(ty td:TE):TE:=λσ H Q=>ty σ H λy H1=>td σ H1 λu H2=>∃x,u=.ref a∧y=.str x∧Q (.bl (KTD.datumAt x D).isSome) H2
theorem Fi(hT:∀h,X.K.In h→jU h a D)(hi:PE X i ty)(ho:PE X o td):PC X .In i o (AM a D ty td):=by
 intro aK s σ H Q I h;refine bt (hi aK s σ H _ I h) λiv s1 ⟨y,H1,I1,ry,q1⟩=>bt (ho aK s1 σ H1 _ I1 q1) λu s2 ⟨x',H2,I2,rx,x,ex,ey,q2⟩=>?_;subst ex ey;obtain rfl:u=Value.ref a:=rx;obtain⟨tk,rfl⟩:=ry;exact VP (hT _ I2.fh) ⟨.bl _,H2,I2.tok _,rfl,q2⟩
def VT(a:Addr)(D:List (Str×V))(td ty tx:TE):TE:=λσ H Q=>td σ H λu H1=>u=.ref a∧ty σ H1 λy H2=>tx σ H2 λz H3=>∃x,y=.str x∧Q ((KTD.datumAt x D).getD z) H3
theorem VU(hT:∀h,X.K.In h→jU h a D)(ho:PE X o td)(he:PE X e ty)(hf:PE X f tx)(m:M2 X o "get" ji e f eM):PE X (.Call (.Attribute o "get" ji) [e,f] [] eM) (VT a D td ty tx):=by
 intro aK s σ H Q I h;refine wpAny_Call_method m.base m.ph m.line PySem.F.plainAttrs_dict PySem.F.slot_dict_get PySem.F.type_dict_get (bt (ho aK s σ H _ I h) λu s1 ⟨x',H1,I1,rx,ex,q1⟩=>?_);subst ex;obtain rfl:u=Value.ref a:=rx;refine⟨(hT _ I1.fh).typeIs,(hT _ I1.fh).noDict,?_⟩;rw[m.trees];refine Calls.callWith_builtin rfl (Calls.evalArgs_plain (Calls.spliced_cons (bt (he aK s1 σ H1 _ I1 q1) λiv s2 ⟨y,H2,I2,ry,q2⟩=>Calls.spliced_cons (bt (hf aK s2 σ H2 _ I2 q2) λfv s3 ⟨z,H3,I3,rz,x,ey,q3⟩=>Calls.spliced_nil ?_))));subst ey;obtain⟨tk,rfl⟩:=ry;refine VR (hT _ I3.fh) (λv u e r=>⟨v,H3,I3.tok _,r,?_⟩) λe=>⟨z,H3,I3.tok _,rz,?_⟩
 ·rw[e]at q3;exact q3
 ·rw[e]at q3;exact q3
end
noncomputable def vw(hi:Int)(n:Nat):It:=⟨λi _=>i<n,λi H x H'=>H'=H∧x=.int (hi-i),λi _=>n≤i⟩
theorem VV{P:Program}{w:World}{K:Frag}{tg:Expr}(it:Addr)(hi:Int)(n:Nat):Turn P w K tg (vw hi n) [it] it (λi h=>IsRangeIter h it (hi+(i:Nat)*(-1)) ((n:Int)-(i:Nat)) (-1)) where
 mem:=by simp
 obj:=λi h st b hb=>by
  have e:b=it:=by simpa using hb
  subst e;refine⟨_,st,λv z=>?_⟩;cases(show Data.fields _=Data.cell v from z)
 keep:=λi h h' st k=>k it (by simp) _ st
 item:=by
  intro X hP hw hK hc i aK s σ H E I hf st hg;subst hP hw hK;obtain⟨f0,f1,f2,f3,f4,f5⟩:=hf it (by simp);refine(Walks.range (prog:=X.prog) (w:=X.w) (I.ok.hd hc) it hi (-1) n).item i s _ _ hg st λv h' tk hv nZ kk=>?_;obtain⟨t,rfl⟩:=hv;have I1:Inv X aK σ H { s with heap:=h',toks:=tk }:=I.turned (λb o hb e=>kk b o (by simpa using hb) e) f0 f1 f3 f4 f5;refine⟨_,rfl,zG (s:={ s with heap:=h',toks:=tk }) (n := "range_iterator") nZ rfl rfl (by decide) ⟨.int (hi-i),H,I1,⟨t,?_⟩,⟨rfl,rfl⟩,nZ,λb hb=>(hf b hb).1⟩⟩;rw[Int.mul_neg,Int.mul_one,Int.sub_eq_add_neg]
 done:=by
  intro X hP hw hK hc i aK s σ H E I hf st hg;subst hP hw hK;obtain⟨f0,f1,f2,f3,f4,f5⟩:=hf it (by simp);exact wpAny_pyNext_range_end (I.ok.hd hc) st (by have:n≤i:=hg;lia) λh' eb=>⟨rfl,I.turned (t':=s.toks) (λb o hb e=>eb b o hb e) f0 f1 f3 f4 f5⟩
 self:=λ_ _ _ _ _ st h=>wpAny_pyIter_rangeiter st h
theorem LD(h:-1≤i):Builtin.Range.rangeSize i (-1) (-1)=i+1:=by
 (unfold Builtin.Range.rangeSize)
 rw[ah (by decide)];split
 ·rw[show(-(-1):Int)=1 from rfl,Int.ediv_one];lia
 ·lia
theorem small_down(h:-1≤i)(h2:i<2^61):Builtin.Range.small i (-1) (-1)=true:=by
 unfold Builtin.Range.small;rw[LD h];simp only[Builtin.Range.rangeFitsLong,fo,Bool.or_eq_true,aI,beq_iff_eq];exact⟨⟨⟨⟨⟨by lia,by lia⟩,by decide,by decide⟩,by decide,by decide⟩,by lia,by lia⟩,.inr (by decide)⟩
section
variable{X:Cx}{tg:Expr}
def VW(ta:TA):TI:=λσ H R=>ta σ H λvs H1=>∃i:Int,vs=[.int i,.int (-1),.int (-1)]∧(-1≤i∧i<2^61)∧R (vw i (i+1).toNat) H1
theorem VX{aK:List (Addr×Obj)}{σ:St}{R:It→Hp→Prop}{E:QV}{t u v:Tok}{tk:Nat}(I:Inv X aK σ H s)(h1:-1≤i)(h2:i<2^61)(q:R (vw i (i+1).toNat) H) :
  wpAny (model X.prog X.w) X.A (pyIter (.ref s.heap.objs.size)) (DO X aK σ tg R) E { s with heap:=s.heap.push { cls:=.type "range",data:=.fields #[.int i t,.int (-1) u,.int (-1) v] },toks:=tk }:=by
 refine wpAny_pyIter_range (IsRange.new ..) (small_down h1 h2) ?_;have I1:Inv X aK σ H { s with heap:=s.heap.push { cls:=.type "range",data:=.fields #[.int i t,.int (-1) u,.int (-1) v] },toks:=tk }:=I.kept λb o e=>eh _ e;generalize s.heap.push { cls:=.type "range",data:=.fields #[.int i t,.int (-1) u,.int (-1) v] }=h3 at I1 ⊢;refine⟨h3.objs.size,[h3.objs.size],_,_,H,rfl,I1.kept (t':=tk) λb o e=>eh _ e,VV _ i (i+1).toNat,?_,λb hb=>?_,q⟩
 ·show IsRangeIter _ _ (i+((0:Nat):Int)*(-1)) ((((i+1).toNat:Nat):Int)-((0:Nat):Int)) (-1);rw[show i+((0:Nat):Int)*(-1)=i by simp,show(((i+1).toNat:Nat):Int)-((0:Nat):Int)=Builtin.Range.rangeSize i (-1) (-1) by rw[LD h1];lia];exact iW _ rfl
 ·have e:b=h3.objs.size:=by simpa using hb
  subst e;exact I1.qS (cC _) (I1.bQ.fresh (cC _))
theorem VY{a b c:Expr}{ta:TA}{p pos:Pos}(hg:Gl X "range")(hm:X.mg "range"=none)(ha:PA X [a,b,c] ta)(hs:starEach [a,b,c] X.env=(false,eval a X.env)::starEach [b,c] X.env:=by rfl)(nj:(backTo pos (starEach [b,c] X.env)).any (·.1)=false:=by rfl) :
  PI X tg (.Call (.Name "range" p) [a,b,c] [] pos) (VW ta):=by
 intro aK s σ H R I h;refine Call_ (sJ I hg hm boot_range (Dq (bt (ha pos aK s σ H _ I h) λus s1 ⟨vs,H1,I1,r1,q1⟩=>?_) hs nj));obtain⟨i,e,⟨q1,q2⟩,q⟩:=q1;subst e;cases r1 with
 |cons r rr=>
  cases rr with
  |cons r' rr=>
   cases rr with
   |cons r2 rr=>
    cases rr;obtain⟨t,rfl⟩:=r;obtain⟨t',rfl⟩:=r';obtain⟨t2,rfl⟩:=r2;exact call_range_3 (by decide) (VX I1 q1 q2 q) (Or.inl (PyProof.noPylong_small (by lia)))
end
theorem VZ{hi:Int}{n:Nat}{g:TG}{tb:TS}{D:Ends}{σ:St}(Pv:Nat→St→Hp→Prop)(h0:Pv 0 σ H)
  (hs:∀i σ H,i<n→Pv i σ H→g (.int (hi-(i:Nat))) σ H λσ2 H2=>tb { D with nx:=Pv (i+1),ct:=Pv (i+1),bk:=D.nx } σ2 H2) (hd:∀σ H,Pv n σ H→D.nx σ H) :
  ∃W:Nat→Nat→St→Hp→Prop,(∃m,W 0 m σ H)∧∀i m σ H,W i m σ H→
   ((vw hi n).stop i H∧D.nx σ H)∨((vw hi n).go i H∧∃N:St→Hp→Prop,(∀σ' H',N σ' H'→∃m',m'<m∧W (i+1) m' σ' H')∧∀x H',(vw hi n).qR i H x H'→g x σ H' λσ2 H2=>tb { D with nx:=N,ct:=N,bk:=D.nx } σ2 H2):=by
 refine⟨λi m σ H=>m=n-i∧i≤n∧Pv i σ H,⟨n,by simp,nO _,h0⟩,?_⟩;rintro i m σ H ⟨rfl,oj,p⟩;by_cases c7:i<n
 ·exact .inr ⟨c7,Pv (i+1),λσ' H' p'=>⟨n-(i+1),by lia,rfl,c7,p'⟩,λx H' ⟨z1,z2⟩=>by subst z1 z2;exact hs i σ _ c7 p⟩
 ·have e:i=n:=by lia
  subst e;exact .inl ⟨cC _,hd σ H p⟩
def vx(cp:St)(P:Hp→List V→Prop):St→Hp→List V→Prop:=λσ H zs=>(∃o:St,o.length=1∧σ=o++cp)∧P H zs
theorem vx.mk{cp:St}{P:Hp→List V→Prop}{x:Option V}{zs:List V}(h:P H zs):vx cp P (x::cp) H zs:=⟨⟨[x],rfl,rfl⟩,h⟩
theorem V0{cp:St}{te:TE}{Q:VK}{n:Nat}{H1:Hp}{lo:Int}(Pv:Nat→Hp→List V→Prop)(hz:n≤sizeLine)(h0:Pv 0 H1 [])(cJ:∀i H zs,Pv i H zs→zs.length≤i)
  (step:∀i H zs,i<n→Pv i H zs→te (some (.int (lo+(i:Nat)))::cp) H λv H5=>vx cp (Pv (i+1)) (some (.int (lo+(i:Nat)))::cp) H5 (zs++[v])) (done:∀H zs,Pv n H zs→∀p,H p=none→Q (.ref p) (upd H p (.lst zs))) :
  ∃W:Nat→Nat→St→Hp→List V→Prop,(∃m,W 0 m (List.replicate 1 none++cp) H1 [])∧jO (p4 lo n) (br 0) g6 te Q W:=by
 refine⟨λi m σ H zs=>m=n-i∧i≤n∧vx cp (Pv i) σ H zs,⟨n,by simp,nO _,⟨_,by simp,rfl⟩,h0⟩,?_⟩;rintro i m σ H zs ⟨rfl,hi,⟨o,ho,rfl⟩,pv⟩;have hl:=cJ _ _ _ pv;by_cases c7:i<n
 ·refine .inr ⟨c7,by lia,vx cp (Pv (i+1)),λσ2 H2 xw q=>⟨n-(i+1),by lia,rfl,c7,q⟩,λx H2 y=>?_⟩;obtain⟨z,rfl⟩:=Ap ho;obtain⟨rfl,rfl⟩:=y;exact step i _ zs c7 pv
 ·have e:i=n:=by lia
  subst e;exact .inl ⟨cC _,by lia,done H zs pv⟩
def eS(H H':Hp):Prop:=∀b o,H b=some o→((∃xs,o=.tup xs)∨∃ob u,o=.jg ob u)→H' b=some o
theorem eS.trans{H1 H2:Hp}(a:eS H H1)(b:eS H1 H2):eS H H2:=λc o h k=>b c o (a c o h k) k
theorem aO.tup(s:aO H H'):eS H H':=λb o h _=>s b o h
theorem eS.upd{H:Hp}{a:Addr}{o:HO}(h:∀u,H a=some u→(∃xs,u=.lst xs)∨∃aZ,u=.dK aZ):eS H (upd H a o):=λb u e k=>by
 have ne:b≠a:=λz=>by
  subst z;rcases h u e with⟨xs,rfl⟩|⟨aZ,rfl⟩<;>rcases k with⟨_,z⟩|⟨_,_,z⟩<;>cases z
 rw[cF ne];exact e
theorem eS.lst{H:Hp}{a:Addr}{xs:List V}{o:HO}(h:H a=some (.lst xs)):eS H (L2.upd H a o):=eS.upd λu e=>.inl ⟨xs,by rw[h]at e;exact(cY e).symm⟩
theorem eS.V1{aZ:List (Key×V)}{o:HO}(h:H a=some (.dK aZ)):eS H (L2.upd H a o):=eS.upd λu e=>.inr ⟨aZ,by rw[h]at e;exact(cY e).symm⟩
theorem eS.bu{K:Frag}{xs:List V}(e:eS H H')(h:bh K H a xs):bh K H' a xs:=by
 rcases h with h|h
 ·refine .inl ?_;rcases h with h|⟨o,h⟩
  ·exact .inl (e _ _ h (.inl ⟨xs,rfl⟩))
  ·exact .inr ⟨o,e _ _ h (.inr ⟨o,_,rfl⟩)⟩
 ·exact .inr h
theorem aO.put{o:HO}(s:aO H H')(h:H a=none):aO H (L2.upd H' a o):=λb u e=>by
 rw[cF (eO e h)];exact s b u e
structure oq(P:Program)(w:World)(K:Frag)(mg:Str→Option Value)(base:Heap)(k:Nat)(s:Shared)(H:Hp)(f:Addr)(R:List V→Hp→VK→Prop):Prop where
 here:(∃φ:Heap→Prop,H f=some (.ext φ)∧∀h,φ h→PySem.W.FnAt f h)∨∀h,K.In h→PySem.W.FnAt f h
 run:∀(A:Around)(outer:List Env)(s':Shared)(H':Hp)(vs:List V)(us:List Value)(Q:VK),dv k A→uU P w K mg base A outer s' H'→aO H H'→
  (∀c o,s.heap.get? c=some o→H c=none→H' c=none∧∃sl,s'.heap.get? c=some { o with slots:=sl })→Vals vs us→R vs H' Q→codeAny (model P w) A (.call (.ref f) ⟨us,[]⟩) (CR bx outer P w H' s' Q E0) s'
theorem oq.LF{P:Program}{w:World}{K:Frag}{mg:Str→Option Value}{base:Heap}{k:Nat}{sp:Sp}(F:bz P w K mg base bx k f fd ps sp)(G:cD K x qual st f fd)(hb:Binds K fd ps []) :
  oq P w K mg base k s H f (λvs H' Q=>sp vs H' Q E0):=by
 refine⟨.inr λh X=>?_,λA outer s' H' vs us Q hr e0 _ _ r q=>?_⟩
 ·obtain⟨oc,od,kV,doc,pm,an,bZ,ct,ma,rfl,lk,_⟩:=G.ex;exact⟨_,_,_,_,X _ _ lk⟩
 ·have KX:K.In s'.heap:=e0.mod.pV.keeps λb o e=>(e0.bs b o e).1;have hl:us.length=ps.length:=by rw[← r.length];exact F.len _ _ _ _ q
  have pj:=hb s' us KX (by rw[ij];exact hl);rw[ij]at pj;exact F.run A outer s' H' ⟨us,[]⟩ us vs Q E0 hr e0 pj r q
section
variable{X:Cx}{k:Nat}{f:Addr}{x:Str}{p pos:Pos}{e:Expr}{es:List Expr}{t:TA}{R:List V→Hp→VK→Prop}
theorem V2{i:Nat}(L:oq X.prog X.w X.K X.mg X.base k X.s₀ X.H₀ f R)(hr:dv k X.A)(hex:X.ex=[])(hN:X.N[i]?=some x)(hv:uP X.env.scope x)(ha:PA X (e::es) t)
  (hd:(x==("__debug__":Str))=false:=by decide) (gZ:(x==("__classdict__":Str))=false:=by decide) (he:starEach (e::es) X.env=(false,eval e X.env)::starEach es X.env:=by rfl) (iN:(backTo pos (starEach es X.env)).any (·.1)=false:=by rfl) :
  PE X (.Call (.Name x p) (e::es) [] pos) (λσ H Q=>σ[i]?=some (some (.ref f))∧aO X.H₀ H∧t σ H λvs H1=>aO X.H₀ H1∧R vs H1 Q):=by
 intro aK s σ H Q I ⟨hσ,sm,h⟩;have LG:∀{σ:St}{H1:Hp}{s1:Shared},Inv X aK σ H1 s1→aO X.H₀ H1→PySem.W.FnAt f s1.heap:=λI1 lJ=>by
  rcases L.here with⟨φ,hφ,w6⟩|z
  ·exact w6 _ (I1.bQ f _ (lJ _ _ hφ)).1
  ·exact z _ I1.fh
 refine az (bt (Ja hN hv hd gZ aK s σ H (λv H1=>v=.ref f∧H1=H) I ⟨_,hσ,rfl,rfl⟩) λu s1 ⟨v,H1,I1,r,e1,e2⟩=>?_);subst e1 e2;cases r;refine PySem.W.callWith_F (LG I1 sm) (bt (ha pos aK s1 σ H1 _ I1 h) λus s2 ⟨vs,H2,I2,rv,ot,hq⟩=>⟨LG I2 ot,?_⟩) he iN;refine wpAny_call (codeAny_mono (L.run X.A X.stack s2 H2 vs us Q hr I2.zO ot (λc o hc hn=>?_) rv hq) λr s' hq=>?_)
 ·have xH:c ∉ X.ex:=by rw[hex];simp
  exact⟨I2.base.free c o hc hn xH,I2.base.any hc hn xH⟩
 cases r with
 |error e=>exact False.elim hq
 |ok fl=>
  cases fl with
  |ret u=>exact I2.after hq
  |next=>exact False.elim hq
  |brk=>exact False.elim hq
  |cont=>exact False.elim hq
end
theorem V3(K:Frag)(hK:X.K=K){o:Expr}{to:TE}{ji eM:Pos}(ho:PE X o to)(tw:attributeBase o "pop" X.env (eval o X.env)=eval o X.env:=by rfl)(tD:(ji.endLine==eM.line)=true:=by rfl) :
  PE X (.Call (.Attribute o "pop" ji) [] [] eM) (JQ K "list" JT to):=hK▸Sr jH Dt Du Sv ho tw tD
end L2
namespace Bw
section
variable{p:Int}{n:Nat}{L L' L'':LL}
theorem pk(h:∀r∈L,Sp p (RS L') (fn r)){v:Fn}(hv:Sp p (RS L) v):Sp p (RS L') v:=hv.trans λf hf=>by
 obtain⟨r,hr,rfl⟩:=hf;exact h r hr
theorem qg{r:List Int}(h:r∈L):Sp p (RS L) (fn r):=.mem ⟨r,h,rfl⟩
end
end Bw
namespace S21
open PySem L2 Bw
variable{H:Hp}
noncomputable def top(i:Nat):Stmt:=PySem.Challenge.pw_bentwires_k62_machine.main.body.getD i (.Pass ⟨0,0,0,0⟩)
noncomputable abbrev xI:Stmt:=top 8
noncomputable abbrev qh:Stmt:=top 9
noncomputable abbrev xJ:Stmt:=top 10
noncomputable abbrev AN:Stmt:=top 11
noncomputable abbrev AO:Stmt:=top 12
noncomputable abbrev vy:Stmt:=top 13
noncomputable abbrev AQ:Stmt:=top 14
noncomputable abbrev AR:Stmt:=top 15
noncomputable abbrev AS:Stmt:=top 19
noncomputable abbrev Fj:Stmt:=top 20
noncomputable abbrev AU:Stmt:=top 21
noncomputable abbrev AV:Stmt:=top 22
noncomputable abbrev vz:Stmt:=top 23
noncomputable abbrev Fl:Stmt:=top 24
noncomputable abbrev AW:Stmt:=top 25
noncomputable abbrev Fm:Stmt:=top 28
noncomputable abbrev AX:Stmt:=top 29
noncomputable abbrev xK:Stmt:=top 30
noncomputable abbrev AY:Stmt:=top 31
noncomputable abbrev xM:Stmt:=top 32
noncomputable abbrev js:Stmt:=top 34
noncomputable abbrev AZ:Stmt:=top 35
noncomputable abbrev xN:Stmt:=top 36
noncomputable abbrev Fo:Stmt:=top 38
noncomputable abbrev Fp:Stmt:=top 39
noncomputable abbrev Fq:Stmt:=top 40
noncomputable abbrev A0:Stmt:=top 41
noncomputable abbrev Ba:Stmt:=top 42
noncomputable abbrev Fs:Stmt:=top 43
noncomputable abbrev Bb:Stmt:=top 44
noncomputable abbrev Bc:Stmt:=top 45
noncomputable abbrev Ft:Stmt:=top 46
noncomputable abbrev xO:Stmt:=top 47
noncomputable abbrev Fu:Stmt:=top 48
noncomputable abbrev Bd:Stmt:=top 49
noncomputable abbrev pq:Stmt:=top 50
noncomputable abbrev Fv:Stmt:=top 51
noncomputable abbrev Fw:Stmt:=top 52
noncomputable abbrev vA:Stmt:=top 53
noncomputable abbrev ow:Stmt:=top 54
structure Txt(mg:Str→Option Value):Prop where
 range:mg "range"=none
 zip:mg "zip"=none
 tuple:mg "tuple"=none
 list:mg "list"=none
 int:mg "int"=none
 bool:mg "bool"=none
 isinstance:mg "isinstance"=none
 len:mg "len"=none
 sum:mg "sum"=none
 max:mg "max"=none
 min:mg "min"=none
 abQ:mg "enumerate"=none
 any:mg "any"=none
 all:mg "all"=none
theorem V4:bootBuiltins "max"=some (.builtin "max"):=by decide +kernel
theorem V5:bootBuiltins "min"=some (.builtin "min"):=by decide +kernel
theorem xP{r:List Int}{j:Nat}(h:j<r.length):r[j]?=some (r.getD j 0):=by
 rw[cM h,cL,cM h];rfl
theorem qi{r:List Int}{j:Nat}(h:j<r.length):(r.map V.int)[j]?=some (.int (r.getD j 0)):=by
 rw[eU,xP h];rfl
theorem xQ{c A B:Prop} [Decidable c] (h1:¬c→A) (h2:c→B):if(!decide c)=true then A else B:=by
 by_cases h:c
 ·exact SJ h (h2 h)
 ·rw[aa h];exact gU (h1 h)
section
variable{K:Frag}
theorem ox{RS:List V}{rs:LL}{i:Nat}{x:V}(hA:bN K H RS (rs.map cy))(hx:RS[i]?=some x):∃r a,rs[i]?=some r∧x=.ref a∧bh K H a (r.map V.int):=by
 obtain⟨d,hd,iQ⟩:=hA.get hx;rw[eU]at hd;cases e:rs[i]? with
 |none=>rw[e]at hd;cases hd
 |some r=>
  rw[e]at hd;cases hd;obtain⟨a,rfl,ha⟩:=KN iQ;exact⟨r,a,rfl,rfl,ha⟩
theorem gz{RS:List V}{rs:LL}(hA:bN K H RS (rs.map cy)):RS.length=rs.length:=by rw[hA.length,bI]
end
theorem LH:∀n:Nat,(List.replicate n [V.int 0]).flatten=List.replicate n (V.int 0)
 |0=>rfl
 |n+1=>by rw[oV,uH,LH n];rfl
open Classical in
theorem LI{d e:Dat}{A B:Prop}(h:d≠e)(b:A):if(if true=true then !decide (d=e)else decide (d=e))=true then A else B:=by
 simp only[if_true,aa h,Bool.not_false];exact b
theorem Fx{s1 s2:TS}{D:Ends}{σ:St}(J:St→Hp→Prop)(h:∀N:St→Hp→Prop,(∀σ H,J σ H→N σ H)→s1 { D with nx:=N } σ H)(hr:∀σ H,J σ H→s2 D σ H):bY s1 s2 D σ H:=h _ hr
theorem vB{H':Hp}{l:Addr}(e:aO H H')(h:H' l=none):H l=none:=by
 cases q:H l with
 |none=>rfl
 |some o=>rw[e _ _ q]at h;cases h
theorem Be(rs:LL):kqdOk 8 (.list (rs.map cy))=true:=by
 show(rs.map cy).all (kqdOk 7)=true;exact KP 6 rs
theorem Fy{p:Int}{n:Nat}{L:LL}:∀k,(iE p n L k).1.length≤k∧(iE p n L k).2.length=L.length
 |0=>⟨cC _,rfl⟩
 |k+1=>by
  obtain⟨h1,h2⟩:=Fy (p:=p) (n:=n) (L:=L) k;rw[iE];unfold tK;split
  ·exact⟨by lia,h2⟩
  ·constructor
   ·show(_++[_]).length≤_;rw[cq,bI,List.length_singleton];lia
   ·show(List.map _ _).length=_;rw[bI];exact h2
theorem vC{p:Int}{n:Nat}{L:LL}(h:cz p n L):(dt p L).length≤n:=by
 by_cases dM:L=[]
 ·subst dM;exact nO _
 ·have:=(Fy (p:=p) (n:=qf L) (L:=L) (qf L)).1
  rw[Ay h dM]at this;unfold dt;rw[Ay h dM];exact this
theorem bN.at{K:Frag}{H:Hp}{XS:List V}{rs:LL}{i:Nat}(hA:bN K H XS (rs.map cy))(h:i<rs.length):∃ra,XS[i]?=some (.ref ra)∧bh K H ra ((rs[i]).map V.int):=by
 have hl:i<XS.length:=by rw[gz hA];exact h
 obtain⟨r,ra,h1,h2,h3⟩:=ox hA (cM hl);rw[cM h]at h1;cases h1;exact⟨ra,by rw[cM hl,h2],h3⟩
end S21
namespace L2
open PySem PySem.Spec PyProof.Rows
section
variable{P:Program}{w:World}{K:Frag}{mg:Str→Option Value}{base:Heap}
theorem V6{x qual:Str}{st:Stmt}{f:Addr}{fd:FuncData}{N ps:List Str}{sp:Sp}(F:cD K x qual st f fd)(S:c8 N ps (bG st))(len:∀vs H Q E,sp vs H Q E→vs.length=ps.length)
  (oa:∀(bZ:Value)(A:Around)(outer:List Env)(s:Shared)(H:Hp)(vs:List V)(Q:VK)(E:XK),sp vs H Q E→
   ∃t,jh (jL bx P w K mg base N qual (bG st) f bZ A outer s H E).kZ (j7 st) t∧t { nx:=λ_ H'=>Q .cE H',rt:=Q } (start N vs) H):bz P w K mg base bx 0 f fd ps sp:=by
 obtain⟨oc,od,kV,doc,pm,an,bZ,ct,ma,rfl,lk,gZ⟩:=F.ex;refine⟨len,λA outer s H args us vs Q E hr e0 hb r jj=>?_⟩;have hl:=len _ _ _ _ jj;have KX:K.In s.heap:=e0.mod.pV.keeps λb o e=>(e0.bs b o e).1;have sX:s.heap.NoLimit:=e0.mod.nolimit.keeps λb o e=>(e0.bs b o e).1;have xi:∀y∈ps.zip us,(bG st).names.lookup y.1=some .local∨((bG st).names.lookup y.1=some .cell∧((cellsFrom (s.heap.objs.size+1) (bG st).names []).lookup y.1).isSome=true):=λ⟨n,v⟩ hy=>by
  rcases S.par n (wK hy).1 with q|q
  ·exact .inl q
  ·exact .inr ⟨q,Dr _ _ _ (.inl q)⟩
 refine codeAny_call_function hr.depth (KX _ _ lk) rfl S.co S.gen rfl (PySem.W.codeRec_of KX gZ) (hb _ _ _ _ ?_);refine aA S.kind xi λenv he s1 x=>?_;subst he;refine⟨sX.keeps x.toInCall.keep,codeAny_func ?_⟩;obtain⟨t,ht,hq⟩:=oa bZ A outer s H vs Q E jj;have I:Inv (jL bx P w K mg base N qual (bG st) f bZ A outer s H E) [] (start N vs) H s1:=D5 S hr.hd e0 hl r x;refine ai (ht.kZ [] s1 (start N vs) H _ I hq) (λfl s' hs=>?_) λe s' hs=>hs;have fin:∀{σ':St}{H':Hp}{v:V}{u:Value},Inv (jL bx P w K mg base N qual (bG st) f bZ A outer s H E) [] σ' H' s'→RelV v u→Q v H'→CE outer P w H s Q u s':=
  λ{σ' H' v u} J rv q=>⟨v,H',J.os,J.bare,J.base,J.bQ,rv,q⟩
 cases fl with
 |ret u=>
  obtain⟨v,σ',H',J,rv,q⟩:=hs;exact fin J rv q
 |next=>
  obtain⟨σ',H',J,q⟩:=hs;exact fin (v:=V.cE) (u:=Value.none) J rfl q
 |brk=>
  obtain⟨_,_,_,q⟩:=hs;exact False.elim q
 |cont=>
  obtain⟨_,_,_,q⟩:=hs;exact False.elim q
end
end L2
namespace Bw
variable{D L T:LL}{h:List Int}{p:Int}
noncomputable def mn(p:Int)(k:Nat)(h row:List Int):List Int:=gj p row (-(row.getD k 0)) h
theorem V7{n k:Nat}{row:List Int}(p0:0<p)(hh:Rw p n h)(hr:Rw p n row):mn p k h row=dS p h k row:=by
 unfold mn dS;split
 ·rfl
 ·rename_i h0
  have h0:row.getD k 0=0:=by simpa using h0
  refine(K1 _ p0 hr.1 hh.1).ext p0 hr λj=>?_;rw[xy _ hr.1 hh.1,h0];split
  ·have:=pe p (row.getD j 0 + -0*h.getD j 0)
   rwa[show row.getD j 0 + -0*h.getD j 0=row.getD j 0 by simp]at this ⊢
  ·rw[hr.out (by lia)];exact⟨0,by simp⟩
theorem V8{a b x:Int}(p0:0<p)(ha:a*x%p=1)(hb:b*x%p=1)(a0:0≤a)(a1:a<p)(b0:0≤b)(b1:b<p):a=b:=by
 refine K0 ?_ a0 a1 b0 b1;obtain⟨u,hu⟩:=pe p (a*x);obtain⟨v,hv⟩:=pe p (b*x);rw[ha]at hu;rw[hb]at hv;exact⟨a*v-b*u,by grind⟩
theorem V9{c:Int}{n k:Nat}(hp:p∈cW)(hh:Rw p n h)(h0:h.getD k 0≠0)(c0:1≤c)(c1:c<p)(hc:c*h.getD k 0%p=1):(h.map λx=>x*c%p)=dC p n h k:=by
 have p0:0<p:=by have:=iD p hp;lia
 have b:=hh.at p0 k;obtain⟨t1,t2,t3⟩:=xx hp (show 1≤h.getD k 0 by lia) b.2;have e:=V8 p0 hc t3 (by lia) c1 (by lia) t2;have r1:Rw p n (h.map λx=>x*c%p):=⟨by simp[hh.1],λx hx=>by
  obtain⟨y,_,rfl⟩:=eA.mp hx;exact⟨ky _ (by lia),kz _ p0⟩⟩
 refine r1.ext p0 (xB p0 hh) λj=>?_;rw[xA hh,← e];by_cases hj:j<n
 ·rw[ae hj,UW hh.1 hj];exact⟨0,by lia⟩
 ·rw[ah hj,r1.out (by lia)];exact⟨0,by simp⟩
theorem drop_zero{n k:Nat}{A B:LL}{z:List Int}(I:jr p n L k (D,A++z::B))(hz:∀j,z.getD j 0=0):jr p n L k (D,A++B):=by
 have sub:∀r,r∈A++B→r∈A++z::B:=λr hr=>by
  rcases eT.mp hr with h|h<;>simp[h]
 refine⟨I.d,λr hr=>I.r r (sub r hr),λr hr=>I.z r (sub r hr),I.nC,λr hr=>I.sub r ?_,λr hr=>(I.sup r hr).trans λf hf=>?_⟩
 ·rcases(eT.mp hr)with(h|h)
  ·exact nN _ h
  ·exact jv _ (sub r h)
 ·obtain⟨q,hq,rfl⟩:=hf;rcases(eT.mp hq)with(h|h)
  ·exact .mem ⟨q,nN _ h,rfl⟩
  ·rcases(eT.mp h)with(h|h)
   ·exact .mem ⟨q,jv _ (nN _ h),rfl⟩
   ·rcases(eJ.mp h)with(rfl|h)
    ·exact Sp.zero.of_eq λj=>(hz j).symm
    ·exact .mem ⟨q,jv _ (jv _ h),rfl⟩
theorem jr.skip{n k:Nat}(I:jr p n L k (D,T))(h:∀r∈T,r.getD k 0=0):jr p n L (k+1) (D,T):=by
 obtain⟨ls,E⟩:=I.nC;exact⟨I.d,I.r,λr hr j hj=>by
  by_cases e:j=k
  ·subst e;exact h r hr
  ·exact I.z r hr j (by lia),⟨ls,E.len,E.up,λl hl=>Nat.lt_succ_of_lt (E.lt l hl),E.one,E.alone⟩,I.sub,I.sup⟩
theorem jr.head{n k i:Nat}(hp:p∈cW)(hk:k<n)(I:jr p n L k (D,T))(hi:T[i]?=some h)(h0:h.getD k 0≠0)(hf:∀j q,j<i→T[j]?=some q→q.getD k 0=0) :
  jr p n L (k+1) (D.map (dS p (dC p n h k) k)++[dC p n h k],(T.eraseIdx i).map (dS p (dC p n h k) k)):=by
 have p0:0<p:=by have:=iD p hp;lia
 have il:=(gc.mp hi).1;have hT:T=T.take i++h::T.drop (i+1):=by
  have hd:T.drop i=h::T.drop (i+1):=by rw[List.drop_eq_getElem_cons il,(gc.mp hi).2]
  rw[← hd,List.take_append_drop]
 have Bf:Rw p n h:=I.r h (gT hi);have tM:T.filter (λr=>r.getD k 0≠0)=h::(T.drop (i+1)).filter λr=>r.getD k 0≠0:=by
  rw(occs:=.pos [1]) [hT];rw[uJ,zt (by simpa using h0),List.filter_eq_nil_iff.mpr]
  ·rfl
  ·intro q hq;obtain⟨j,hj,rfl⟩:=uI.mp hq;have vq:j<i:=by rw[da]at hj;lia
   have:=hf j _ vq (by rw[cM (by lia)])
   rw[List.getElem_take];simpa using this
 have S:=K6 hp (show k+1≤n by lia) I;unfold tK at S;dsimp only at S;rw[tM]at S;dsimp only at S;have i5:=xB (place:=k) p0 Bf;have b:=Bf.at p0 k;obtain⟨t1,t2,t3⟩:=xx hp (show 1≤h.getD k 0 by lia) b.2;have zc:∀j,(dS p (dC p n h k) k h).getD j 0=0:=λj=>by
  unfold dS;rw[ae h0,xy _ Bf.1 i5.1];split
  ·rename_i hj
   apply Int.emod_eq_zero_of_dvd;rw[xA Bf,ae hj];obtain⟨u,hu⟩:=pe p (h.getD j 0*eF p (h.getD k 0));obtain⟨v,hv⟩:=pe p (eF p (h.getD k 0)*h.getD k 0);rw[t3]at hv;exact⟨h.getD j 0*v-h.getD k 0*u,by grind⟩
  ·rfl
 have e1:(T.eraseIdx i).map (dS p (dC p n h k) k)=(T.take i).map (dS p (dC p n h k) k)++(T.drop (i+1)).map (dS p (dC p n h k) k):=by
  rw[List.eraseIdx_eq_take_drop_succ,cS]
 have e2:T.map (dS p (dC p n h k) k)=(T.take i).map (dS p (dC p n h k) k)++dS p (dC p n h k) k h::(T.drop (i+1)).map (dS p (dC p n h k) k):=by
  rw(occs:=.pos [1]) [hT];rw[cS,oW]
 rw[e2]at S;rw[e1];exact drop_zero S zc
theorem jr.start{n:Nat}(hL:cz p n L):jr p n L 0 ([],L):=
 ⟨λr hr=>(nomatch hr),hL,λr _ j hj=>absurd hj (by lia),⟨[],rfl,.nil,by simp,by simp,by simp⟩,λr hr=>.mem ⟨r,hr,rfl⟩,λr hr=>.mem ⟨r,hr,rfl⟩⟩
theorem jr.done{n:Nat}(hp:p∈cW)(hL:cz p n L)(I:jr p n L n (D,T)):D=dt p L:=by
 have sup:∀r∈L,Sp p (RS D) (fn r):=λr hr=>(I.sup r hr).trans λf hf=>by
  obtain⟨r0,h0,rfl⟩:=hf;rcases(eT.mp h0)with(h0|h0)
  ·exact .mem ⟨r0,h0,rfl⟩
  ·exact(Sp.zero).of_eq λj=>(Lb (I.r r0 h0) (I.z r0 h0) j).symm
 have R:=nE hp hL;obtain⟨ls,E⟩:=I.nC;obtain⟨ms,EM⟩:=R.nC;exact E.unique hp EM I.d R.rws (λr hr=>pk R.sup (I.sub r (nN _ hr))) (λr hr=>pk sup (R.sub r hr))
theorem jr.len{p:Int}{n k:Nat}{L D T:LL}(I:jr p n L k (D,T))(hk:k≤n):D.length≤k:=by
 obtain⟨ls,E⟩:=I.nC
 have:=U0 (n:=k) E.up E.lt
 have e:ls.length=D.length:=E.len;lia
section
variable{p:Int}{n:Nat}
end
end Bw
namespace S21
open PySem L2 Bw
variable{f fA:Addr}{fd mq:FuncData}
theorem LJ:(["number","more","factor","p"]:List Str).Nodup:=by decide +kernel
def LK:Sp:=λvs H Q _=>∃p n:Int,vs=[.int p,.int n]∧2≤p∧p≤97∧Q (.int (eF p n)) H
def Bg(K:Frag):Sp:=λvs H Q _=>∃(p f:Int)(a b:Addr)(r o:List Int),vs=[.int p,.ref a,.int f,.ref b]∧2≤p∧p≤97∧-1000≤f∧f≤1000∧bh K H a (r.map V.int)∧bh K H b (o.map V.int)∧r.length=o.length∧r.length≤1000∧
 gM K H ((gj p r f o).map V.int) Q
def LM(K:Frag):Sp:=λvs H Q _=>∃(p n:Int)(a b:Addr)(b1 b2:Bool)(RS:List V)(rs:LL)(fs:List Int),vs=[.int p,.ref a,.ref b,.int n]∧2≤p∧p≤97∧0≤n∧n≤1000∧
 Sq b1 K H a RS∧bN K H RS (rs.map cy)∧Sq b2 K H b (fs.map V.int)∧rs.length=fs.length∧rs.length≤1000∧(∀r∈rs,r.length=n.toNat)∧(∀f∈fs,0≤f∧f<p)∧
 gM K H ((jQ p (rs.zip fs) (List.replicate n.toNat 0)).map V.int) Q
theorem Bh:c8 ["p","number","power","step"] ["p","number"] (bG xI):=dz rfl rfl rfl (by decide +kernel) rfl
theorem Wa(F:cD K "turned" "turned" xI f fd)(T:Txt mg):bz P w K mg base bx 1 f fd ["p","number"] LK:=by
 refine F.ok Bh (λvs H Q E h=>?_) (λbZ A outer s H vs Q E hr h=>?_)
 ·obtain⟨p,n,rfl,_⟩:=h;rfl
 ·obtain⟨p,n,rfl,p2,dh,k⟩:=h;refine⟨_,bo (cg (i:=2) Bh.nd rfl (.inl rfl) aW) (bo (nk nQ rfl (l5 rfl T.range (aN (bc jy (pv 0) aW) aU)) (cG (i:=3) Bh.nd rfl (.inl rfl)) (bV (cg (i:=2) Bh.nd rfl (.inl rfl) (bc fH (bc l6 (pv 2) (pv 1)) (pv 0))))) (bV (cO (pv 2)))),?_⟩;refine⟨_,rfl,_,_,rfl,rfl,p-2,rfl,by lia,by lia,sT (n:=(p-2).toNat) (λi σ H'=>H'=H∧∃st,σ=[some (.int p),some (.int n),some (.int (tI p n i)),st]) ⟨rfl,none,rfl⟩ ?_ ?_⟩
  ·rintro i σ H' hi ⟨rfl,st,rfl⟩;have hb:=UK (n:=n) p2 i;exact⟨_,rfl,_,rfl,_,_,rfl,rfl,.inl ⟨by lia,by lia⟩,_,rfl,_,_,rfl,rfl,by lia,rfl,_,rfl⟩
  ·rintro σ H' ⟨rfl,st,rfl⟩;exact⟨_,rfl,k⟩
theorem Wb:c8 ["p","row","factor","other"] ["p","row","factor","other"] (bG qh):=dz rfl rfl rfl (by decide +kernel) rfl
theorem LN(F:cD K "added" "added" qh f fd)(T:Txt mg):bz P w K mg base bx 0 f fd ["p","row","factor","other"] (Bg K):=by
 refine V6 F Wb (λvs H Q E h=>?_) (λbZ A outer s H vs Q E h=>?_)
 ·obtain⟨p,f,a,b,r,o,rfl,_⟩:=h;rfl
 ·obtain⟨p,fc,a,b,r,o,rfl,p2,dh,f0,f1,ha,hb,hl,hz,k⟩:=h;refine⟨_,bV (cO (iX (mi K rfl) rfl T.tuple mj (aN (gW (N:=["number","more","factor","p"]) (own:=2) (caps:=[2,0]) rfl (KS K rfl false false rfl T.zip (aN (pv 1) (aN (pv 3) aU))) (show dg ["p","row","factor","other"] (bG qh) ["number","more","factor","p"] 2 [2,0] _ from .mk' (by decide +kernel)) (λ_ _ _ _ _=>qe (n:=2) K rfl rfl (fG (cG (i:=0) LJ rfl (.inl rfl)) (fG (cG (i:=1) LJ rfl (.inl rfl)) p3))) (λ_ _ _ _ _=>fj) (λ_ _ _ _ _=>bc fH (bc eK (pv 0) (bc l6 (pv 2) (pv 1))) (pv 3))) aU))),?_⟩
  have ext:(gj p r fc o).length=r.length:=by simp[gj,hl]
  refine⟨_,rfl,_,rfl,a,b,rfl,⟨_,ha⟩,⟨_,hb⟩,Uu (b1:=false) (b2:=false) (cp:=[some (.int fc),some (.int p)]) (λi H' zs=>zs=((gj p r fc o).take i).map V.int) ha hb (by simp[hl]) (by rw[bI];exact pR (Ac hz)) rfl (λi H' zs e=>by subst e;rw[bI,da];lia) (λi H1 H2 zs _ e=>e) ?_ ?_⟩
  ·rintro i x y H' zs hx hy sm rfl;rw[eU]at hx hy;cases e1:r[i]? with
   |none=>rw[e1]at hx;cases hx
   |some u=>
    cases e2:o[i]? with
    |none=>rw[e2]at hy;cases hy
    |some v=>
     rw[e1]at hx;rw[e2]at hy;cases hx;cases hy;refine jq ?_;refine⟨_,rfl,_,rfl,_,rfl,_,_,rfl,rfl,.inl ⟨by lia,by lia⟩,_,_,rfl,rfl,_,rfl,_,_,rfl,rfl,by lia,⟨[_,_],rfl,rfl⟩,sm,?_⟩;have e3:(gj p r fc o)[i]?=some ((u+fc*v)%p):=by
      unfold gj;rw[List.getElem?_zipWith,e1,e2]
     rw[gH,e3];simp
  ·rintro H' zs sm rfl q hq;rw[bI,mZ (by lia)];refine⟨q,_,rfl,.inl ⟨.of aY,λl hl=>?_⟩⟩;exact k _ _ ((sm.trans (.upd hq)).trans (.upd hl)) (.of aY)
theorem Wc(F:cD K "added" "added" qh f fd)(T:Txt mg):bz P w K mg base bx 1 f fd ["p","row","factor","other"] (Bg K):=(LN F T).mono (by decide)
theorem LO(p:Int)(r:List Int)(f:Int):∀(L:List (List Int×Int))(t:List Int),jQ p (L++[(r,f)]) t=gj p (jQ p L t) f r
 | [],t=>rfl
 |(r',f')::L,t=>by
  rw[wM,jQ,jQ];exact LO p r f L _
theorem LP{p:Int}{n:Nat}:∀(L:List (List Int×Int))(t:List Int),(∀q∈L,q.1.length=n)→t.length=n→(jQ p L t).length=n
 | [],t,_,h=>h
 |(r,f)::L,t,h,ht=>by
  rw[jQ];refine LP L _ (λq hq=>h q (gq _ hq)) ?_
  have:=h (r,f) dj
  simp only at this;simp[gj,ht,this]
theorem xR:c8 ["p","rows","factors","length","total","row","factor"] ["p","rows","factors","length"] (bG xJ):=dz rfl rfl rfl (by decide +kernel) rfl
theorem Wd(F:cD K "summed" "summed" xJ f fd)(T:Txt mg)(FA:cD K "added" "added" qh fA mq)(bA:Binds K mq ["p","row","factor","other"] [])(mA:Mg mg "added" fA) :
  bz P w K mg base bx 1 f fd ["p","rows","factors","length"] (LM K):=by
 have GA:bz P w K mg base bx 0 fA mq ["p","row","factor","other"] (Bg K):=LN FA T;refine F.ok xR (λvs H Q E h=>?_) (λbZ A outer s H vs Q E hr h=>?_)
 ·obtain⟨p,n,a,b,b1,b2,RS,rs,fs,rfl,_⟩:=h;rfl
 ·obtain⟨p,n,a,b,b1,b2,RS,rs,fs,rfl,p2,dh,n0,n1,mh,hA,ir,hl,hz,tN,tM,k⟩:=h;refine⟨_,bo (cg (i:=4) xR.nd rfl (.inl rfl) (bc (nB K rfl) (cI (aN aW aU)) (pv 3))) (bo (nk nQ rfl (KS K rfl b1 b2 rfl T.zip (aN (pv 1) (aN (pv 2) aU))) (qe (n:=2) K rfl rfl (fG (cG (i:=5) xR.nd rfl (.inl rfl)) (fG (cG (i:=6) xR.nd rfl (.inl rfl)) p3))) (bV (cg (i:=4) xR.nd rfl (.inl rfl) (cQ GA hr rfl mA FA.kp bA .nil cR (aN (pv 0) (aN (pv 4) (aN (pv 6) (aN (pv 5) aU)))))))) (bV (cO (pv 4)))),?_⟩;refine⟨by decide,λq hq=>⟨_,rfl,q,n,_,rfl,rfl,.of aY,by simp,by lia,by lia,?_,λt H1 lJ ht=>?_⟩⟩
  ·have:(1000:Nat)≤sizeLine:=by decide
   show 1*n.toNat≤sizeLine;lia
  have Fz:aO H H1:=(aO.upd hq).trans lJ;have Bi:RS.length=(fs.map V.int).length:=by rw[hA.length,bI,bI];exact hl
  have e0:(List.replicate n.toNat [V.int 0]).flatten=(List.replicate n.toNat (0:Int)).map V.int:=by
   rw[List.map_replicate];induction n.toNat with
   |zero=>rfl
   |succ m ih=>rw[oV,uH,ih,oV];rfl
  refine⟨_,rfl,_,rfl,a,b,rfl,⟨_,Fz.sq mh⟩,⟨_,Fz.sq ir⟩,Uv (b1:=b1) (b2:=b2) (λi σ H'=>aO H H'∧∃t xS lB,σ=[some (.int p),some (.ref a),some (.ref b),some (.int n),some (.ref t),xS,lB]∧bh K H' t ((jQ p ((rs.zip fs).take i) (List.replicate n.toNat 0)).map V.int)) Bi ⟨Fz,t,none,none,rfl,by rw[e0]at ht;exact ht⟩ (λi σ H' ⟨sm,_⟩=>⟨sm.sq mh,sm.sq ir⟩) (λi σ H1 H2 LQ ⟨sm,t,xS,lB,e,ht⟩=>⟨sm.trans LQ,t,xS,lB,e,LQ.bu ht⟩) ?_ ?_⟩
  ·rintro i x y σ H' hx hy ⟨sm,t,xS,lB,rfl,ht⟩;obtain⟨d,hd,iQ⟩:=hA.get hx;rw[eU]at hd hy;cases e1:rs[i]? with
   |none=>rw[e1]at hd;cases hd
   |some r=>
    cases e2:fs[i]? with
    |none=>rw[e2]at hy;cases hy
    |some fc=>
     rw[e1]at hd;rw[e2]at hy;cases hd;cases hy;obtain⟨ra,rfl,du⟩:=KN iQ;have iR:=tN r (gT e1);have hf1:=tM fc (gT e2);have LU:(jQ p ((rs.zip fs).take i) (List.replicate n.toNat 0)).length=n.toNat:=LP _ _ (λq hq=>tN q.1 (wK (kI hq)).1) (by simp);refine⟨_,rfl,_,rfl,_,rfl,_,rfl,p,fc,t,ra,_,r,rfl,p2,dh,by lia,by lia,ht,sm.bu du,by rw[LU,iR],by rw[LU];lia,λt' H2 ot xT=>?_⟩;refine⟨sm.trans ot,t',_,_,rfl,?_⟩;have e3:(rs.zip fs)[i]?=some (r,fc):=by rw[List.getElem?_zip_eq_some];exact⟨e1,e2⟩
     rw[gH,e3];show bh K H2 t' ((jQ p ((rs.zip fs).take i++[(r,fc)]) _).map V.int);rw[LO];exact xT
  ·rintro σ H' ⟨sm,t,xS,lB,rfl,ht⟩;have e4:(rs.zip fs).length≤RS.length:=by rw[List.length_zip,hA.length,bI];lia
   rw[mZ e4]at ht;exact⟨_,rfl,k _ _ sm ht⟩
theorem We:(["row","place"]:List Str).Nodup:=by decide +kernel
theorem LV:(["row","lead","p","place"]:List Str).Nodup:=by decide +kernel
def FD(K:Frag):Sp:=λvs H Q _=>∃(p:Int)(a b:Addr)(r o:List Int)(i:Int)(j:Nat),vs=[.int p,.ref a,.ref b,.int i]∧i=j∧2≤p∧p≤97∧bh K H a (r.map V.int)∧bh K H b (o.map V.int)∧r.length=o.length∧j<r.length∧r.length≤1000∧
 (∀x∈r,0≤x∧x<p)∧gM K H ((dS p o j r).map V.int) Q
def qj(K:Frag):Sp:=λvs H Q _=>∃(p:Int)(a:Addr)(b:Bool)(RS:List V)(rs:LL)(n:Nat),vs=[.int p,.ref a]∧p∈cW∧Sq b K H a RS∧bN K H RS (rs.map cy)∧rs.length≤1000∧n≤1000∧cz p n rs∧
 ∀t H' DS,aO H H'→bh K H' t DS→bN K H' DS ((dt p rs).map cy)→Q (.ref t) H'
theorem Wf:c8 ["p","row","lead","place"] ["p","row","lead","place"] (bG AR):=dz rfl rfl rfl (by decide +kernel) rfl
theorem Wg(F:cD K "cleared" "cleared" AR f fd)(T:Txt mg)(FA:cD K "added" "added" qh fA mq)(bA:Binds K mq ["p","row","factor","other"] [])(mA:Mg mg "added" fA) :
  bz P w K mg base bx 2 f fd ["p","row","lead","place"] (FD K):=by
 have GA:bz P w K mg base bx 1 fA mq ["p","row","factor","other"] (Bg K):=Wc FA T;refine F.ok Wf (λvs H Q E h=>?_) (λbZ A outer s H vs Q E hr h=>?_)
 ·obtain⟨p,a,b,r,o,i,j,rfl,_⟩:=h;rfl
 ·obtain⟨p,a,b,r,o,i,j,rfl,rfl,p2,dh,ha,hb,hl,hj,hz,FE,k⟩:=h;refine⟨_,bV (cO (DK (df zN (bH (cH K rfl) (pv 1) (pv 3) (λ_ _=>rfl)) aW (de _)) (cQ GA hr rfl mA FA.kp bA .nil cR (aN (pv 0) (aN (pv 1) (aN (n6 n8 (bH (cH K rfl) (pv 1) (pv 3) (λ_ _=>rfl))) (aN (pv 2) aU))))) (pv 1))),?_⟩;have hx:=FE _ (gT (xP hj));refine⟨_,rfl,_,rfl,a,_,(j:Int),_,rfl,rfl,ha,cm (qi hj),rfl,_,rfl,xQ (λdM=>?_) (λheq=>?_)⟩
  ·have FF:r.getD j 0≠0:=λz=>dM (ao V.int z);refine⟨_,rfl,_,rfl,_,rfl,_,rfl,a,_,(j:Int),_,rfl,rfl,ha,cm (qi hj),_,rfl,_,rfl,p,-(r.getD j 0),a,b,r,o,rfl,p2,dh,by lia,by lia,ha,hb,hl,hz,?_⟩;unfold dS at k;rw[ae FF]at k;exact k
  ·have Wh:r.getD j 0=0:=V.int.inj heq;unfold dS at k;rw[ah (λz=>z Wh)]at k;exact⟨_,rfl,k.old ha⟩
noncomputable abbrev nD:List Str:=["p","rows","done","rest","length","place","heads","lead"]
theorem qk:c8 ["p","rows","done","rest","length","place","heads","lead"] ["p","rows"] (bG vy):=dz rfl rfl rfl (by decide +kernel) rfl
theorem LW{H:Hp}{l la:Addr}{XS:List V}{xs:LL}{p:Int}{n place:Nat}{lead:List Int}{Q:VK}{te:TE}(p2:2≤p)(dh:p≤97)(hl:cV K H l XS)(hA:bN K H XS (xs.map cy))(hx:cz p n xs)(hz:xs.length≤1000)(hn:n≤1000)(hp:place<n)(tO:lead.length=n)(gk:bh K H la (lead.map V.int))
  (FG:∀(x:Addr)(H1:Hp)(R:VK),FD K [.int p,.ref x,.ref la,.int (0+(place:Int))] H1 R (λ_ _ _=>False)→te [some (.ref x),some (.ref la),some (.int p),some (.int (0+(place:Int)))] H1 R)
  (done:∀H' zs,aO H H'→bN K H' zs ((xs.map (dS p lead place)).map cy)→∀q,H' q=none→Q (.ref q) (upd H' q (.lst zs))) :
  ∃W:Nat→Nat→St→Hp→List V→Prop,(∃m,W 0 m (List.replicate 1 none++[some (.ref la),some (.int p),some (.int (0+(place:Int)))]) H [])∧jO (nY K l) (br 0) g6 te Q W:=by
 refine qd (cp:=[some (.ref la),some (.int p),some (.int (0+(place:Int)))]) (λi H' zs=>bN K H' zs (((xs.take i).map (dS p lead place)).map cy)) hl (by rw[gz hA];exact pR (Ac hz)) .nil
  (λi H' zs h=>by rw[gz h,bI,da];lia) ?_ ?_
 ·rintro i x H' zs iQ sm h;obtain⟨r,a,hr,rfl,ha⟩:=ox hA iQ;have hR:=hx r (gT hr);refine jq (FG a H' _ ⟨p,a,la,r,lead,0+(place:Int),place,rfl,by lia,p2,dh,sm.bu ha,sm.bu gk,by rw[hR.1,tO],by rw[hR.1];exact hp,by rw[hR.1];exact hn,hR.2,λt H2 s2 ht=>?_⟩);refine⟨⟨[_],rfl,rfl⟩,sm.trans s2,?_⟩;rw[gH,hr];show bN K H2 _ (((xs.take i++[r]).map (dS p lead place)).map cy);rw[cS,cS];exact(h.mono s2).append (.cons (jn ht) .nil)
 ·rintro H' zs sm h q hq;rw[gz hA,lV]at h;exact done H' zs sm h q hq
def LX(K:Frag):Sp:=λvs H Q _=>∃(p:Int)(a:Addr)(r:List Int)(i:Int)(j:Nat),vs=[.int p,.ref a,.int i]∧i=j∧p∈cW∧bh K H a (r.map V.int)∧j<r.length∧r.length≤1000∧(∀x∈r,0≤x∧x<p)∧r.getD j 0≠0∧
 gM K H ((dC p r.length r j).map V.int) Q
theorem Wi:c8 ["p","row","place"] ["p","row","place"] (bG AQ):=dz rfl rfl rfl (by decide +kernel) rfl
theorem Wj{fT fS:Addr}{ke ql:FuncData}(F:cD K "led" "led" AQ f fd)(T:Txt mg)(FA:cD K "added" "added" qh fA mq)(bA:Binds K mq ["p","row","factor","other"] [])(mA:Mg mg "added" fA)
  (FT:cD K "turned" "turned" xI fT ke) (bT:Binds K ke ["p","number"] []) (mT:Mg mg "turned" fT) (FS:cD K "summed" "summed" xJ fS ql) (bS:Binds K ql ["p","rows","factors","length"] []) (mS:Mg mg "summed" fS) :
  bz P w K mg base bx 2 f fd ["p","row","place"] (LX K):=by
 have GT:bz P w K mg base bx 1 fT ke ["p","number"] LK:=Wa FT T;have GS:bz P w K mg base bx 1 fS ql ["p","rows","factors","length"] (LM K):=Wd FS T FA bA mA;refine F.ok Wi (λvs H Q E h=>?_) (λbZ A outer s H vs Q E hr h=>?_)
 ·obtain⟨p,a,r,i,j,rfl,_⟩:=h;rfl
 ·obtain⟨p,a,r,i,j,rfl,rfl,pp,ha,hj,hz,FE,dM,k⟩:=h;obtain⟨p2,dh⟩:=iD p pp;refine⟨_,bV (cO (cQ GS hr rfl mS FS.kp bS .nil cR (aN (pv 0) (aN (gK (aN (pv 1) aU)) (aN (gK (aN (cQ GT hr rfl mT FT.kp bT .nil cR (aN (pv 0) (aN (bH (cH K rfl) (pv 1) (pv 2) (λ_ _=>rfl)) aU))) aU)) (aN (gv (kc K rfl) rfl T.len kd (aN (pv 1) aU)) aU)))))),?_⟩;have hx:=FE _ (gT (xP hj));have xh:=xx (n:=r.getD j 0) pp (by lia) hx.2;refine⟨_,rfl,_,rfl,(by show 1≤sizeLine;decide),λl1 h1=>?_⟩;refine⟨_,rfl,_,rfl,_,rfl,a,_,(j:Int),_,rfl,rfl,(aO.upd h1).bu ha,cm (qi hj),p,r.getD j 0,rfl,p2,dh,(by show 1≤sizeLine;decide),λl2 h2=>?_⟩;have FH:aO H (upd (upd H l1 (.lst [.ref a])) l2 (.lst [.int (eF p (r.getD j 0))])):=(aO.upd h1).trans (.upd h2);refine⟨_,rfl,a,_,rfl,.inr (FH.bu ha),?_⟩;rw[bI];refine⟨p,(r.length:Int),l1,l2,true,true,[.ref a],[r],[eF p (r.getD j 0)],rfl,p2,dh,by lia,by lia,.of (by rw[cF (eO aY h2)];exact aY),.cons (jn (FH.bu ha)) .nil,.of aY,rfl,(by show 1≤1000;decide),λq hq=>by rw[dX.mp hq];rfl,λf hf=>by rw[dX.mp hf];lia,λt H6 FI ht=>?_⟩;exact k t H6 (FH.trans FI) ht
theorem Bj{fT fS fC fL:Addr}{ke ql kf mv:FuncData}(F:cD K "reduced" "reduced" vy f fd)(T:Txt mg)(FA:cD K "added" "added" qh fA mq)(bA:Binds K mq ["p","row","factor","other"] [])(mA:Mg mg "added" fA)
  (FT:cD K "turned" "turned" xI fT ke) (bT:Binds K ke ["p","number"] []) (mT:Mg mg "turned" fT) (FS:cD K "summed" "summed" xJ fS ql) (bS:Binds K ql ["p","rows","factors","length"] []) (mS:Mg mg "summed" fS)
  (FC:cD K "cleared" "cleared" AR fC kf) (bC:Binds K kf ["p","row","lead","place"] []) (mC:Mg mg "cleared" fC)
  (FL:cD K "led" "led" AQ fL mv) (bL:Binds K mv ["p","row","place"] []) (mL:Mg mg "led" fL) :
  bz P w K mg base bx 3 f fd ["p","rows"] (qj K):=by
 have GL:bz P w K mg base bx 2 fL mv ["p","row","place"] (LX K):=Wj FL T FA bA mA FT bT mT FS bS mS;have GC:bz P w K mg base bx 2 fC kf ["p","row","lead","place"] (FD K):=Wg FC T FA bA mA;refine F.ok qk (λvs H Q E h=>?_) (λbZ A outer s H vs Q E hr h=>?_)
 ·obtain⟨p,a,b,RS,rs,n,rfl,_⟩:=h;rfl
 ·obtain⟨p,a,b,RS,rs,n,rfl,pp,hq,hA,hz,hn,hR,k⟩:=h;obtain⟨p2,dh⟩:=iD p pp;refine⟨_,bo (cg (i:=2) qk.nd rfl (.inl rfl) (gK aU)) (bo (cg (i:=3) qk.nd rfl (.inl rfl) (iX (EO K rfl) rfl T.list ER (aN (pv 1) aU))) (bo (cg (i:=4) qk.nd rfl (.inl rfl) (DK (DY (pv 3) (λ_=>rfl)) (gv (kc K rfl) rfl T.len kd (aN (bH (dB K rfl) (pv 3) aW (λ_ _=>rfl)) aU)) aW)) (bo (nk nQ rfl (l5 rfl T.range (aN (pv 4) aU)) (cG (i:=5) qk.nd rfl (Or.inr rfl)) (bo (me (i:=6) (N:=["row","place"]) (own:=1) (caps:=[5]) rfl qk.nd rfl rfl (jo K rfl (pv 3)) (show dg nD (bG vy) ["row","place"] 1 [5] _ from .mk' (by decide +kernel)) (λ_ _ _ _ _=>cG (i:=0) We rfl (.inl rfl)) (λ_ _ _ _ _=>tE (df zN (bH (cH K rfl) (pv 0) (pv 1) (λ_ _=>rfl)) aW (de _))) (λ_ _ _ _ _=>pv 0)) (bV (dR (DY (pv 6) (λ_=>rfl)) (bo (cg (i:=7) qk.nd rfl (Or.inr rfl) (cQ GL hr rfl mL FL.kp bL .nil cR (aN (pv 0) (aN (bH (dB K rfl) (pv 6) aW (λ_ _=>rfl)) (aN (pv 5) aU))))) (bo (cg (i:=2) qk.nd rfl (.inl rfl) (bc o9 (gW (N:=["row","lead","p","place"]) (own:=1) (caps:=[7,0,5]) rfl (jo K rfl (pv 2)) (show dg nD (bG vy) ["row","lead","p","place"] 1 [7,0,5] _ from .mk' (by decide +kernel)) (λ_ _ _ _ _=>cG (i:=0) LV rfl (.inl rfl)) (λ_ _ _ _ _=>fj) (λ_ _ _ _ _=>cQ GC hr rfl mC FC.kp bC .nil cR (aN (pv 2) (aN (pv 0) (aN (pv 1) (aN (pv 3) aU)))))) (gK (aN (pv 7) aU)))) (bV (me (i:=3) (N:=["row","lead","p","place"]) (own:=1) (caps:=[7,0,5]) rfl qk.nd rfl rfl (jo K rfl (pv 3)) (show dg nD (bG vy) ["row","lead","p","place"] 1 [7,0,5] _ from .mk' (by decide +kernel)) (λ_ _ _ _ _=>cG (i:=0) LV rfl (.inl rfl)) (λ_ _ _ _ _=>fj) (λ_ _ _ _ _=>cQ GC hr rfl mC FC.kp bC .nil cR (aN (pv 2) (aN (pv 0) (aN (pv 1) (aN (pv 3) aU)))))))))
     e8)))) (bV (cO (iX (mi K rfl) rfl T.tuple mj (aN (pv 2) aU))))))),?_⟩
  refine⟨by decide,λld hd=>⟨_,rfl,a,RS,rfl,?_,λlr tP=>?_⟩⟩
  ·cases b with
   |true=>exact .inl ((aO.upd hd).sq (b:=true) hq)
   |false=>exact .inr ((aO.upd hd).sq (b:=false) hq)
  have lJ:aO H (upd (upd H ld (.lst [])) lr (.lst RS)):=(aO.upd hd).trans (.upd tP);have g1:(upd (upd H ld (.lst [])) lr (.lst RS)) ld=some (.lst []):=by rw[cF (eO aY tP)];exact aY
  have g2:(upd (upd H ld (.lst [])) lr (.lst RS)) lr=some (.lst RS):=aY;generalize upd (upd H ld (.lst [])) lr (.lst RS)=H1 at lJ g1 g2 ⊢;have LY:=hA.mono lJ;have cJ:RS.length=rs.length:=gz hA;refine⟨_,rfl,!RS.isEmpty,.inl ⟨RS,.of g2,rfl⟩,?_⟩;by_cases dM:rs=[]
  ·subst dM;have e0:RS=[]:=List.length_eq_zero_iff.mp cJ;subst e0;refine dY ?_;refine⟨_,rfl,0,rfl,by decide,by decide,sT (n:=0) (λi σ H'=>H'=H1∧σ=[some (.int p),some (.ref a),some (.ref ld),some (.ref lr),some (.int 0),none,none,none]) ⟨rfl,rfl⟩ (λi σ H' hi=>absurd hi (by lia)) ?_⟩;rintro σ H' ⟨rfl,rfl⟩;exact⟨_,rfl,ld,_,rfl,.inl ⟨.of g1,λt ht=>k t _ [] (lJ.trans (.upd ht)) (.of aY) .nil⟩⟩
  ·have e1:qf rs=n:=Ay hR dM;have FJ:0<rs.length:=List.length_pos_iff.mpr dM;have hb:(!RS.isEmpty)=true:=by
    cases RS with
    |nil=>rw[qM]at cJ;lia
    |cons _ _=>rfl
   rw[hb];refine gU ?_;have LZ:RS[0]?=some (RS[0]'(by lia)):=cM _;obtain⟨r0,a0,Bk,Wk,Wl⟩:=ox LY LZ;have Wm:(r0.map V.int).length=n:=by rw[bI];exact(hR r0 (gT Bk)).1
   refine⟨_,rfl,lr,RS,0,_,rfl,rfl,.of g2,cm (j:=0) (LZ.trans (ao some Wk)),a0,_,rfl,.inr Wl,?_⟩;rw[Wm];refine⟨_,rfl,(n:Int),rfl,by lia,by lia,sT (n:=n) (λi σ H'=>aO H H'∧∃dn tQ DS XS s5 s6 s7,σ=[some (.int p),some (.ref a),some (.ref dn),some (.ref tQ),some (.int (n:Int)),s5,s6,s7]∧H' dn=some (.lst DS)∧bN K H' DS ((iE p n rs i).1.map cy)∧H' tQ=some (.lst XS)∧bN K H' XS ((iE p n rs i).2.map cy)) ⟨lJ,ld,lr,[],RS,none,none,none,rfl,g1,.nil,g2,LY⟩ ?_ ?_⟩
   ·rintro i σ H2 hi ⟨sm,dn,tQ,DS,XS,s5,s6,s7,rfl,gd,hD,gr,hX⟩;have IO:=EU pp hR i (pR hi);have IL:=Fy (p:=p) (n:=n) (L:=rs) i;have Wn:iE p n rs (i+1)=tK p n (iE p n rs i) i:=rfl;rw[Wn];generalize iE p n rs i=st at hD hX IO IL ⊢;refine⟨_,rfl,tQ,rfl,⟨_,.of gr⟩,qd (cp:=[some (.int (0+(i:Int)))]) (λj H' zs=>bN K H' zs (((st.2.take j).filter λr=>r.getD i 0≠0).map cy)) (.of gr) (by rw[gz hX,IL.2];exact pR (Ac hz)) .nil (λj H' zs h=>by rw[gz h];exact gp (Dv _ _) (by rw[da];lia)) ?_ ?_⟩
    ·rintro j x H' zs iQ i6 h;obtain⟨r,ra,FK,rfl,du⟩:=ox hX iQ;have FN:=IO.r r (gT FK);have FO:i<r.length:=by rw[FN.1];exact hi
     refine⟨_,rfl,_,rfl,ra,_,(i:Int),_,rfl,ao V.int (nc _),i6.bu du,cm (qi FO),rfl,_,rfl,xQ (λFF=>?_) (λheq=>?_)⟩
     ·have xU:r.getD i 0≠0:=λz=>FF (ao V.int z);refine⟨_,rfl,⟨[_],rfl,rfl⟩,i6,?_⟩;rw[gH,FK];show bN K H' _ (((st.2.take j++[r]).filter _).map cy);rw[uJ,zt (by simpa using xU),uK,cS];exact h.append (.cons (jn (i6.bu du)) .nil)
     ·have xV:r.getD i 0=0:=V.int.inj heq;refine⟨⟨[_],rfl,rfl⟩,i6,?_⟩;rw[gH,FK];show bN K H' _ (((st.2.take j++[r]).filter _).map cy);rw[uJ,Ds (by simpa using xV),uK,ij];exact h
    rintro H3 zs oy h3 lh Bl;rw[gz hX,lV]at h3;have kg:aO H2 (upd H3 lh (.lst zs)):=oy.trans (.upd Bl);have g4:(upd H3 lh (.lst zs)) lh=some (.lst zs):=aY;have h4:=h3.mono (aO.upd Bl (o:=.lst zs));generalize upd H3 lh (.lst zs)=H4 at kg g4 h4 ⊢;refine⟨_,rfl,!zs.isEmpty,.inl ⟨zs,.of g4,rfl⟩,?_⟩;unfold tK;generalize hf:(st.2.filter λr=>r.getD i 0≠0)=hs at h4 ⊢;cases hs with
    |nil=>
     have:zs=[]:=List.length_eq_zero_iff.mp (gz h4)
     subst this;refine dY ?_;exact⟨sm.trans kg,dn,tQ,DS,XS,_,_,_,rfl,kg _ _ gd,hD.mono kg,kg _ _ gr,hX.mono kg⟩
    |cons hd tl=>
     cases zs with
     |nil=>exact absurd (gz h4) (by simp)
     |cons z xW=>
      obtain⟨r',ha,lK,rfl,Wo⟩:=ox (i:=0) (x:=z) h4 rfl;have er:hd=r':=cY lK;subst er;refine gU ?_;have L0:hd∈st.2∧hd.getD i 0≠0:=by
       have:hd∈st.2.filter λr=>r.getD i 0≠0:=by rw[hf];exact dj
       simpa using mY.mp this
      have nG:=IO.r hd L0.1;have FO:i<hd.length:=by rw[nG.1];exact hi
      refine⟨_,rfl,_,rfl,lh,_,0,.ref ha,rfl,rfl,.of g4,cm (j:=0) rfl,_,rfl,p,ha,hd,0+(i:Int),i,rfl,nc _,pp,Wo,FO,by rw[nG.1];exact hn,nG.2,L0.2,λt H6 FI ht=>?_⟩;have oz:aO H2 H6:=kg.trans FI;rw[nG.1]at ht;have xT:bh K H6 t ((dC p n hd i).map V.int):=ht;have FP:=xB (place:=i) (show 0<p by lia) nG;dsimp only;generalize dC p n hd i=L1 at xT FP ⊢;refine⟨_,rfl,dn,rfl,⟨_,.of (oz _ _ gd)⟩,LW p2 dh (.of (oz _ _ gd)) (hD.mono oz) IO.d (by lia) hn hi FP.1 xT (λx H1 R h=>⟨_,rfl,_,rfl,_,rfl,_,rfl,h⟩) λH8 rj qm h8 q8 Wq=>?_⟩;refine⟨_,rfl,(by show 1≤sizeLine;decide),λl9 h9=>⟨q8,l9,_,_,rfl,rfl,by rw[cF (eO aY h9)];exact aY,aY,?_,λq9 Wr=>?_⟩⟩
      ·show rj.length+1≤sizeLine;rw[gz h8,bI]
       have:(1000:Nat)<sizeLine:=by decide
       lia
      have qo:aO H8 (upd (upd (upd H8 q8 (.lst rj)) l9 (.lst [.ref t])) q9 (.lst (rj++[.ref t]))):=((aO.upd Wq).trans (.upd h9)).trans (.upd Wr);have g9:(upd (upd (upd H8 q8 (.lst rj)) l9 (.lst [.ref t])) q9 (.lst (rj++[.ref t]))) q9=some (.lst (rj++[.ref t])):=aY;generalize upd (upd (upd H8 q8 (.lst rj)) l9 (.lst [.ref t])) q9 (.lst (rj++[.ref t]))=H9 at qo g9 ⊢;have rk:aO H2 H9:=(oz.trans qm).trans qo;have L4:=(qm.trans qo).bu xT;refine⟨_,rfl,tQ,rfl,⟨_,.of (rk _ _ gr)⟩,LW p2 dh (.of (rk _ _ gr)) (hX.mono rk) IO.r (by lia) hn hi FP.1 L4 (λx H1 R h=>⟨_,rfl,_,rfl,_,rfl,_,rfl,h⟩) λHb L5 Ws hb qb L7=>?_⟩;have nH:=Ws.trans (aO.upd L7 (o:=.lst L5));refine⟨(sm.trans rk).trans nH,q9,qb,_,L5,_,_,_,rfl,nH _ _ g9,?_,aY,hb.mono (.upd L7)⟩;show bN K _ _ ((st.1.map (dS p L1 i)++[L1]).map cy);rw[cS];exact(h8.mono (qo.trans nH)).append (.cons (jn (nH.bu L4)) .nil)
   ·rintro σ H' ⟨sm,dn,tQ,DS,XS,s5,s6,s7,rfl,gd,hD,gr,hX⟩;refine⟨_,rfl,dn,_,rfl,.inl ⟨.of gd,λt ht=>k t _ DS (sm.trans (.upd ht)) (.of aY) ?_⟩⟩;unfold dt;rw[e1];exact hD.mono (.upd ht)
noncomputable def Bm:List (Str×V):=[("times",.int 1),("back",.int 1),("beside",.int 2),("then",.int 2)]
noncomputable def lL(x:Str):Nat:=if x="times"∨x="back" then 1 else if x="beside"∨x="then" then 2 else 0
theorem Wt(x:Str):(PyProof.Rows.KTD.datumAt x Bm).getD (.int 0)=.int (lL x):=by
 unfold Bm lL;simp only[PyProof.Rows.KTD.datumAt,aI];by_cases h1:x="times"
 ·simp[h1]
 ·by_cases h2:x="back"
  ·simp[h2]
  ·by_cases h3:x="beside"
   ·subst h3;rfl
   ·by_cases h4:x="then"
    ·subst h4;rfl
    ·simp[h1,h2,h3,h4]
theorem Jb(x:Str):lL x≤2:=by
 unfold lL;split
 ·lia
 ·split<;>lia
structure Parts(K:Frag)(mg:Str→Option Value)(aP:Addr):Prop where
 nm:mg "PARTS"=some (.ref aP)
 tab:∀h,K.In h→jU h aP Bm
theorem Wu:(["part","values"]:List Str).Nodup:=by decide +kernel
structure vD(k:Nat)(P:Program)(w:World)(K:Frag)(mg:Str→Option Value)(base:Heap)(s:Shared)(H:Hp)(Q:VK)(aw f:Addr)(ws:List V)(R:List V→Hp→VK→Prop)(G:Nat→List V→Hp→Prop):Prop where
 Bn:bh K H aw ws
 len:ws.length≤900000
 fn:oq P w K mg base k s H f R
 g0:G ws.length [] H
 mono:∀i vs H1 H2,G i vs H1→eS H1 H2→G i vs H2
 ph:∀i vs H1,G i vs H1→vs.length≤900000
 kind:∀i,i<ws.length→(∃x,ws[i]?=some (.str x))∨∃n,ws[i]?=some (.int n)
 num:∀i n vs H1,ws[i]?=some (.int n)→G (i+1) vs H1→G i (vs++[.int n]) H1
 word:∀i x vs H1,ws[i]?=some (.str x)→G (i+1) vs H1→∃dE ps,vs=dE++ps.reverse∧ps.length=lL x∧
  ∀pa H2 Q',eS H1 H2→H2 pa=some (.lst ps)→(∀v H3,aO H2 H3→G i (dE++[v]) H3→Q' v H3)→R [.int i,.str x,.ref pa] H2 Q'
 first:∃x,ws[0]?=some (.str x)
 fin:∀td aZ vs v H',aO H H'→H' td=some (.dK aZ)→gX aZ (Sum.inl 0)=some v→G 0 (vs++[v]) H'→Q (.ref td) H'
def L8(k:Nat)(P:Program)(w:World)(K:Frag)(mg:Str→Option Value)(base:Heap)(s:Shared):Sp:=λvs H Q _=>∃(aw f:Addr)(ws:List V)(R:List V→Hp→VK→Prop)(G:Nat→List V→Hp→Prop),vs=[.ref aw,.ref f]∧vD k P w K mg base s H Q aw f ws R G
noncomputable abbrev Wv:List Str:=["words","made","told","values","place","word","parts"]
theorem vE:c8 ["words","made","told","values","place","word","parts"] ["words","made"] (bG AU):=dz rfl rfl rfl (by decide +kernel) rfl
def Ww(K:Frag)(aw f td vl:Addr)(ws:List V)(G:Nat→List V→Hp→Prop)(H:Hp)(j:Nat)(σ:St)(H':Hp):Prop:=aO H H'∧∃(s4 s5 s6:Option V)(aZ:List (Key×V))(vs:List V),
 σ=[some (.ref aw),some (.ref f),some (.ref td),some (.ref vl),s4,s5,s6]∧H' td=some (.dK aZ)∧H' vl=some (.lst vs)∧aZ.length≤j∧G (ws.length-j) vs H'∧
 (∀x,ws[ws.length-j]?=some (.str x)→∃dE v,vs=dE++[v]∧gX aZ (Sum.inl ((ws.length-j:Nat):Int))=some v)
theorem FQ{k:Nat}{aP:Addr}(F:cD K "all_folded" "all_folded" AU f fd)(T:Txt mg)(PT:Parts K mg aP):rh P w K mg base (k+1) f fd ["words","made"] (L8 k P w K mg base):=by
 refine F.Ly vE (λs vs H Q E h=>?_) (λbZ A outer s H vs Q E hr h=>?_)
 ·obtain⟨aw,f,ws,R,G,rfl,_⟩:=h;rfl
 ·obtain⟨aw,fm,ws,R,G,rfl,D⟩:=h;have hu:=hr.units;have tR:=JX hr;refine⟨_,bo (cg (i:=2) vE.nd rfl (.inl rfl) Vf) (bo (cg (i:=3) vE.nd rfl (Or.inr rfl) (gK aU)) (bo (nk nQ rfl (VY rfl T.range (aN (bc jy (gv (kc K rfl) rfl T.len kd (aN (pv 0) aU)) aW) (aN (n6 n8 aW) (aN (n6 n8 aW) aU)))) (cG (i:=4) vE.nd rfl (.inl rfl)) (bo (cg (i:=5) vE.nd rfl (.inl rfl) (bH (cH K rfl) (pv 0) (pv 4) (λ_ _=>rfl))) (bV (dR (sN (gv (Ug (T := "int")) rfl T.isinstance tH (aN (pv 5) (aN (KL rfl T.int Ar) aU)))) (bV (lZ (jz jH nR nS md (pv 3) (aN (pv 5) aU)))) (bo (me (N:=["part","values"]) (own:=1) (caps:=[3]) (i:=6) rfl vE.nd rfl rfl (l5 rfl T.range (aN (VU PT.tab (kY (v:=.ref _) rfl PT.nm rfl) (pv 5) aW ⟨rfl,rfl,rfl,rfl⟩) aU)) (show dg Wv (bG AU) ["part","values"] 1 [3] _ from .mk' (by decide +kernel)) (λ_ _ _ _ _=>cG (i:=0) Wu rfl (.inl rfl)) (λ_ _ _ _ _=>fj) (λ_ _ _ _ _=>V3 K rfl (pv 1))) (bo (Vc tR (pv 2) (pv 4) (by exact V2 (i:=1) D.fn hr rfl rfl (.inl rfl) (aN (pv 4) (aN (pv 5) (aN (pv 6) aU)))) rfl) (bV (lZ (jz jH nR nS md (pv 3) (aN (Lm tR (pv 2) (pv 4) (λ_ _=>rfl)) aU)))))))))) (bV (cO (pv 2))))),?_⟩
  have hz:(1000000:Nat)≤sizeLine:=by decide
  have hl:=D.len;intro td L9;refine⟨(by show 0≤sizeLine;lia),λvl xX=>?_⟩;have xY:vl≠td:=λz=>by rw[z,aY]at xX;cases xX
  have FR:H vl=none:=by rw[cF xY]at xX;exact xX
  have s2:aO H (upd (upd H td (.dK [])) vl (.lst [])):=(aO.upd L9).trans (.upd xX);refine⟨_,rfl,aw,ws,rfl,.inr (s2.bu D.Bn),_,_,rfl,rfl,_,rfl,_,rfl,_,rfl,⟨by lia,by lia⟩,?_⟩;have en:((ws.length:Int)-1+1).toNat=ws.length:=by lia
  rw[en];refine VZ (Ww K aw fm td vl ws G H) ⟨s2,none,none,none,[],[],rfl,?_,aY,nO _,D.mono _ _ _ _ D.g0 s2.tup,λx hx=>?_⟩ ?_ ?_
  ·rw[cF (Ne.symm xY)];exact aY
  ·rw[Nat.sub_zero,jw (cC _)]at hx;cases hx
  ·rintro j σ H' hj ⟨sm,s4,s5,s6,aZ,vs,rfl,Bo,vF,hk,hG,_⟩;obtain⟨i,hi⟩:∃i,ws.length=i+1+j:=⟨ws.length-1-j,by lia⟩;have e1:(ws.length:Int)-1-(j:Nat)=((i:Nat):Int):=by lia
   have e2:ws.length-j=i+1:=by lia
   have e3:ws.length-(j+1)=i:=by lia
   rw[e1];rw[e2]at hG;have xn:=D.ph _ _ _ hG;rcases D.kind i (by lia)with⟨x,hx⟩|⟨n,hx⟩
   ·obtain⟨dE,ps,rfl,vG,Wx⟩:=D.word i x vs H' hx hG;refine⟨_,rfl,_,rfl,aw,_,((i:Nat):Int),_,rfl,rfl,sm.bu D.Bn,cm (j:=i) hx,?_⟩;refine⟨_,rfl,.str x,.type "str",false,rfl,.str x,Ux K,false,rfl,dY ?_⟩;have hpc:=Jb x;refine⟨rfl,_,rfl,x,rfl,((lL x:Nat):Int),by rw[Wt],by lia,by lia,?_⟩;refine V0 (cp:=[some (.ref vl)]) (n:=lL x) (lo:=0) (λk Hx zs=>zs=ps.take k∧Hx vl=some (.lst (dE++(ps.drop k).reverse))∧∀b,b≠vl→Hx b=H' b) (by lia) ⟨rfl,vF,λ_ _=>rfl⟩ (λk Hx zs h=>by rw[h.1];exact si _ _) ?_ ?_
    ·rintro k Hx zs iZ ⟨rfl,h1,h2⟩;have c7:k<ps.length:=by lia
     have ex:dE++(ps.drop k).reverse=(dE++(ps.drop (k+1)).reverse)++[ps[k]]:=by rw[List.drop_eq_getElem_cons c7,List.reverse_cons,dQ]
     rw[ex]at h1;refine⟨_,rfl,.inl ⟨rfl,_,.of h1⟩,vl,_,ps[k],rfl,rfl,h1,by simp,vx.mk ⟨?_,?_,λb hb=>?_⟩⟩
     ·rw[gH,cM c7];rfl
     ·rw[aY,List.dropLast_concat]
     ·rw[cF hb];exact h2 b hb
    ·rintro Hx zs ⟨rfl,h1,h2⟩ pa iu;rw[mZ (by lia)];rw[List.drop_eq_nil_of_le (by lia),List.reverse_nil,ij]at h1;have Bp:td≠vl:=Ne.symm xY;have keep:∀b o,b≠vl→H' b=some o→(upd Hx pa (.lst ps)) b=some o:=λb o nb e=>by
      have h3:Hx b=some o:=by rw[h2 b nb];exact e
      rw[cF (eO h3 iu)];exact h3
     have Bq:aO H (upd Hx pa (.lst ps)):=λb o e=>keep b o (eO e FR) (sm b o e);have tp:eS H' (upd Hx pa (.lst ps)):=λb o e k=>keep b o (λz=>by
      subst z;rw[vF]at e;cases e;rcases k with⟨_,z⟩|⟨_,_,z⟩<;>cases z) e
     have g1:(upd Hx pa (.lst ps)) pa=some (.lst ps):=aY;have g2:(upd Hx pa (.lst ps)) vl=some (.lst dE):=by rw[cF (eO h1 iu)];exact h1
     have g3:(upd Hx pa (.lst ps)) td=some (.dK aZ):=keep _ _ Bp Bo;generalize upd Hx pa (.lst ps)=H2 at Bq tp g1 g2 g3;refine⟨rfl,Bq,_,rfl,_,rfl,_,rfl,Bq,Wx pa H2 _ tp g1 λv H3 s3 Wy=>?_⟩;have tN:dE.length≤900000:=by rw[cq]at xn;lia
     refine⟨_,rfl,_,rfl,td,_,rfl,xD.k (k:=Sum.inl ((i:Nat):Int)) (s3 _ _ g3) (by lia),?_⟩;have FU:(upd H3 td (.dK (jB aZ (Sum.inl ((i:Nat):Int)) v))) vl=some (.lst dE):=by rw[cF xY];exact s3 _ _ g2
     have Ma:(upd H3 td (.dK (jB aZ (Sum.inl ((i:Nat):Int)) v))) td=some (.dK (jB aZ (Sum.inl ((i:Nat):Int)) v)):=aY;have Mb:gX (jB aZ (Sum.inl ((i:Nat):Int)) v) (Sum.inl ((i:Nat):Int))=some v:=by rw[U1,ae rfl]
     refine⟨_,rfl,.inl ⟨rfl,_,.of FU⟩,_,rfl,_,rfl,td,v,rfl,Mb▸tL.k (k:=Sum.inl ((i:Nat):Int)) Ma,vl,dE,_,rfl,rfl,FU,by lia,?_⟩;refine⟨((Bq.trans s3).put L9).put FR,_,_,_,_,_,rfl,by rw[cF Bp];exact Ma,aY,?_,?_,λx' _=>⟨dE,v,rfl,by rw[e3];exact Mb⟩⟩
     ·have:=E2 aZ (Sum.inl ((i:Nat):Int)) v
      lia
     ·rw[e3];exact D.mono _ _ _ _ Wy ((eS.V1 (s3 _ _ g3)).trans (eS.lst FU))
   ·refine⟨_,rfl,_,rfl,aw,_,((i:Nat):Int),_,rfl,rfl,sm.bu D.Bn,cm (j:=i) hx,?_⟩;refine⟨_,rfl,.int n,.type "int",true,rfl,.int n,Uw K,true,rfl,gU ?_⟩;refine⟨_,rfl,.inl ⟨rfl,_,.of vF⟩,_,rfl,vl,vs,_,rfl,rfl,vF,by lia,?_⟩;have Bp:td≠vl:=Ne.symm xY;refine⟨sm.put FR,_,_,_,aZ,_,rfl,by rw[cF Bp];exact Bo,aY,Nat.le_succ_of_le hk,?_,λx' iQ=>?_⟩
    ·rw[e3];exact D.mono _ _ _ _ (D.num i n vs H' hx hG) (eS.lst vF)
    ·rw[e3,hx]at iQ;cases iQ
  ·rintro σ H' ⟨sm,s4,s5,s6,aZ,vs,rfl,Bo,vF,hk,hG,hf⟩;obtain⟨x,hx⟩:=D.first;rw[Nat.sub_self]at hG hf;obtain⟨dE,v,rfl,hv⟩:=hf x hx;exact⟨_,rfl,D.fin td aZ dE v H' sm Bo hv hG⟩
end S21
namespace L2
open PySem PySem.Spec PyProof.Rows
theorem Mc:∀{l:List (Str×Value)}{y:Str}{u:Value},(l.map (·.1)).Nodup→(y,u)∈l→l.lookup y=some u
 | [],_,_,_,h=>(by cases h)
 |(k,v)::r,y,u,nd,h=>by
  have Md:=List.nodup_cons.mp nd;rcases(eJ.mp h)with(e|h)
  ·cases e;simp[List.lookup]
  ·have ne:y≠k:=λz=>Md.1 (eA.mpr ⟨(y,u),h,z⟩);have e0:(y==k)=false:=beq_eq_false_iff_ne.mpr ne;rw[r6,e0];exact Mc Md.2 h
theorem Wz{xs:List Str}{us:List Value}{i:Nat}{y:Str}{u:Value}(nd:xs.Nodup)(hl:us.length=xs.length)(h1:xs[i]?=some y)(h2:us[i]?=some u):(xs.zip us).reverse.lookup y=some u:=by
 have em:(xs.zip us).map (·.1)=xs:=by rw[List.map_fst_zip (by lia)]
 refine Mc ?_ (List.mem_reverse.mpr ?_)
 ·rw[List.map_reverse,em];exact List.pairwise_reverse.mpr (nd.imp λh=>Ne.symm h)
 ·exact gT (i:=i) (by rw[List.getElem?_zip_eq_some];exact⟨h1,h2⟩)
structure Me(xs names:List Str)(scope:Scope)(params:Arguments)(cl:List (Str×Addr)):Prop where
 kind:scope.kind=.function
 co:scope.isCoroutine=false
 gen:scope.isGenerator=false
 nd:xs.Nodup
 cell:∀y∈scope.names,y.2≠.cell
 loc:∀x∈xs,scope.names.lookup x=some .local
 fr:∀y∈names,scope.names.lookup y=some .free
 has:∀y,scope.names.lookup y=some .free→∃c,cl.lookup y=some c
 inj:∀y z c,cl.lookup y=some c→cl.lookup z=some c→y=z
 only:∀y c,cl.lookup y=some c→y∈names
section
variable{P:Program}{w:World}{K:Frag}{mg:Str→Option Value}{base:Heap}
theorem WA{xs names:List Str}{caps:List V}{qual:Str}{params:Arguments}{body:Expr}{scope:Scope}{cl:List (Str×Addr)}{k:Nat}{s:Shared}{H:Hp}{f:Addr}{R:List V→Hp→VK→Prop}(S:Me xs names scope params cl)
  (F:Ln H f qual params body scope cl) (Fd:∀(pm bZ ct:Value)(us:List Value),us.length=xs.length→bindArgs (PySem.W.kla_fn "<lambda>" qual params body scope cl pm bZ ct) ⟨us,[]⟩=pure (xs.zip us))
  (WB:∀(j:Nat)(y:Str),names[j]?=some y→∃c v u,cl.lookup y=some c∧caps[j]?=some v∧RelV v u∧s.heap.IsCell c (some u)∧H c=none) (cJ:caps.length=names.length) (len:∀vs H' Q,R vs H' Q→vs.length=xs.length)
  (oa:∀(c:Addr)(A:Around)(outer:List Env)(s':Shared)(H':Hp)(vs:List V)(Q:VK),dv k (A.deeper (PySem.W.envX qual scope s'.heap.objs.size f (.ref c) cl))→aO H H'→R vs H' Q→
   ∃t,PE (Fc P w K mg base (xs++names) qual scope f c cl A outer s' H').kZ body t∧t (vs.map some++caps.map some) H' Q):oq P w K mg base (k+1) s H f R:=by
 obtain⟨c,hf,hc⟩:=F;refine⟨.inl ⟨_,hf,λh ⟨pm,gy,e⟩=>⟨_,_,_,_,e⟩⟩,λA outer s' H' vs us Q hr e0 sm hk rv hQ=>?_⟩;obtain⟨⟨pm,gy,ho⟩,_⟩:=e0.bQ f _ (sm _ _ hf);have WC:s'.heap.CodeRec (.ref c) qual:=(e0.bQ c _ (sm _ _ hc)).1;have sX:s'.heap.NoLimit:=e0.mod.nolimit.keeps λb o e=>(e0.bs b o e).1;have hl:=len _ _ _ hQ;have Mf:us.length=xs.length:=by rw[← rv.length];exact hl
 refine PySem.W.kla_callFunE hr.depth ho rfl S.co S.gen rfl WC ?_;rw[Fd _ _ _ us Mf];refine ay (wpAny_newFunctionEnv S.cell (λz hz=>S.loc _ (wK hz).1) (λh₁ AH Mh=>⟨sX.fresh _ Mh,?_⟩) S.kind);show codeAny _ _ (.expr body (PySem.W.envX qual scope s'.heap.objs.size f (.ref c) cl)) _ _;have up:∀b o,s'.heap.get? b=some o→h₁.get? b=some o:=λb o e=>Mh.extBut b o (ib (dO e)) (eh _ e);obtain⟨t,ht,hq⟩:=oa c A outer s' H' vs Q (hr.deeper _) sm hQ;have cells:∀(j:Nat)(y:Str),names[j]?=some y→∃c v u,cl.lookup y=some c∧caps[j]?=some v∧RelV v u∧h₁.IsCell c (some u)∧H' c=none:=λj y hj=>by
  obtain⟨c0,v,u,h1,h2,h3,⟨o,ho,hd⟩,h5⟩:=WB j y hj;obtain⟨h6,sl,h7⟩:=hk c0 o ho h5;exact⟨c0,v,u,h1,h2,h3,⟨_,up _ _ h7,hd⟩,h6⟩
 have Mi:∀y c,cl.lookup y=some c→∃v,h₁.IsCell c (some v)∧H' c=none:=λy c0 h=>by
  obtain⟨j,hj⟩:=List.getElem?_of_mem (S.only y c0 h);obtain⟨c1,v,u,h1,_,_,h4,h5⟩:=cells j y hj;rw[h]at h1;cases h1;exact⟨u,h4,h5⟩
 have I:Inv (Fc P w K mg base (xs++names) qual scope f c cl A outer s' H') [] (vs.map some++caps.map some) H' { s' with heap:=h₁,toks:=s'.toks+(xs.zip us).length }:=by
  have sW:∀b:Addr,b ∉ (Fc P w K mg base (xs++names) qual scope f c cl A outer s' H').ex:=λb z=>absurd (show b∈([]:List Addr) from z) (by simp)
  refine⟨⟨e0.mod,S.kind,rfl,rfl,cC _,λy z c h1 h2=>S.inj y z c h1 h2,λy hy=>?_,λy c h=>(nomatch h),λ_=>hr.hd,Around.frames_deeper e0.frames,.inr ⟨rfl,rfl⟩,λb z=>absurd z (sW b),e0.bs,e0.pW,λb _ _=>sW b,λb z=>absurd z (sW b),e0.lY,e0.qO⟩,
   rfl,e0.bare,Un.kept up,⟨_,AH,λi y v h1 h2 h3=>?_⟩,λy c h=>?_,e0.bQ.fresh (cC _),λy c h=>?_,λp hp=>absurd (show p∈([]:List (Addr×Obj)) from hp) (by simp),e0.bQ.kept up,by show(vs.map some++caps.map some).length=(xs++names).length;simp[cJ,hl]⟩
  ·rcases hy with hy|hy
   ·exact absurd rfl (S.cell _ (oU hy))
   ·exact S.has y hy
  ·have h1:(xs++names)[i]?=some y:=h1;by_cases hi:i<xs.length
   ·rw[ip hi]at h1;rw[ip (by simp only[bI];lia),eU]at h2;cases ev:vs[i]? with
    |none=>rw[ev]at h2;cases h2
    |some v'=>
     rw[ev]at h2;cases h2;obtain⟨u,hu,ru⟩:=rv.get ev;exact⟨u,ru,.inl ⟨S.loc y (gT h1),Wz S.nd Mf h1 hu⟩⟩
   ·rw[iK (by lia)]at h1;rw[iK (by simp only[bI];lia),bI,hl,eU]at h2;obtain⟨c1,v',u,g1,g2,g3,g4,_⟩:=cells _ y h1;rw[g2]at h2;cases h2;exact⟨u,g3,.inr ⟨.inr (S.fr y (gT h1)),c1,g1,g4⟩⟩
  ·obtain⟨v,h4,_⟩:=Mi y c h;exact⟨_,h4⟩
  ·obtain⟨v,_,h5⟩:=Mi y c h;exact h5
 refine PySem.W.kla_codeExpr (ai (ht.kZ [] _ _ H' Q I hq) (λu l8 hs=>?_) λe l8 z=>ai z (λ_ _ z=>False.elim z) λ_ _ z=>False.elim z);obtain⟨v,mw,J,rv,q⟩:=hs;exact⟨v,mw,J.os,J.bare,J.base,J.bQ,rv,q⟩
end
end L2
namespace S21
open PySem L2 Bw
variable{aB aS f:Addr}{fd:FuncData}
noncomputable def xZ:List Value→List Int→Bool
 | [],[]=>true
 | .int i _::vs,n::ns=>i==n&&xZ vs ns
 |_,_=>false
theorem FV:∀(vs:List Value)(ns:List Int),xZ vs ns=true→Vals (ns.map V.int) vs
 | [],[],_=>.nil
 | .int i t::vs,n::ns,h=>by
  have h':(i==n&&xZ vs ns)=true:=h;rw[fo]at h';have e:i=n:=beq_iff_eq.mp h'.1;exact .cons ⟨t,by rw[e]⟩ (FV vs ns h'.2)
 | [],_::_,h=>nomatch h
 | .none::_,[],h=>nomatch h
 |v::vs,[],h=>by cases v<;>exact nomatch h
 |v::vs,n::ns,h=>by
  cases v with
  |int i t=>
   have h':(i==n&&xZ vs ns)=true:=h;rw[fo]at h';have e:i=n:=beq_iff_eq.mp h'.1;exact .cons ⟨t,by rw[e]⟩ (FV vs ns h'.2)
  |_=>exact nomatch h
noncomputable def tS(K:Frag)(t:Addr)(ns:List Int):Bool:=match K.lookup t with
 |some ⟨.type "tuple",_,.seq its _,_⟩=>decide (its.size≤1000)&&xZ its.toList ns
 |_=>false
theorem Br{K:Frag}{t:Addr}{ns:List Int}(h:tS K t ns=true)(H:Hp):bh K H t (ns.map V.int):=by
 unfold tS at h;split at h
 case h_2=>exact nomatch h
 case h_1 d its n sl ho=>
  rw[fo]at h;exact .inr ⟨_,its,n,ho,rfl,rfl,gp (aJ h.1) (by decide),FV _ _ h.2⟩
noncomputable def Bs(K:Frag):List Value→LL→Bool
 | [],[]=>true
 | .ref t::vs,r::rs=>tS K t r&&Bs K vs rs
 |_,_=>false
theorem Mj{K:Frag}(H:Hp):∀(vs:List Value)(rs:LL),Bs K vs rs=true→∃RS,Vals RS vs∧bN K H RS (rs.map cy)
 | [],[],_=>⟨[],.nil,.nil⟩
 | [],_::_,h=>nomatch h
 |v::vs,[],h=>by cases v<;>exact nomatch h
 |v::vs,r::rs,h=>by
  cases v with
  |ref t=>
   have h':(tS K t r&&Bs K vs rs)=true:=h;rw[fo]at h';obtain⟨RS,h1,h2⟩:=Mj H vs rs h'.2;exact⟨.ref t::RS,.cons rfl h1,.cons (jn (Br h'.1 H)) h2⟩
  |_=>exact nomatch h
noncomputable def FW(K:Frag)(t:Addr)(rs:LL):Bool:=match K.lookup t with
 |some ⟨.type "tuple",_,.seq its _,_⟩=>decide (its.size≤1000)&&Bs K its.toList rs
 |_=>false
theorem WD{K:Frag}{t:Addr}{rs:LL}(h:FW K t rs=true)(H:Hp):∃RS,bh K H t RS∧bN K H RS (rs.map cy):=by
 unfold FW at h;split at h
 case h_2=>exact nomatch h
 case h_1 d its n sl ho=>
  rw[fo]at h;obtain⟨RS,h1,h2⟩:=Mj H _ _ h.2;exact⟨RS,.inr ⟨_,its,n,ho,rfl,rfl,gp (aJ h.1) (by decide),h1⟩,h2⟩
noncomputable def gB:List (Str×Nat×Nat×LL):=[("id",1,1,[[1,1]]),("swap",2,2,[[1,0,0,1],[0,1,1,0]]),("copy",1,2,[[1,1,1]]),("end",1,0,[[1]]),("add",2,1,[[1,0,1],[0,1,1]]),("none",0,1,[]),("cup",0,2,[[1,1]]),("empty",0,0,[])]
noncomputable def x4(K:Frag)(aS aB:Addr):Bool:=AK K aS&&AK K aB&&gB.all λe=>
 (match PyProof.Rows.KTD.datumAt e.1 (fV K aS)with|some (.ref t)=>tS K t [(e.2.1:Int),(e.2.2.1:Int)] | _=>false) &&
 (match PyProof.Rows.KTD.datumAt e.1 (fV K aB)with|some (.ref t)=>FW K t e.2.2.2|_=>false)
structure mx(K:Frag)(mg:Str→Option Value)(aS aB:Addr):Prop where
 x5:mg "SIDES"=some (.ref aS)
 WE:mg "BOX_ROWS"=some (.ref aB)
 ok:x4 K aS aB=true
theorem mx.tabS{K:Frag}{mg:Str→Option Value}(B:mx K mg aS aB):∀h,K.In h→jU h aS (fV K aS):=λh X=>by
 have z:=B.ok;unfold x4 at z;rw[fo,fo]at z;exact Ff X z.1.1
theorem mx.WG{K:Frag}{mg:Str→Option Value}(B:mx K mg aS aB):∀h,K.In h→jU h aB (fV K aB):=λh X=>by
 have z:=B.ok;unfold x4 at z;rw[fo,fo]at z;exact Ff X z.1.2
theorem mx.at_{K:Frag}{mg:Str→Option Value}(B:mx K mg aS aB){x:Str}{l r:Nat}{aV:LL}(h:(x,l,r,aV)∈gB) :
  (∃t,PyProof.Rows.KTD.datumAt x (fV K aS)=some (.ref t)∧∀H,bh K H t [.int (l:Int),.int (r:Int)])∧∃t,PyProof.Rows.KTD.datumAt x (fV K aB)=some (.ref t)∧∀H,∃RS,bh K H t RS∧bN K H RS (aV.map cy):=by
 have z:=B.ok;unfold x4 at z;rw[fo]at z;have z2:=se.mp z.2 _ h;rw[fo]at z2;obtain⟨z3,z4⟩:=z2;constructor
 ·split at z3
  ·rename_i t e
   exact⟨t,e,λH=>Br z3 H⟩
  ·exact nomatch z3
 ·split at z4
  ·rename_i t e
   exact⟨t,e,λH=>WD z4 H⟩
  ·exact nomatch z4
def FX(K:Frag):Sp:=λvs H Q _=>∃(i:Int)(x:Str)(pa:Addr)(l r:Nat)(aV:LL),vs=[.int i,.str x,.ref pa]∧(x,l,r,aV)∈gB∧gM K H [.int (l:Int),.int (r:Int),.cE] Q
theorem Bt:c8 ["place","word","parts","unmet"] ["place","word","parts"] (bG vz):=dz rfl rfl rfl (by decide +kernel) rfl
theorem WH(F:cD K "measure" "measure" vz f fd)(B:mx K mg aS aB):bz P w K mg base bx 1 f fd ["place","word","parts"] (FX K):=by
 refine F.ok Bt (λvs H Q E h=>?_) (λbZ A outer s H vs Q E hr h=>?_)
 ·obtain⟨i,x,pa,l,r,aV,rfl,_⟩:=h;rfl
 ·obtain⟨i,x,pa,l,r,aV,rfl,hx,q⟩:=h;obtain⟨⟨t,e,ht⟩,_⟩:=B.at_ hx;refine⟨_,bo (dR (DI (Fi B.tabS (pv 1) (kY (v:=.ref _) rfl B.x5 rfl)) rfl) (bV (cO (bc (eE K rfl) (Fh B.tabS (kY (v:=.ref _) rfl B.x5 rfl) (pv 1) (λ_ _=>rfl)) (cI (aN sH aU))))) e8) Ru,?_⟩;refine⟨_,rfl,x,rfl,rfl,_,rfl,?_⟩;rw[e];refine gU ⟨_,rfl,x,_,rfl,rfl,e,(by show 1≤sizeLine;decide),λt1 g1=>?_⟩;exact⟨t,t1,_,_,rfl,rfl,ht _,.of aY,(by show 2+1≤sizeLine;decide),λa' H' s' h'=>q a' H' ((aO.upd g1).trans s') h'⟩
theorem oq.on{X:Cx}{aK:List (Addr×Obj)}{σ:St}{H1:Hp}{s1:Shared}{k:Nat}{R:List V→Hp→VK→Prop}(I:Inv X aK σ H1 s1)(hex:X.ex=[])(sm:aO X.H₀ H1)(L:oq P w K mg base k X.s₀ X.H₀ f R):oq P w K mg base k s1 H1 f R:=by
 refine⟨?_,λA outer s' H' vs us Q hr e0 i6 hk rv hQ=>L.run A outer s' H' vs us Q hr e0 (sm.trans i6) (λc o hc hn=>?_) rv hQ⟩
 ·rcases L.here with⟨φ,h1,h2⟩|h
  ·exact .inl ⟨φ,sm _ _ h1,h2⟩
  ·exact .inr h
 ·have xH:c ∉ X.ex:=by rw[hex];simp
  obtain⟨sl,h3⟩:=I.base.any hc hn xH;obtain⟨h4,DA,h5⟩:=hk c _ h3 (I.base.free c o hc hn xH);exact⟨h4,DA,h5⟩
theorem vD.on{k:Nat}{X:Cx}{aK:List (Addr×Obj)}{σ:St}{H1:Hp}{s1:Shared}{Q Q1:VK}{aw f:Addr}{ws:List V}{R:List V→Hp→VK→Prop}{G:Nat→List V→Hp→Prop}(I:Inv X aK σ H1 s1)(hex:X.ex=[])(sm:aO X.H₀ H1)
  (D:vD k P w K mg base X.s₀ X.H₀ Q aw f ws R G) (q:∀u H',aO H1 H'→Q u H'→Q1 u H'):vD k P w K mg base s1 H1 Q1 aw f ws R G:=
 ⟨sm.bu D.Bn,D.len,oq.on I hex sm D.fn,D.mono _ _ _ _ D.g0 sm.tup,D.mono,D.ph,D.kind,D.num,D.word,D.first,λtd aZ vs v H' s' h1 h2 h3=>q _ _ s' (D.fin td aZ vs v H' (sm.trans s') h1 h2 h3)⟩
def WI(Q:VK):VK:=λu H'=>∃td aZ v,u=.ref td∧H' td=some (.dK aZ)∧gX aZ (Sum.inl 0)=some v∧Q v H'
def Bu(k:Nat)(P:Program)(w:World)(K:Frag)(mg:Str→Option Value)(base:Heap)(s:Shared):Sp:=λvs H Q _=>∃(aw f:Addr)(ws:List V)(R:List V→Hp→VK→Prop)(G:Nat→List V→Hp→Prop),vs=[.ref aw,.ref f]∧vD k P w K mg base s H (WI Q) aw f ws R G
theorem WJ:c8 ["words","made"] ["words","made"] (bG Fj):=dz rfl rfl rfl (by decide +kernel) rfl
theorem FY{k:Nat}{fA:Addr}{mq:FuncData}(F:cD K "folded" "folded" Fj f fd)
  (GA:rh P w K mg base (k+1) fA mq ["words","made"] (L8 k P w K mg base)) (kA:Kp K fA) (bA:Binds K mq ["words","made"] []) (mA:Mg mg "all_folded" fA):rh P w K mg base (k+2) f fd ["words","made"] (Bu k P w K mg base):=by
 refine F.Ly WJ (λs vs H Q E h=>?_) (λbZ A outer s H vs Q E hr h=>?_)
 ·obtain⟨aw,f,ws,R,G,rfl,_⟩:=h;rfl
 ·obtain⟨aw,fm,ws,R,G,rfl,D⟩:=h;refine⟨_,bV (cO (Lm (JX hr) (AG GA hr rfl mA kA bA (aN (pv 0) (aN (pv 1) aU))) aW (λ_ _=>rfl))),?_⟩;refine⟨_,rfl,_,rfl,λaK s1 I=>⟨aw,fm,ws,R,G,rfl,vD.on I rfl (.refl _) D λu H' _ ⟨td,aZ,v,e,h1,h2,h3⟩=>?_⟩⟩;exact⟨td,v,e,h2▸tL.k (k:=Sum.inl 0) h1,h3⟩
def Mk(K:Frag):Sp:=λvs H Q _=>∃(aw:Addr)(x:Str)(l r:Nat)(aV:LL),vs=[.ref aw]∧bh K H aw [.str x]∧(x,l,r,aV)∈gB∧∀v H',aO H H'→bh K H' v [.int (l:Int),.int (r:Int),.cE]→Q (.ref v) H'
theorem Ml:∀e∈gB,lL e.1=0:=by decide +kernel
theorem Mm:c8 ["words"] ["words"] (bG AV):=dz rfl rfl rfl (by decide +kernel) rfl
theorem WK{fF fM:Addr}{rm iS:FuncData}(F:cD K "measured" "measured" AV f fd)
  (GF:rh P w K mg base 3 fF rm ["words","made"] (Bu 1 P w K mg base)) (kF:Kp K fF) (bF:Binds K rm ["words","made"] []) (mF:Mg mg "folded" fF)
  (GM:bz P w K mg base bx 1 fM iS ["place","word","parts"] (FX K)) (FM:cD K "measure" "measure" vz fM iS) (bM:Binds K iS ["place","word","parts"] []) (mM:Mg mg "measure" fM):bz P w K mg base bx 4 f fd ["words"] (Mk K):=by
 refine F.ok Mm (λvs H Q E h=>?_) (λbZ A outer s H vs Q E hr h=>?_)
 ·obtain⟨aw,x,l,r,aV,rfl,_⟩:=h;rfl
 ·obtain⟨aw,x,l,r,aV,rfl,hw,hx,q⟩:=h;refine⟨_,bV (cO (AG GF hr rfl mF kF bF (aN (pv 0) (aN (kY (v:=.ref _) rfl mM rfl) aU)))),?_⟩;refine⟨_,rfl,λaK s1 I=>⟨aw,fM,[.str x],λvs H' Q=>FX K vs H' Q E0,λi vs H'=>(i=1∧vs=[])∨(i=0∧∃v,vs=[.ref v]∧bh K H' v [.int (l:Int),.int (r:Int),.cE]),rfl,?_⟩⟩;refine⟨hw,by simp,oq.LF GM FM bM,.inl ⟨rfl,rfl⟩,λi vs H1 H2 h tp=>?_,λi vs H1 h=>?_,λi hi=>?_,λi n vs H1 h=>?_,λi y vs H1 h g=>?_,⟨x,rfl⟩,λtd aZ vs v H' s' h1 h2 h3=>?_⟩
  ·rcases h with h|⟨h1,v,h2,h3⟩
   ·exact .inl h
   ·exact .inr ⟨h1,v,h2,tp.bu h3⟩
  ·rcases h with⟨_,h⟩|⟨_,v,h,_⟩<;>(rw[h];simp)
  ·have:i=0:=by simpa using hi
   subst this;exact .inl ⟨x,rfl⟩
  ·match i,h with
   |0,h=>cases h
   |_+1,h=>cases h
  ·match i,h with
   |0,h=>
    cases h;rcases g with⟨_,g⟩|⟨g,_⟩
    ·refine⟨[],[],by rw[g];rfl,(Ml _ hx).symm,λpa H2 Q' tp hp hq=>⟨_,x,pa,l,r,aV,rfl,hx,λv H3 s3 hv=>hq (.ref v) H3 s3 (.inr ⟨rfl,v,rfl,hv⟩)⟩⟩
    ·exact absurd g (by decide)
   |_+1,h=>cases h
  ·rcases h3 with⟨z,_⟩|⟨_,v',z,hv⟩
   ·exact absurd z (by decide)
   ·have e:vs=[]∧v=.ref v':=by
     cases vs with
     |nil=>exact⟨rfl,by simpa using z⟩
     |cons a vs=>simp at z
    obtain⟨rfl,rfl⟩:=e;exact⟨td,aZ,_,rfl,h1,h2,q v' H' s' hv⟩
def FZ(K:Frag):Sp:=λvs H Q _=>∃(aw:Addr)(x:Str)(l r:Nat)(aV:LL),vs=[.ref aw]∧bh K H aw [.str x]∧(x,l,r,aV)∈gB∧∀v H',aO H H'→bh K H' v [.int (l:Int),.int (r:Int)]→Q (.ref v) H'
theorem Mn:c8 ["words"] ["words"] (bG AS):=dz rfl rfl rfl (by decide +kernel) rfl
theorem WL{fM:Addr}{iS:FuncData}(F:cD K "wires" "wires" AS f fd)
  (GM:bz P w K mg base bx 4 fM iS ["words"] (Mk K)) (kM:Kp K fM) (bM:Binds K iS ["words"] []) (mM:Mg mg "measured" fM):bz P w K mg base bx 5 f fd ["words"] (FZ K):=by
 refine F.ok Mn (λvs H Q E h=>?_) (λbZ A outer s H vs Q E hr h=>?_)
 ·obtain⟨aw,x,l,r,aV,rfl,_⟩:=h;rfl
 ·obtain⟨aw,x,l,r,aV,rfl,hw,hx,q⟩:=h;refine⟨_,bV (cO (eQ (ft K rfl) (cQ GM hr rfl mM kM bM .nil cR (aN (pv 0) aU)) fK (dJ aW))),?_⟩;refine⟨_,rfl,aw,x,l,r,aV,rfl,hw,hx,λv H1 s1 hv=>?_⟩;exact⟨_,rfl,v,_,rfl,hv,λt H2 s2 ht=>q t H2 (s1.trans s2) ht⟩
def dF(K:Frag)(H:Hp)(a:Addr)(l r:Nat)(aV:LL):Prop:=∃(t:Addr)(RS:List V),bh K H a [.int (l:Int),.int (r:Int),.ref t]∧bh K H t RS∧bN K H RS (aV.map cy)
theorem bN.Mo{K:Frag}{H H':Hp}(s:eS H H'):∀{RS:List V}{aV:LL},bN K H RS (aV.map cy)→bN K H' RS (aV.map cy)
 | [],[],_=>.nil
 |_::_,[],h=>nomatch h
 | [],_::_,h=>nomatch h
 |v::RS,r::aV,.cons h q=>by
  refine .cons ?_ (bN.Mo s q);have h:fQ K H v (.tuple (r.map .int)):=h;cases h with
  |tuple h1 h2=>
   have e:=bN.EI h2;subst e;exact jn (s.bu h1)
theorem dF.tup{K:Frag}{H H':Hp}{a:Addr}{l r:Nat}{aV:LL}(h:dF K H a l r aV)(s:eS H H'):dF K H' a l r aV:=by
 obtain⟨t,RS,h1,h2,h3⟩:=h;exact⟨t,RS,s.bu h1,s.bu h2,bN.Mo s h3⟩
noncomputable def jt(l r:Nat)(row:List Int):List Int:=(row.drop l).take r++(row.take l++row.drop (l+r))
theorem oA{r:List Int}{k:Nat}(h:k≤r.length):iY (r.map V.int) none (some (k:Int))=(r.take k).map V.int:=by
 unfold iY;rw[HT.uV,HT.zR,List.drop_zero,Nat.sub_zero,bI,wO h,List.map_take]
theorem oB{r:List Int}{k:Nat}(h:k≤r.length):iY (r.map V.int) (some (k:Int)) none=(r.drop k).map V.int:=by
 unfold iY;rw[HT.uV,HT.zR,bI,wO h,mZ (by simp),List.map_drop]
theorem x6{r:List Int}{j k:Nat}(h:j+k≤r.length):iY (r.map V.int) (some (j:Int)) (some ((j+k:Nat):Int))=((r.drop j).take k).map V.int:=by
 unfold iY;rw[HT.uV,HT.uV,bI,wO h,wO (by lia),List.map_take,List.map_drop,Nat.add_sub_cancel_left]
theorem WM{l r x:Nat}{row:List Int}(h:row.length=l+r+x):(jt l r row).length=r+l+x:=by
 unfold jt;simp only[cq,da,ff];lia
theorem F0{p:Int}{l r x:Nat}{row:List Int}(h:Rw p (l+r+x) row):Rw p (r+l+x) (jt l r row):=by
 refine⟨WM h.1,λx hx=>h.2 x ?_⟩;unfold jt at hx;rcases(eT.mp hx)with z|z
 ·exact ng (kI z)
 ·rcases(eT.mp z)with z|z
  ·exact kI z
  ·exact ng z
theorem WN:(["row","behind","left"]:List Str).Nodup:=by decide +kernel
def Ga(K:Frag):Sp:=λvs H Q _=>∃(p:Int)(a:Addr)(l r x:Nat)(aV:LL),vs=[.int p,.ref a]∧p∈cW∧dF K H a l r aV∧l≤100∧r≤100∧x≤200∧aV.length≤500∧cz p (l+r+x) aV∧∀v H',aO H H'→dF K H' v r l (dt p (aV.map (jt l r)))→Q (.ref v) H'
noncomputable abbrev WO:List Str:=["p","one","left","behind"]
theorem Gb:c8 ["p","one","left","behind"] ["p","one"] (bG AX):=dz rfl rfl rfl (by decide +kernel) rfl
theorem WQ{fD:Addr}{gO:FuncData}(F:cD K "form_of_back" "form_of_back" AX f fd)
  (GD:bz P w K mg base bx 3 fD gO ["p","rows"] (qj K)) (kD:Kp K fD) (bD:Binds K gO ["p","rows"] []) (mD:Mg mg "reduced" fD):bz P w K mg base bx 4 f fd ["p","one"] (Ga K):=by
 refine F.ok Gb (λvs H Q E h=>?_) (λbZ A outer s H vs Q E hr h=>?_)
 ·obtain⟨p,a,l,r,x,aV,rfl,_⟩:=h;rfl
 ·obtain⟨p,a,l,r,x,aV,rfl,pp,⟨t,RS,h1,h2,h3⟩,hl,lK,abR,hz,hR,q⟩:=h;have nI:(1000:Nat)≤sizeLine:=by decide
  refine⟨_,bo (cg (i:=2) Gb.nd rfl (Or.inr rfl) (bH (cH K rfl) (pv 1) aW (λ_ _=>rfl))) (bo (cg (i:=3) Gb.nd rfl (Or.inr rfl) (bc eK (pv 2) (bH (cH K rfl) (pv 1) aW (λ_ _=>rfl)))) (bV (cO (cI (aN (bH (cH K rfl) (pv 1) aW (λ_ _=>rfl)) (aN (pv 2) (aN (cQ GD hr rfl mD kD bD .nil cR (aN (pv 0) (aN (gW (N:=["row","behind","left"]) (own:=1) (caps:=[3,2]) rfl (lE K rfl (bH (cH K rfl) (pv 1) aW (λ_ _=>rfl))) (show dg WO (bG AX) ["row","behind","left"] 1 [3,2] _ from .mk' (by decide +kernel)) (λ_ _ _ _ _=>cG (i:=0) WN rfl (.inl rfl)) (λ_ _ _ _ _=>fj) (λ_ _ _ _ _=>bc (eE K rfl) (bc (eE K rfl) (eQ (ft K rfl) (pv 0) (dJ (pv 2)) (dJ (pv 1))) (eQ (ft K rfl) (pv 0) fK (dJ (pv 2)))) (eQ (ft K rfl) (pv 0) (dJ (pv 1)) fK))) aU))) aU))))))),?_⟩
  have Bi:=gz h3;refine⟨_,rfl,a,_,0,_,rfl,rfl,h1,cm (j:=0) rfl,?_⟩;refine⟨_,rfl,_,rfl,a,_,1,_,rfl,rfl,h1,cm (j:=1) rfl,_,_,rfl,rfl,?_⟩;refine⟨_,rfl,a,_,1,_,rfl,rfl,h1,cm (j:=1) rfl,_,rfl,_,rfl,_,rfl,a,_,2,_,rfl,rfl,h1,cm (j:=2) rfl,t,rfl,⟨_,h2⟩,?_⟩;refine vm (xs:=RS) (cp:=[some (.int ((l:Int)+(r:Int))),some (.int (l:Int))]) (λi H' zs=>bN K H' zs (((aV.map (jt l r)).take i).map cy)) h2 (by lia) .nil (λi H' zs h=>by rw[gz h,da];exact Nat.min_le_left _ _) ?_ ?_
  ·rintro i v H2 zs hv sm h;obtain⟨Mp,ra,jV,rfl,du⟩:=ox h3 hv;have cJ:=(hR Mp (gT jV)).1;have WR:(l:Int)+(r:Int)=((l+r:Nat):Int):=by lia
   rw[WR];refine jq ⟨_,rfl,_,rfl,_,rfl,_,rfl,_,rfl,ra,_,rfl,sm.bu du,λt1 H3 s3 pw=>?_⟩;rw[x6 (by lia)]at pw;refine⟨_,rfl,_,rfl,_,rfl,ra,_,rfl,(sm.trans s3).bu du,λt2 H4 s4 gF=>?_⟩;rw[oA (by lia)]at gF;refine⟨t1,t2,_,_,rfl,rfl,s4.bu pw,gF,by simp only[bI,da,ff];lia,λt3 H5 s5 vH=>?_⟩;have vI:=s3.trans (s4.trans s5);refine⟨_,rfl,_,rfl,_,rfl,ra,_,rfl,(sm.trans vI).bu du,λt4 H6 s6 vJ=>?_⟩;rw[oB (by lia)]at vJ;refine⟨t3,t4,_,_,rfl,rfl,s6.bu vH,vJ,by simp only[bI,cq,da,ff];lia,λt5 H7 s7 Mq=>?_⟩;have oC:=vI.trans (s6.trans s7);refine⟨⟨[_],rfl,rfl⟩,sm.trans oC,?_⟩;rw[← cS,← cS,dQ]at Mq;have e:(aV.map (jt l r))[i]?=some (jt l r Mp):=by rw[eU,jV];rfl
   rw[gH,e];show bN K H7 _ (((aV.map (jt l r)).take i++[_]).map cy);rw[cS];exact(h.mono oC).append (.cons (jn Mq) .nil)
  rintro H1 ZS sm hZ lz jW;rw[mZ (by rw[bI];lia)]at hZ;have s1:aO H (upd H1 lz (.lst ZS)):=sm.trans (.upd jW);refine⟨p,lz,true,ZS,aV.map (jt l r),r+l+x,rfl,pp,.of aY,hZ.mono (.upd jW),by rw[bI];lia,by lia,λx hx=>?_,λt2 H2 DS s2 gF x8=>?_⟩
  ·obtain⟨y,hy,rfl⟩:=eA.mp hx;exact F0 (hR y hy)
  ·refine⟨(by show 3≤sizeLine;lia),λv hv=>q v _ (s1.trans (s2.trans (.upd hv))) ⟨t2,DS,.of aY,(aO.upd hv).bu gF,x8.mono (.upd hv)⟩⟩
theorem WS:∀e∈gB,e.1 ≠ "back"∧e.1 ≠ "beside"∧e.1 ≠ "then"∧e.1 ≠ "times":=by decide +kernel
theorem lM{x y:Str}{A B:Prop}(h:x≠y)(b:B):if decide (V.str x=V.str y)=true then A else B:=by
 rw[aa (λz=>h (V.str.inj z))];exact dY b
theorem qp{x:V}{A B:Prop}(a:A):if decide (x=x)=true then A else B:=by
 rw[aG rfl];exact gU a
theorem oD{ts es:List Expr}{k:Nat}{pos:Pos}{env:Env}:starEach (.Tuple ts k pos::es) env=(false,eval (.Tuple ts k pos) env)::starEach es env:=by rfl
theorem vK{c:Const}{k:Nat}{es:List Expr}{pos:Pos}{env:Env}:starEach (.Constant c k pos::es) env=(false,eval (.Constant c k pos) env)::starEach es env:=by rfl
theorem WT:("times":Str) ≠ "back":=by decide +kernel
theorem WU:("times":Str) ≠ "beside":=by decide +kernel
theorem WV:("times":Str) ≠ "then":=by decide +kernel
inductive Bv(K:Frag)(p:Int)(x:Str)(ps:List V)(H:Hp)(Q:VK):Prop where
 |back (a:Addr) (l r e:Nat) (aV:LL) (hx:x="back") (hp:ps=[.ref a]) (hf:dF K H a l r aV) (hl:l≤100) (hr:r≤100) (he:e≤200) (hz:aV.length≤500) (hR:cz p (l+r+e) aV) (q:∀v H',aO H H'→dF K H' v r l (dt p (aV.map (jt l r)))→Q (.ref v) H'):Bv K p x ps H Q
 |times (n:Int) (hx:x="times") (hp:ps=[.int n]) (q:∀v H',aO H H'→dF K H' v 1 1 [[1,n]]→Q (.ref v) H'):Bv K p x ps H Q
 |box (l r:Nat) (aV:LL) (hx:(x,l,r,aV)∈gB) (q:∀v H',aO H H'→dF K H' v l r aV→Q (.ref v) H'):Bv K p x ps H Q
theorem WW:c8 ["p","word","parts"] ["p","word","parts"] (bG Fm):=dz rfl rfl rfl (by decide +kernel) rfl
noncomputable def del(Pt:Addr)(H:Hp):Hp:=λb=>if b=Pt then none else H b
section
variable{K:Frag}{H H':Hp}{Pt a b:Addr}{ps:Array Value}{xs:List V}{o:HO}
theorem vL(h:b≠Pt):del Pt H b=H b:=ah h
theorem tT(e:del Pt H b=some o):b≠Pt∧H b=some o:=by
 by_cases hb:b=Pt
 ·rw[del,ae hb]at e;cases e
 ·exact⟨hb,(vL hb).symm.trans e⟩
theorem AD.same(h:AD Pt H H'):aO (del Pt H) H':=λb o e=>h b o (tT e).2 (tT e).1
theorem aO.del(h:aO H H'):aO (del Pt H) (del Pt H'):=λb o e=>by rw[vL (tT e).1];exact h b o (tT e).2
theorem WX(hP:H Pt=some (.fg ps))(e:H b=some o)(hn:∀ps,o≠.fg ps):b≠Pt:=λz=>by
 rw[z,hP]at e;exact hn _ (cY e).symm
theorem x9(hP:H Pt=some (.fg ps))(e:H b=some o)(hn:∀ps,o≠.fg ps):del Pt H b=some o:=by rw[vL (WX hP e hn)];exact e
theorem bh.del(hP:H Pt=some (.fg ps))(h:bh K H a xs):bh K (del Pt H) a xs:=by
 rcases h with(h|⟨o,h⟩)|h
 ·exact .inl (.inl (x9 hP h λ_ z=>nomatch z))
 ·exact .inl (.inr ⟨o,x9 hP h λ_ z=>nomatch z⟩)
 ·exact .inr h
theorem cV.del(hP:H Pt=some (.fg ps))(h:cV K H a xs):cV K (del Pt H) a xs:=by
 rcases h with(h|⟨o,h⟩)|h
 ·exact .inl (.inl (x9 hP h λ_ z=>nomatch z))
 ·exact .inl (.inr ⟨o,x9 hP h λ_ z=>nomatch z⟩)
 ·exact .inr h
mutual
theorem fQ.del(hP:H Pt=some (.fg ps)):∀{v:V}{d:Dat},fQ K H v d→fQ K (S21.del Pt H) v d
 |_,_,.none=>.none
 |_,_,.bool b=>.bool b
 |_,_,.int i=>.int i
 |_,_,.str x=>.str x
 |_,_,.tuple h r=>.tuple (bh.del hP h) (bN.del hP r)
 |_,_,.list h r=>.list (cV.del hP h) (bN.del hP r)
theorem bN.del(hP:H Pt=some (.fg ps)):∀{vs:List V}{ds:List Dat},bN K H vs ds→bN K (S21.del Pt H) vs ds
 |_,_,.nil=>.nil
 |_,_,.cons h r=>.cons (fQ.del hP h) (bN.del hP r)
end
end
theorem _root_.L2.iH.tab{H:Hp}{Pt:Addr}{pos:Pos}{qual:Str}(h:iH H Pt pos qual):∃ps,H Pt=some (.fg ps):=by
 rcases h with h|⟨c,h,_⟩
 ·exact⟨_,h⟩
 ·exact⟨_,h⟩
theorem _root_.L2.iH.mono{H H':Hp}{Pt:Addr}{pos:Pos}{qual:Str}(h:iH H Pt pos qual)(e:aO H H'):iH H' Pt pos qual:=by
 rcases h with h|⟨c,h,h2⟩
 ·exact .inl (e _ _ h)
 ·exact .inr ⟨c,e _ _ h,e _ _ h2⟩
noncomputable def lN(e:Expr):Pos:=match e with
 | .Lambda _ _ _ q=>q
 |_=>⟨0,0,0,0⟩
noncomputable def WY(e:Expr):Arguments:=match e with
 | .Lambda a _ _ _=>a
 |_=>{ posonlyargs:=[],args:=[],vararg:=none,kwonlyargs:=[],kw_defaults:=[],kwarg:=none,defaults:=[] }
noncomputable def By(e:Expr):Scope:=match e with
 | .Lambda _ _ s _=>s
 |_=>{ kind:=.function,names:=[],isGenerator:=false,isCoroutine:=false }
theorem Mr:lL "back"=1:=by decide +kernel
theorem Ms:lL "times"=1:=by decide +kernel
def rp(te:TE)(σ:St)(H:Hp)(k:Int):Prop:=∀H',aO H H'→∀R:VK,R (.int k) H'→te σ H' R
def kh(K:Frag)(te:TE)(σ:St)(H:Hp)(ns:List Int):Prop:=∀H',aO H H'→∀R:VK,(∀v mw,aO H' mw→bh K mw v (ns.map V.int)→R (.ref v) mw)→te σ H' R
def Bz(to:TO)(σ:St)(H:Hp)(k:Option Int):Prop:=∀H',aO H H'→∀R:Option Int→Hp→Prop,R k H'→to σ H' R
section
variable{K:Frag}{σ:St}{H:Hp}
theorem gP{i:Nat}{k:Int}(h:σ[i]?=some (some (.int k))):rp (aR i) σ H k:=λ_ _ _ q=>⟨_,h,q⟩
theorem iw{i:Nat}{a:Addr}{xs:List V}{j:Nat}{k:Int}(h:σ[i]?=some (some (.ref a)))(ha:bh K H a xs)(hj:xs[j]?=some (.int k)):rp (cf (jM K) (aR i) (tC (.int (j:Int)))) σ H k:=
 λ_ s _ q=>⟨_,h,a,xs,(j:Int),_,rfl,rfl,s.bu ha,cm hj,q⟩
theorem vM{ta tb:TE}{i j:Int}(h1:rp ta σ H i)(h2:rp tb σ H j):rp (cf (iC λi j=>.int (i+j)) ta tb) σ H (i+j):=λH' s _ q=>h1 H' s _ (h2 H' s _ ⟨i,j,rfl,rfl,q⟩)
theorem iT{i:Nat}{a:Addr}{ns:List Int}(h:σ[i]?=some (some (.ref a)))(ha:bh K H a (ns.map V.int)):kh K (aR i) σ H ns:=λ_ s _ q=>⟨_,h,q a _ (.refl _) (s.bu ha)⟩
theorem ki:Bz iq σ H none:=λ_ _ _ q=>q
theorem g8{te:TE}{k:Int}(h:rp te σ H k):Bz (fi te) σ H (some k):=λH' s _ q=>h H' s _ ⟨k,rfl,q⟩
theorem jX{ta tb:TE}{ns ms:List Int}(h1:kh K ta σ H ns)(h2:kh K tb σ H ms)(hl:ns.length+ms.length≤10000):kh K (cf (vn K) ta tb) σ H (ns++ms):=λH' s R q=>by
 have z:(10000:Nat)≤sizeLine:=by decide
 refine h1 H' s _ λa H1 s1 ha=>h2 H1 (s.trans s1) _ λb H2 s2 hb=>?_;refine⟨a,b,_,_,rfl,rfl,s2.bu ha,hb,by simp only[bI];lia,λc H3 s3 hc=>q c H3 (s1.trans (s2.trans s3)) ?_⟩;rw[cS];exact hc
theorem Mt{α:Type}(v:α):∀n:Nat,(List.replicate n [v]).flatten=List.replicate n v
 |0=>rfl
 |n+1=>by rw[oV,uH,Mt v n];rfl
theorem tU{tk:TE}{k:Nat}(h:rp tk σ H (k:Int))(hk:k≤10000):kh K (cf (Ao K) (eC (aX (tC (.int 0)) bq)) tk) σ H (List.replicate k 0):=λH' s R q=>by
 have z:(10000:Nat)≤sizeLine:=by decide
 refine⟨by show 1≤sizeLine;decide,λa ha=>?_⟩;have sa:=aO.upd (o:=.tup [.int 0]) ha;refine h _ (s.trans sa) _ ⟨a,(k:Int),[.int 0],rfl,rfl,.of aY,by simp,by lia,by lia,by show 1*(k:Int).toNat≤sizeLine;lia,λc H3 s3 hc=>q c H3 (sa.trans s3) ?_⟩;rw[show(k:Int).toNat=k by lia,Mt]at hc;rw[List.map_replicate];exact hc
theorem i7{te:TE}{tl th:TO}{ns:List Int}{lo hi:Option Int}{ms:List Int}(h:kh K te σ H ns)(h1:Bz tl σ H lo)(h2:Bz th σ H hi)(e:iY (ns.map V.int) lo hi=ms.map V.int):kh K (gw (g7 K) te tl th) σ H ms:=λH' s R q=>
 h H' s _ λa H1 s1 ha=>h1 H1 (s.trans s1) _ (h2 H1 (s.trans s1) _ ⟨a,_,rfl,ha,λc H3 s3 hc=>q c H3 (s1.trans s3) (by rw[e]at hc;exact hc)⟩)
end
theorem qr{K:Frag}{H1:Hp}{t:Addr}{RS:List V}{aV:LL}{f:List Int→List Int}{cp:St}{te:TE}{Q:VK}(h2:bh K H1 t RS)(h3:bN K H1 RS (aV.map cy))(hz:aV.length≤1000)
  (step:∀row ra H,row∈aV→aO H1 H→bh K H ra (row.map V.int)→kh K te (some (.ref ra)::cp) H (f row))
  (done:∀H ZS,aO H1 H→bN K H ZS ((aV.map f).map cy)→∀p,H p=none→Q (.ref p) (upd H p (.lst ZS))) :
  ∃W:Nat→Nat→St→Hp→List V→Prop,(∃m,W 0 m (List.replicate 1 none++cp) H1 [])∧jO (sR K t) (br 0) g6 te Q W:=by
 have nI:(1000:Nat)≤sizeLine:=by decide
 have Bi:=gz h3;refine vm (xs:=RS) (cp:=cp) (λi H' zs=>bN K H' zs (((aV.map f).take i).map cy)) h2 (by lia) .nil (λi H' zs h=>by rw[gz h,da];exact Nat.min_le_left _ _) ?_ ?_
 ·rintro i v H2 zs hv sm h;obtain⟨row,ra,jV,rfl,du⟩:=ox h3 hv;refine jq (step row ra H2 (gT jV) sm (sm.bu du) H2 (.refl _) _ λu H3 s3 hu=>⟨⟨[_],rfl,rfl⟩,sm.trans s3,?_⟩);have e:(aV.map f)[i]?=some (f row):=by rw[eU,jV];rfl
  rw[gH,e];show bN K H3 _ (((aV.map f).take i++[_]).map cy);rw[cS];exact(h.mono s3).append (.cons (jn hu) .nil)
 ·rintro H2 ZS sm hZ lz jW;rw[mZ (by rw[bI];lia)]at hZ;exact done H2 ZS sm hZ lz jW
noncomputable def rq(l r l' r':Nat)(row:List Int):List Int:=row.take l++List.replicate l' 0++(row.drop l).take r++List.replicate r' 0++row.drop (l+r)
noncomputable def rA(l r l':Nat)(row:List Int):List Int:=List.replicate l 0++row.take l'++List.replicate r 0++row.drop l'
noncomputable def oE(l r l' r':Nat)(aV cj:LL):LL:=aV.map (rq l r l' r')++cj.map (rA l r l')
theorem WZ{p:Int}{l r l' r' x:Nat}{row:List Int}(p0:0<p)(h:Rw p (l+r+x) row):Rw p (l+l'+(r+r')+x) (rq l r l' r' row):=by
 refine⟨?_,λy hx=>?_⟩
 ·unfold rq
  have:=h.1
  simp only[cq,da,ff,eV];lia
 ·unfold rq at hx;simp only[eT,List.mem_replicate]at hx;rcases hx with(((z|⟨_,rfl⟩)|z)|⟨_,rfl⟩)|z
  ·exact h.2 y (kI z)
  ·lia
  ·exact h.2 y (ng (kI z))
  ·lia
  ·exact h.2 y (ng z)
theorem W0{p:Int}{l r l' r' x:Nat}{row:List Int}(p0:0<p)(h:Rw p (l'+r'+x) row):Rw p (l+l'+(r+r')+x) (rA l r l' row):=by
 refine⟨?_,λy hx=>?_⟩
 ·unfold rA
  have:=h.1
  simp only[cq,da,ff,eV];lia
 ·unfold rA at hx;simp only[eT,List.mem_replicate]at hx;rcases hx with((⟨_,rfl⟩|z)|⟨_,rfl⟩)|z
  ·lia
  ·exact h.2 y (kI z)
  ·lia
  ·exact h.2 y (ng z)
theorem Gd{p:Int}{l r l' r' x:Nat}{aV cj:LL}(p0:0<p)(h:cz p (l+r+x) aV)(h':cz p (l'+r'+x) cj):cz p (l+l'+(r+r')+x) (oE l r l' r' aV cj):=λw hx=>by
 rcases(eT.mp hx)with z|z
 ·obtain⟨y,hy,e⟩:=eA.mp z;rw[← e];exact WZ p0 (h y hy)
 ·obtain⟨y,hy,e⟩:=eA.mp z;rw[← e];exact W0 p0 (h' y hy)
theorem W2:(["row","behind","one","other"]:List Str).Nodup:=by decide +kernel
theorem W3:(["row","one","other"]:List Str).Nodup:=by decide +kernel
section
variable{P:Program}{w:World}{K:Frag}{mg:Str→Option Value}{base:Heap}
def Ge(K:Frag):Sp:=λvs H Q _=>∃(p:Int)(a b:Addr)(l r:Nat)(aV:LL)(l' r':Nat)(cj:LL)(x:Nat),vs=[.int p,.ref a,.ref b]∧p∈cW∧dF K H a l r aV∧dF K H b l' r' cj∧l≤100∧r≤100∧l'≤100∧r'≤100∧x≤200∧aV.length≤400∧cj.length≤400∧cz p (l+r+x) aV∧cz p (l'+r'+x) cj∧
 ∀v H',aO H H'→dF K H' v (l+l') (r+r') (dt p (oE l r l' r' aV cj))→Q (.ref v) H'
noncomputable abbrev Mu:List Str:=["p","one","other","behind","above","below"]
theorem BA:c8 ["p","one","other","behind","above","below"] ["p","one","other"] (bG xK):=dz rfl rfl rfl (by decide +kernel) rfl
abbrev dm(K:Frag)(i:Nat)(j:Int):TE:=cf (jM K) (aR i) (tC (.int j))
abbrev tV(K:Frag)(tk:TE):TE:=cf (Ao K) (eC (aX (tC (.int 0)) bq)) tk
abbrev hI(K:Frag)(ta tb:TE):TE:=cf (vn K) ta tb
abbrev eI(ta tb:TE):TE:=cf (iC λi j=>.int (i+j)) ta tb
def BC(K:Frag):TE:=hI K (hI K (hI K (hI K (gw (g7 K) (aR 0) iq (fi (dm K 2 0))) (tV K (dm K 3 0))) (gw (g7 K) (aR 0) (fi (dm K 2 0)) (fi (aR 1)))) (tV K (dm K 3 1))) (gw (g7 K) (aR 0) (fi (aR 1)) iq)
def BD(K:Frag):TE:=hI K (hI K (hI K (tV K (dm K 1 0)) (gw (g7 K) (aR 0) iq (fi (dm K 2 0)))) (tV K (dm K 1 1))) (gw (g7 K) (aR 0) (fi (dm K 2 0)) iq)
theorem W4{σ:St}{H:Hp}{ra a b:Addr}{row:List Int}{l r l' r' x:Nat}{t t':V}(h0:σ[0]?=some (some (.ref ra)))(h1:σ[1]?=some (some (.int ((l+r:Nat):Int))))(h2:σ[2]?=some (some (.ref a)))(h3:σ[3]?=some (some (.ref b)))
  (hr:bh K H ra (row.map V.int)) (ha:bh K H a [.int (l:Int),.int (r:Int),t]) (hb:bh K H b [.int (l':Int),.int (r':Int),t']) (hl:row.length=l+r+x) (hx:x≤200) (b1:l≤100) (b2:r≤100) (b3:l'≤100) (b4:r'≤100):kh K (BC K) σ H (rq l r l' r' row):=by
 have e1:(row.take l).length≤100:=by rw[da];lia
 have e2:((row.drop l).take r).length≤100:=by rw[da];lia
 have e3:(row.drop (l+r)).length≤200:=by rw[ff];lia
 refine jX (jX (jX (jX (i7 (iT h0 hr) ki (g8 (iw (j:=0) h2 ha rfl)) (oA (by lia))) (tU (iw (j:=0) h3 hb rfl) (by lia)) ?_) (i7 (iT h0 hr) (g8 (iw (j:=0) h2 ha rfl)) (g8 (gP h1)) (x6 (by lia))) ?_) (tU (iw (j:=1) h3 hb rfl) (by lia)) ?_) (i7 (iT h0 hr) (g8 (gP h1)) ki (oB (by lia))) ?_ <;>
  simp only[cq,eV]<;>lia
theorem W5{σ:St}{H:Hp}{ra a b:Addr}{row:List Int}{l r l' r' x:Nat}{t t':V}(h0:σ[0]?=some (some (.ref ra)))(h2:σ[1]?=some (some (.ref a)))(h3:σ[2]?=some (some (.ref b)))
  (hr:bh K H ra (row.map V.int)) (ha:bh K H a [.int (l:Int),.int (r:Int),t]) (hb:bh K H b [.int (l':Int),.int (r':Int),t']) (hl:row.length=l'+r'+x) (hx:x≤200) (b1:l≤100) (b2:r≤100) (b3:l'≤100) (b4:r'≤100):kh K (BD K) σ H (rA l r l' row):=by
 have e1:(row.take l').length≤100:=by rw[da];lia
 have e3:(row.drop l').length≤300:=by rw[ff];lia
 refine jX (jX (jX (tU (iw (j:=0) h2 ha rfl) (by lia)) (i7 (iT h0 hr) ki (g8 (iw (j:=0) h3 hb rfl)) (oA (by lia))) ?_) (tU (iw (j:=1) h2 ha rfl) (by lia)) ?_) (i7 (iT h0 hr) (g8 (iw (j:=0) h3 hb rfl)) ki (oB (by lia))) ?_ <;>
  simp only[cq,eV]<;>lia
def BE(K:Frag):TS:=bY (cB (eI (dm K 1 0) (dm K 1 1)) (br 3))
 (bY (cB (iP (lj K (dm K 1 2)) 1 [3,1,2] (br 0) g6 (BC K)) (br 4)) (bY (cB (iP (lj K (dm K 2 2)) 1 [1,2] (br 0) g6 (BD K)) (br 5)) (dI (eC (aX (eI (dm K 1 0) (dm K 2 0)) (aX (eI (dm K 1 1) (dm K 2 1)) (aX (e9 (qj K) [] E0 (aX (aR 0) (aX (cf o8 (aR 4) (aR 5)) bq))) bq)))))))
theorem W6{D:Ends}{p:Int}{a b:Addr}{l r:Nat}{aV:LL}{l' r':Nat}{cj:LL}{x:Nat}{H:Hp}(pp:p∈cW)(hf:dF K H a l r aV)(fN:dF K H b l' r' cj)(b1:l≤100)(b2:r≤100)(b3:l'≤100)(b4:r'≤100)(hx:x≤200)(z1:aV.length≤400)(z2:cj.length≤400)(hR:cz p (l+r+x) aV)(fk:cz p (l'+r'+x) cj)
  (q:∀v H',aO H H'→dF K H' v (l+l') (r+r') (dt p (oE l r l' r' aV cj))→D.rt (.ref v) H'):BE K D [some (.int p),some (.ref a),some (.ref b),none,none,none] H:=by
 obtain⟨t,RS,h1,h2,h3⟩:=hf;obtain⟨t',Mv,px,vN,vO⟩:=fN;have nI:(1000:Nat)≤sizeLine:=by decide
 have p0:0<p:=(iD p pp).1 |> λh=>by lia
 unfold BE;refine vM (iw (j:=0) rfl h1 rfl) (iw (j:=1) rfl h1 rfl) H (.refl _) _ ?_;refine⟨_,rfl,a,_,2,_,rfl,rfl,h1,cm (j:=2) rfl,t,rfl,⟨_,h2⟩,?_⟩;refine qr (f:=rq l r l' r') (cp:=[some (.int ((l:Int)+(r:Int))),some (.ref a),some (.ref b)]) h2 h3 (by lia) (λrow ra H1 gY s1 du=>W4 rfl (by rw[show((l+r:Nat):Int)=(l:Int)+(r:Int) by lia];rfl) rfl rfl du (s1.bu h1) (s1.bu px) (hR row gY).1 hx b1 b2 b3 b4) ?_;intro H1 ZS s1 hZ la gk;refine⟨_,rfl,b,_,2,_,rfl,rfl,(s1.trans (.upd gk)).bu px,cm (j:=2) rfl,t',rfl,⟨_,(s1.trans (.upd gk)).bu vN⟩,?_⟩;have ya:(upd H1 la (.lst ZS)) la=some (.lst ZS):=aY;have tX:=hZ.mono (aO.upd gk (o:=.lst ZS));have sA:aO H (upd H1 la (.lst ZS)):=s1.trans (.upd gk);generalize upd H1 la (.lst ZS)=H2 at ya tX sA ⊢;refine qr (f:=rA l r l') (cp:=[some (.ref a),some (.ref b)]) (sA.bu vN) (vO.mono sA) (by lia) (λrow ra H3 gY s3 du=>W5 rfl rfl rfl du ((sA.trans s3).bu h1) ((sA.trans s3).bu px) (fk row gY).1 hx b1 b2 b3 b4) ?_;intro H3 YS s3 hY lb kj;have sB:aO H2 (upd H3 lb (.lst YS)):=s3.trans (.upd kj);have rB:(upd H3 lb (.lst YS)) lb=some (.lst YS):=aY;have pA:=hY.mono (aO.upd kj (o:=.lst YS));generalize upd H3 lb (.lst YS)=H4 at sB rB pA ⊢;have sC:=sA.trans sB;refine vM (iw (j:=0) rfl (sC.bu h1) rfl) (iw (j:=0) rfl (sC.bu px) rfl) H4 (.refl _) _ ?_;refine vM (iw (j:=1) rfl (sC.bu h1) rfl) (iw (j:=1) rfl (sC.bu px) rfl) H4 (.refl _) _ ?_;have eZ:=gz tX;have eY:=gz pA;rw[bI]at eZ eY;refine⟨_,rfl,_,rfl,_,rfl,la,lb,ZS,YS,rfl,rfl,sB _ _ ya,rB,by lia,λlc yd=>?_⟩;have sD:=aO.upd (o:=.lst (ZS++YS)) yd;refine⟨p,lc,true,ZS++YS,oE l r l' r' aV cj,l+l'+(r+r')+x,rfl,pp,.of aY,?_,by unfold oE;rw[cq,bI,bI];lia,by lia,Gd p0 hR fk,λt2 H5 DS s5 gF x8=>?_⟩
 ·unfold oE;rw[cS];exact((tX.mono sB).mono sD).append (pA.mono sD)
 ·refine⟨(by show 3≤sizeLine;lia),λv hv=>q v _ (sC.trans (sD.trans (s5.trans (.upd hv)))) ⟨t2,DS,?_,(aO.upd hv).bu gF,x8.mono (.upd hv)⟩⟩;refine .of ?_;rw[aY,show((l+l':Nat):Int)=(l:Int)+(l':Int) by lia,show((r+r':Nat):Int)=(r:Int)+(r':Int) by lia]
end
section
variable{P:Program}{w:World}{K:Frag}{mg:Str→Option Value}{base:Heap}
theorem W7{f fD:Addr}{fd gO:FuncData}(F:cD K "form_of_beside" "form_of_beside" xK f fd)
  (GD:bz P w K mg base bx 3 fD gO ["p","rows"] (qj K)) (kD:Kp K fD) (bD:Binds K gO ["p","rows"] []) (mD:Mg mg "reduced" fD):bz P w K mg base bx 4 f fd ["p","one","other"] (Ge K):=by
 refine F.ok BA (λvs H Q E h=>?_) (λbZ A outer s H vs Q E hr h=>?_)
 ·obtain⟨p,a,b,l,r,aV,l',r',cj,x,rfl,_⟩:=h;rfl
 ·obtain⟨p,a,b,l,r,aV,l',r',cj,x,rfl,pp,hf,fN,b1,b2,b3,b4,hx,z1,z2,hR,fk,q⟩:=h;refine⟨BE K,?_,?_⟩
  ·unfold BE;refine bo ?_ ?_
   ·refine cg (i:=3) (te:=eI (dm K 1 0) (dm K 1 1)) ?_ ?_ ?_ ?_ ?_ ?_
    ·exact BA.nd
    ·rfl
    ·exact Or.inr rfl
    ·exact bc eK (bH (cH K rfl) (pv 1) aW (λ_ _=>rfl)) (bH (cH K rfl) (pv 1) aW (λ_ _=>rfl))
    ·rfl
    ·exact .inl rfl
   refine bo ?_ ?_
   ·refine me (N:=["row","behind","one","other"]) (own:=1) (caps:=[3,1,2]) (i:=4) (te:=BC K) rfl BA.nd rfl rfl ?_ ?_ ?_ ?_ ?_
    ·exact lE K rfl (bH (cH K rfl) (pv 1) aW (λ_ _=>rfl))
    ·exact(show dg Mu (bG xK) ["row","behind","one","other"] 1 [3,1,2] _ from .mk' (by decide +kernel))
    ·exact λ_ _ _ _ _=>cG (i:=0) W2 rfl (.inl rfl)
    ·exact λ_ _ _ _ _=>fj
    ·intro _ _ _ _ _;unfold BC;refine bc (eE K rfl) ?_ ?_
     ·refine bc (eE K rfl) ?_ ?_
      ·refine bc (eE K rfl) ?_ ?_
       ·refine bc (eE K rfl) ?_ ?_
        ·exact eQ (ft K rfl) (pv 0) fK (dJ (bH (cH K rfl) (pv 2) aW (λ_ _=>rfl)))
        ·exact bc (nB K rfl) (cI (aN aW aU)) (bH (cH K rfl) (pv 3) aW (λ_ _=>rfl))
       ·exact eQ (ft K rfl) (pv 0) (dJ (bH (cH K rfl) (pv 2) aW (λ_ _=>rfl))) (dJ (pv 1))
      ·exact bc (nB K rfl) (cI (aN aW aU)) (bH (cH K rfl) (pv 3) aW (λ_ _=>rfl))
     ·exact eQ (ft K rfl) (pv 0) (dJ (pv 1)) fK
   refine bo ?_ ?_
   ·refine me (N:=["row","one","other"]) (own:=1) (caps:=[1,2]) (i:=5) (te:=BD K) rfl BA.nd rfl rfl ?_ ?_ ?_ ?_ ?_
    ·exact lE K rfl (bH (cH K rfl) (pv 2) aW (λ_ _=>rfl))
    ·exact(show dg Mu (bG xK) ["row","one","other"] 1 [1,2] _ from .mk' (by decide +kernel))
    ·exact λ_ _ _ _ _=>cG (i:=0) W3 rfl (.inl rfl)
    ·exact λ_ _ _ _ _=>fj
    ·intro _ _ _ _ _;unfold BD;refine bc (eE K rfl) ?_ ?_
     ·refine bc (eE K rfl) ?_ ?_
      ·refine bc (eE K rfl) ?_ ?_
       ·exact bc (nB K rfl) (cI (aN aW aU)) (bH (cH K rfl) (pv 1) aW (λ_ _=>rfl))
       ·exact eQ (ft K rfl) (pv 0) fK (dJ (bH (cH K rfl) (pv 2) aW (λ_ _=>rfl)))
      ·exact bc (nB K rfl) (cI (aN aW aU)) (bH (cH K rfl) (pv 1) aW (λ_ _=>rfl))
     ·exact eQ (ft K rfl) (pv 0) (dJ (bH (cH K rfl) (pv 2) aW (λ_ _=>rfl))) fK
   refine bV ?_;refine cO (te:=eC (aX (eI (dm K 1 0) (dm K 2 0)) (aX (eI (dm K 1 1) (dm K 2 1)) (aX (e9 (qj K) [] E0 (aX (aR 0) (aX (cf o8 (aR 4) (aR 5)) bq))) bq)))) ?_;refine cI ?_;refine aN ?_ ?_ ?_
   ·exact bc eK (bH (cH K rfl) (pv 1) aW (λ_ _=>rfl)) (bH (cH K rfl) (pv 2) aW (λ_ _=>rfl))
   ·refine aN ?_ ?_ ?_
    ·exact bc eK (bH (cH K rfl) (pv 1) aW (λ_ _=>rfl)) (bH (cH K rfl) (pv 2) aW (λ_ _=>rfl))
    ·refine aN ?_ aU ?_
     ·exact cQ GD hr rfl mD kD bD .nil cR (aN (pv 0) (aN (bc o9 (pv 4) (pv 5)) aU))
     ·rfl
    ·rfl
   ·rfl
  ·exact W6 pp hf fN b1 b2 b3 b4 hx z1 z2 hR fk q
end
noncomputable def rC(l m r':Nat)(row:List Int):List Int:=(row.drop l).take m++row.take l++List.replicate r' 0++row.drop (l+m)
noncomputable def rE(p:Int)(l m:Nat)(row:List Int):List Int:=(row.take m).map (λn=>(-n)%p)++List.replicate l 0++row.drop m
noncomputable def oF(p:Int)(l m r':Nat)(aV cj:LL):LL:=aV.map (rC l m r')++cj.map (rE p l m)
noncomputable def pB(m:Nat)(row:List Int):Bool:=!((row.take m).any λn=>n != 0)
noncomputable def oG(p:Int)(l m r':Nat)(aV cj:LL):LL:=((dt p (oF p l m r' aV cj)).filter (pB m)).map (λrow=>row.drop m)
theorem W8{p:Int}{l m r' x:Nat}{row:List Int}(p0:0<p)(h:Rw p (l+m+x) row):Rw p (m+(l+r')+x) (rC l m r' row):=by
 refine⟨?_,λy hx=>?_⟩
 ·unfold rC
  have:=h.1
  simp only[cq,da,ff,eV];lia
 ·unfold rC at hx;simp only[eT,List.mem_replicate]at hx;rcases hx with((z|z)|⟨_,rfl⟩)|z
  ·exact h.2 y (ng (kI z))
  ·exact h.2 y (kI z)
  ·lia
  ·exact h.2 y (ng z)
theorem W9{p:Int}{l m r' x:Nat}{row:List Int}(p0:0<p)(h:Rw p (m+r'+x) row):Rw p (m+(l+r')+x) (rE p l m row):=by
 refine⟨?_,λy hx=>?_⟩
 ·unfold rE
  have:=h.1
  simp only[cq,bI,da,ff,eV];lia
 ·unfold rE at hx;simp only[eT,List.mem_replicate,eA]at hx;rcases hx with(⟨w,_,rfl⟩|⟨_,rfl⟩)|z
  ·exact⟨ky _ (by lia),kz _ p0⟩
  ·lia
  ·exact h.2 y (ng z)
theorem BF{p:Int}{l m r' x:Nat}{aV cj:LL}(p0:0<p)(h:cz p (l+m+x) aV)(h':cz p (m+r'+x) cj):cz p (m+(l+r')+x) (oF p l m r' aV cj):=λw hx=>by
 rcases(eT.mp hx)with z|z
 ·obtain⟨y,hy,e⟩:=eA.mp z;rw[← e];exact W8 p0 (h y hy)
 ·obtain⟨y,hy,e⟩:=eA.mp z;rw[← e];exact W9 p0 (h' y hy)
theorem Xa{p:Int}(pp:p∈cW){l m r' x:Nat}{aV cj:LL}(h:cz p (l+m+x) aV)(h':cz p (m+r'+x) cj):cz p (l+r'+x) (oG p l m r' aV cj):=λw hx=>by
 have p0:0<p:=by have:=iD p pp;lia
 obtain⟨y,hy,e⟩:=eA.mp hx;have zZ:=(nE pp (BF p0 h h')).rws y (mY.mp hy).1;rw[← e];refine⟨by rw[ff,zZ.1];lia,λz hz=>zZ.2 z (ng hz)⟩
theorem Xb{p:Int}(pp:p∈cW){l m r' x:Nat}{aV cj:LL}(h:cz p (l+m+x) aV)(h':cz p (m+r'+x) cj):(oG p l m r' aV cj).length≤m+(l+r')+x:=by
 have p0:0<p:=by have:=iD p pp;lia
 have:=vC (BF p0 h h')
 unfold oG;rw[bI];exact gp (Dv _ _) this
theorem Xc:(["row","behind","left","other"]:List Str).Nodup:=by decide +kernel
theorem Xd:(["row","between","left","p"]:List Str).Nodup:=by decide +kernel
theorem Xe:(["number","p"]:List Str).Nodup:=by decide +kernel
theorem Xf:(["row","between"]:List Str).Nodup:=by decide +kernel
section
variable{P:Program}{w:World}{K:Frag}{mg:Str→Option Value}{base:Heap}
def rF(K:Frag):List V→Hp→VK→Prop:=λxs H Q=>∃p ys,xs=[.ref p]∧((cV K H p ys∧∀l,H l=none→Q (.ref l) (upd H l (.tup ys)))∨(bh K H p ys∧Q (.ref p) H))
def BG(K:Frag):TE:=fI (rF K) (aX (iP (lj K (gw (g7 K) (aR 0) iq (fi (aR 1)))) 1 [3] (br 0) g6 (cf (rI (λ_ j=>0<j) λi j=>.int (i%j)) (zL (rU λi=>.int (-i)) (aR 0)) (aR 1))) bq)
def BH(K:Frag):TE:=hI K (hI K (hI K (gw (g7 K) (aR 0) (fi (aR 2)) (fi (aR 1))) (gw (g7 K) (aR 0) iq (fi (aR 2)))) (tV K (dm K 3 1))) (gw (g7 K) (aR 0) (fi (aR 1)) iq)
def BI(K:Frag):TE:=hI K (hI K (BG K) (tV K (aR 2))) (gw (g7 K) (aR 0) (fi (aR 1)) iq)
theorem Xg{H1:Hp}{t:Addr}{ns:List Int}{g:Int→Int}{cp:St}{te:TE}{Q:VK}(h2:bh K H1 t (ns.map V.int))(hz:ns.length≤1000)(step:∀n H,aO H1 H→rp te (some (.int n)::cp) H (g n))
  (done:∀H,aO H1 H→∀p,H p=none→Q (.ref p) (upd H p (.lst ((ns.map g).map V.int)))) :
  ∃W:Nat→Nat→St→Hp→List V→Prop,(∃m,W 0 m (List.replicate 1 none++cp) H1 [])∧jO (sR K t) (br 0) g6 te Q W:=by
 have nI:(1000:Nat)≤sizeLine:=by decide
 refine vm (xs:=ns.map V.int) (cp:=cp) (λi H' zs=>zs=((ns.take i).map g).map V.int) h2 (by rw[bI];lia) (by simp) (λi H' zs h=>by rw[h,bI,bI,da];exact Nat.min_le_left _ _) ?_ ?_
 ·rintro i v H2 zs hv sm rfl;rw[eU]at hv;cases e:ns[i]? with
  |none=>rw[e]at hv;cases hv
  |some n=>
   rw[e]at hv;cases hv;refine jq (step n H2 sm H2 (.refl _) _ ⟨⟨[_],rfl,rfl⟩,sm,?_⟩);rw[gH,e];simp
 ·rintro H2 zs sm rfl lz jW;rw[bI,mZ (cC _)];exact done H2 sm lz jW
theorem Xh{σ:St}{H:Hp}{ra:Addr}{row:List Int}{m:Nat}{p:Int}(h0:σ[0]?=some (some (.ref ra)))(h1:σ[1]?=some (some (.int (m:Int))))(h3:σ[3]?=some (some (.int p)))(hr:bh K H ra (row.map V.int))(hm:m≤row.length)(hl:row.length≤1000)(p0:0<p) :
  kh K (BG K) σ H ((row.take m).map λn=>(-n)%p):=λH' s R q=>by
 unfold BG fI;refine i7 (K:=K) (ms:=row.take m) (iT h0 hr) ki (g8 (gP h1)) (oA hm) H' s _ λt H1 s1 ht=>⟨t,rfl,⟨_,ht⟩,?_⟩;have eb:oi 1 [3] σ=List.replicate 1 none++[some (.int p)]:=by simp[oi,h3]
 rw[eb];refine Xg (g:=λn=>(-n)%p) (cp:=[some (.int p)]) ht (by rw[da];lia) (λn H2 s2 H3 s3 R' q'=>⟨_,rfl,n,rfl,_,rfl,-n,p,rfl,rfl,p0,q'⟩) ?_;intro H2 s2 l EH;refine⟨l,_,rfl,.inl ⟨.of aY,λv hv=>q v _ (s1.trans (s2.trans ((aO.upd EH).trans (.upd hv)))) (.of aY)⟩⟩
theorem Xi{σ:St}{H:Hp}{ra b:Addr}{row:List Int}{l m r' e:Nat}{x t':V}(h0:σ[0]?=some (some (.ref ra)))(h1:σ[1]?=some (some (.int ((l+m:Nat):Int))))(h2:σ[2]?=some (some (.int (l:Int))))(h3:σ[3]?=some (some (.ref b)))
  (hr:bh K H ra (row.map V.int)) (hb:bh K H b [x,.int (r':Int),t']) (hl:row.length=l+m+e) (he:e≤200) (b1:l≤100) (b2:m≤100) (b4:r'≤100):kh K (BH K) σ H (rC l m r' row):=by
 have e1:(row.take l).length≤100:=by rw[da];lia
 have e2:((row.drop l).take m).length≤100:=by rw[da];lia
 have e3:(row.drop (l+m)).length≤200:=by rw[ff];lia
 refine jX (jX (jX (i7 (iT h0 hr) (g8 (gP h2)) (g8 (gP h1)) (x6 (by lia))) (i7 (iT h0 hr) ki (g8 (gP h2)) (oA (by lia))) ?_) (tU (iw (j:=1) h3 hb rfl) (by lia)) ?_) (i7 (iT h0 hr) (g8 (gP h1)) ki (oB (by lia))) ?_ <;>
  (try simp only[cq,eV])<;>lia
theorem Xj{σ:St}{H:Hp}{ra:Addr}{row:List Int}{l m r' e:Nat}{p:Int}(h0:σ[0]?=some (some (.ref ra)))(h1:σ[1]?=some (some (.int (m:Int))))(h2:σ[2]?=some (some (.int (l:Int))))(h3:σ[3]?=some (some (.int p)))
  (hr:bh K H ra (row.map V.int)) (hl:row.length=m+r'+e) (he:e≤200) (b1:l≤100) (b2:m≤100) (b4:r'≤100) (p0:0<p):kh K (BI K) σ H (rE p l m row):=by
 have e1:((row.take m).map λn=>(-n)%p).length≤100:=by rw[bI,da];lia
 have e3:(row.drop m).length≤300:=by rw[ff];lia
 refine jX (jX (Xh h0 h1 h3 hr (by lia) (by lia) p0) (tU (gP h2) (by lia)) ?_) (i7 (iT h0 hr) (g8 (gP h1)) ki (oB (by lia))) ?_ <;>
  (try simp only[cq,eV])<;>lia
def Gf(K:Frag):Sp:=λvs H Q _=>∃(p:Int)(a b:Addr)(l m:Nat)(aV:LL)(r':Nat)(cj:LL)(e:Nat),vs=[.int p,.ref a,.ref b]∧p∈cW∧dF K H a l m aV∧dF K H b m r' cj∧l≤100∧m≤100∧r'≤100∧e≤200∧aV.length≤400∧cj.length≤400∧cz p (l+m+e) aV∧cz p (m+r'+e) cj∧
 ∀v H' ZS,aO H H'→H' v=some (.lst ZS)→bN K H' ZS ((oF p l m r' aV cj).map cy)→Q (.ref v) H'
noncomputable abbrev Mw:List Str:=["p","one","other","left","between","behind","ahead","follow"]
theorem vP:c8 ["p","one","other","left","between","behind","ahead","follow"] ["p","one","other"] (bG xM):=dz rfl rfl rfl (by decide +kernel) rfl
def BJ(K:Frag):TS:=bY (cB (dm K 1 0) (br 3)) (bY (cB (dm K 1 1) (br 4)) (bY (cB (eI (aR 3) (aR 4)) (br 5)) (bY (cB (iP (lj K (dm K 1 2)) 1 [5,3,2] (br 0) g6 (BH K)) (br 6)) (bY (cB (iP (lj K (dm K 2 2)) 1 [4,3,0] (br 0) g6 (BI K)) (br 7)) (dI (cf o8 (aR 6) (aR 7)))))))
theorem Xk{D:Ends}{p:Int}{a b:Addr}{l m:Nat}{aV:LL}{r':Nat}{cj:LL}{e:Nat}{H:Hp}(pp:p∈cW)(hf:dF K H a l m aV)(fN:dF K H b m r' cj)(b1:l≤100)(b2:m≤100)(b4:r'≤100)(he:e≤200)(z1:aV.length≤400)(z2:cj.length≤400)(hR:cz p (l+m+e) aV)(fk:cz p (m+r'+e) cj)
  (q:∀v H' ZS,aO H H'→H' v=some (.lst ZS)→bN K H' ZS ((oF p l m r' aV cj).map cy)→D.rt (.ref v) H'):BJ K D [some (.int p),some (.ref a),some (.ref b),none,none,none,none,none] H:=by
 obtain⟨t,RS,h1,h2,h3⟩:=hf;obtain⟨t',Mv,px,vN,vO⟩:=fN;have nI:(1000:Nat)≤sizeLine:=by decide
 have p0:0<p:=by have:=iD p pp;lia
 unfold BJ;refine iw (j:=0) rfl h1 rfl H (.refl _) _ ?_;refine iw (j:=1) rfl h1 rfl H (.refl _) _ ?_;refine vM (i:=(l:Int)) (j:=(m:Int)) (gP rfl) (gP rfl) H (.refl _) _ ?_;refine⟨_,rfl,a,_,2,_,rfl,rfl,h1,cm (j:=2) rfl,t,rfl,⟨_,h2⟩,?_⟩;refine qr (f:=rC l m r') (cp:=[some (.int ((l:Int)+(m:Int))),some (.int (l:Int)),some (.ref b)]) h2 h3 (by lia) (λrow ra H1 gY s1 du=>Xi rfl (by rw[show((l+m:Nat):Int)=(l:Int)+(m:Int) by lia];rfl) rfl rfl du (s1.bu px) (hR row gY).1 he b1 b2 b4) ?_;intro H1 ZS s1 hZ la gk;refine⟨_,rfl,b,_,2,_,rfl,rfl,(s1.trans (.upd gk)).bu px,cm (j:=2) rfl,t',rfl,⟨_,(s1.trans (.upd gk)).bu vN⟩,?_⟩;have ya:(upd H1 la (.lst ZS)) la=some (.lst ZS):=aY;have tX:=hZ.mono (aO.upd gk (o:=.lst ZS));have sA:aO H (upd H1 la (.lst ZS)):=s1.trans (.upd gk);generalize upd H1 la (.lst ZS)=H2 at ya tX sA ⊢;refine qr (f:=rE p l m) (cp:=[some (.int (m:Int)),some (.int (l:Int)),some (.int p)]) (sA.bu vN) (vO.mono sA) (by lia) (λrow ra H3 gY s3 du=>Xj (r':=r') rfl rfl rfl rfl du (fk row gY).1 he b1 b2 b4 p0) ?_;intro H3 YS s3 hY lb kj;have sB:aO H2 (upd H3 lb (.lst YS)):=s3.trans (.upd kj);have rB:(upd H3 lb (.lst YS)) lb=some (.lst YS):=aY;have pA:=hY.mono (aO.upd kj (o:=.lst YS));generalize upd H3 lb (.lst YS)=H4 at sB rB pA ⊢;have eZ:=gz tX;have eY:=gz pA;rw[bI]at eZ eY;refine⟨_,rfl,_,rfl,la,lb,ZS,YS,rfl,rfl,sB _ _ ya,rB,by lia,λlc yd=>?_⟩;have sD:=aO.upd (o:=.lst (ZS++YS)) yd;refine q lc _ (ZS++YS) (sA.trans (sB.trans sD)) aY ?_;unfold oF;rw[cS];exact((tX.mono sB).mono sD).append (pA.mono sD)
end
section
variable{P:Program}{w:World}{K:Frag}{mg:Str→Option Value}{base:Heap}
theorem Xl{f:Addr}{fd:FuncData}(F:cD K "facing" "facing" xM f fd)(T:Txt mg):bz P w K mg base bx 1 f fd ["p","one","other"] (Gf K):=by
 refine F.ok vP (λvs H Q E h=>?_) (λbZ A outer s H vs Q E hr h=>?_)
 ·obtain⟨p,a,b,l,r,aV,r',cj,e,rfl,_⟩:=h;rfl
 ·obtain⟨p,a,b,l,m,aV,r',cj,e,rfl,pp,hf,fN,b1,b2,b4,he,z1,z2,hR,fk,q⟩:=h;refine⟨BJ K,?_,?_⟩
  ·unfold BJ;refine bo ?_ ?_
   ·exact cg (i:=3) vP.nd rfl (Or.inr rfl) (bH (cH K rfl) (pv 1) aW (λ_ _=>rfl))
   refine bo ?_ ?_
   ·exact cg (i:=4) vP.nd rfl (Or.inr rfl) (bH (cH K rfl) (pv 1) aW (λ_ _=>rfl))
   refine bo ?_ ?_
   ·exact cg (i:=5) vP.nd rfl (Or.inr rfl) (bc eK (pv 3) (pv 4))
   refine bo ?_ ?_
   ·refine me (N:=["row","behind","left","other"]) (own:=1) (caps:=[5,3,2]) (i:=6) (te:=BH K) rfl vP.nd rfl rfl ?_ ?_ ?_ ?_ ?_
    ·exact lE K rfl (bH (cH K rfl) (pv 1) aW (λ_ _=>rfl))
    ·exact(show dg Mw (bG xM) ["row","behind","left","other"] 1 [5,3,2] _ from .mk' (by decide +kernel))
    ·exact λ_ _ _ _ _=>cG (i:=0) Xc rfl (.inl rfl)
    ·exact λ_ _ _ _ _=>fj
    ·intro _ _ _ _ _;unfold BH;refine bc (eE K rfl) ?_ ?_
     ·refine bc (eE K rfl) ?_ ?_
      ·refine bc (eE K rfl) ?_ ?_
       ·exact eQ (ft K rfl) (pv 0) (dJ (pv 2)) (dJ (pv 1))
       ·exact eQ (ft K rfl) (pv 0) fK (dJ (pv 2))
      ·exact bc (nB K rfl) (cI (aN aW aU)) (bH (cH K rfl) (pv 3) aW (λ_ _=>rfl))
     ·exact eQ (ft K rfl) (pv 0) (dJ (pv 1)) fK
   refine bo ?_ ?_
   ·refine me (N:=["row","between","left","p"]) (own:=1) (caps:=[4,3,0]) (i:=7) (te:=BI K) rfl vP.nd rfl rfl ?_ ?_ ?_ ?_ ?_
    ·exact lE K rfl (bH (cH K rfl) (pv 2) aW (λ_ _=>rfl))
    ·exact(show dg Mw (bG xM) ["row","between","left","p"] 1 [4,3,0] _ from .mk' (by decide +kernel))
    ·exact λ_ _ _ _ _=>cG (i:=0) Xd rfl (.inl rfl)
    ·exact λ_ _ _ _ _=>fj
    ·intro _ _ _ _ _;unfold BI;refine bc (eE K rfl) ?_ ?_
     ·refine bc (eE K rfl) ?_ ?_
      ·unfold BG;refine iX (mi K rfl) rfl T.tuple mj ?_;refine aN ?_ aU ?_
       ·refine gW (N:=["number","p"]) (own:=1) (caps:=[3]) rfl ?_ ?_ ?_ ?_ ?_
        ·exact lE K rfl (eQ (ft K rfl) (pv 0) fK (dJ (pv 1)))
        ·exact(dg.mk' (by kernel_rfl))
        ·exact λ_ _ _ _ _=>cG (i:=0) Xe rfl (.inl rfl)
        ·exact λ_ _ _ _ _=>fj
        ·exact λ_ _ _ _ _=>bc fH (n6 n8 (pv 0)) (pv 1)
       ·rfl
      ·exact bc (nB K rfl) (cI (aN aW aU)) (pv 2)
     ·exact eQ (ft K rfl) (pv 0) (dJ (pv 1)) fK
   refine bV ?_;exact cO (te:=cf o8 (aR 6) (aR 7)) (bc o9 (pv 6) (pv 7))
  ·exact Xk pp hf fN b1 b2 b4 he z1 z2 hR fk q
end
section
variable{P:Program}{w:World}{K:Frag}{mg:Str→Option Value}{base:Heap}
def Gg(K:Frag):Sp:=λvs H Q _=>∃(p:Int)(a b:Addr)(l m:Nat)(aV:LL)(r':Nat)(cj:LL)(e:Nat),vs=[.int p,.ref a,.ref b]∧p∈cW∧dF K H a l m aV∧dF K H b m r' cj∧l≤100∧m≤100∧r'≤100∧e≤200∧aV.length≤400∧cj.length≤400∧cz p (l+m+e) aV∧cz p (m+r'+e) cj∧
 ∀v H',aO H H'→dF K H' v l r' (oG p l m r' aV cj)→Q (.ref v) H'
noncomputable abbrev Xm:List Str:=["p","one","other","between","met"]
theorem Gh:c8 ["p","one","other","between","met"] ["p","one","other"] (bG AY):=dz rfl rfl rfl (by decide +kernel) rfl
def Xn(K:Frag):List V→Hp→VK→Prop:=λxs H Q=>∃p ns,xs=[.ref p]∧bh K H p (List.map V.int ns)∧Q (.bl (ns.any λn=>n != 0)) H
def Gi(K:Frag):TT:=Jd (tB (fI (Xn K) (aX (gw (g7 K) (aR 0) iq (fi (aR 1))) bq)))
def Gj(K:Frag):TE:=gw (g7 K) (aR 0) (fi (aR 1)) iq
def BK(K:Frag):TS:=bY (cB (dm K 1 1) (br 3))
 (bY (cB (iP (lj K (e9 (qj K) [] E0 (aX (aR 0) (aX (e9 (Gf K) [] E0 (aX (aR 0) (aX (aR 1) (aX (aR 2) bq)))) bq)))) 1 [3] (br 0) (Gi K) (Gj K)) (br 4)) (dI (eC (aX (dm K 1 0) (aX (dm K 2 1) (aX (fI (rF K) (aX (aR 4) bq)) bq))))))
theorem Xo{H1:Hp}{t:Addr}{RS:List V}{aV:LL}{g:List Int→Bool}{f:List Int→List Int}{cp:St}{tt:TT}{te:TE}{Q:VK}(h2:bh K H1 t RS)(h3:bN K H1 RS (aV.map cy))(hz:aV.length≤1000)
  (test:∀row ra H,row∈aV→aO H1 H→bh K H ra (row.map V.int)→∀R:Bool→Hp→Prop,(∀H',aO H H'→R (g row) H')→tt (some (.ref ra)::cp) H R)
  (step:∀row ra H,row∈aV→aO H1 H→bh K H ra (row.map V.int)→kh K te (some (.ref ra)::cp) H (f row))
  (done:∀H ZS,aO H1 H→bN K H ZS (((aV.filter g).map f).map cy)→∀p,H p=none→Q (.ref p) (upd H p (.lst ZS))) :
  ∃W:Nat→Nat→St→Hp→List V→Prop,(∃m,W 0 m (List.replicate 1 none++cp) H1 [])∧jO (sR K t) (br 0) tt te Q W:=by
 have nI:(1000:Nat)≤sizeLine:=by decide
 have Bi:=gz h3;refine vm (xs:=RS) (cp:=cp) (λi H' zs=>bN K H' zs ((((aV.take i).filter g).map f).map cy)) h2 (by lia) .nil (λi H' zs h=>by rw[gz h,bI];exact gp (Dv _ _) (by rw[da];exact Nat.min_le_left _ _)) ?_ ?_
 ·rintro i v H2 zs hv sm h;obtain⟨row,ra,jV,rfl,du⟩:=ox h3 hv;have hm:=gT jV;refine test row ra H2 hm sm (sm.bu du) _ λH3 s3=>?_;have et:(aV.take (i+1)).filter g=(aV.take i).filter g++[row].filter g:=by
   rw[gH,jV];exact uJ ..
  cases hg:g row with
  |true=>
   refine gU (step row ra H3 hm (sm.trans s3) ((sm.trans s3).bu du) H3 (.refl _) _ λu H4 s4 hu=>⟨⟨[_],rfl,rfl⟩,sm.trans (s3.trans s4),?_⟩);show bN K H4 _ ((((aV.take (i+1)).filter g).map f).map cy);rw[et,List.filter_cons,hg,ae rfl,uK,cS,cS];exact(h.mono (s3.trans s4)).append (.cons (jn hu) .nil)
  |false=>
   refine dY ⟨⟨[_],rfl,rfl⟩,sm.trans s3,?_⟩;show bN K H3 _ ((((aV.take (i+1)).filter g).map f).map cy);rw[et,List.filter_cons,hg,ah (by decide),uK,ij];exact h.mono s3
 ·rintro H2 ZS sm hZ lz jW;rw[mZ (by lia)]at hZ;exact done H2 ZS sm hZ lz jW
theorem Xp{D:Ends}{p:Int}{a b:Addr}{l m:Nat}{aV:LL}{r':Nat}{cj:LL}{e:Nat}{H:Hp}(pp:p∈cW)(hf:dF K H a l m aV)(fN:dF K H b m r' cj)(b1:l≤100)(b2:m≤100)(b4:r'≤100)(he:e≤200)(z1:aV.length≤400)(z2:cj.length≤400)(hR:cz p (l+m+e) aV)(fk:cz p (m+r'+e) cj)
  (q:∀v H',aO H H'→dF K H' v l r' (oG p l m r' aV cj)→D.rt (.ref v) H'):BK K D [some (.int p),some (.ref a),some (.ref b),none,none] H:=by
 have nI:(1000:Nat)≤sizeLine:=by decide
 have p0:0<p:=by have:=iD p pp;lia
 have hF:=BF p0 hR fk;have RO:=nE pp hF;have cJ:=vC hF;obtain⟨t,RS,h1,h2,h3⟩:=id hf;obtain⟨t',Mv,px,vN,vO⟩:=id fN;unfold BK;refine iw (j:=1) rfl h1 rfl H (.refl _) _ ?_;refine⟨_,rfl,_,rfl,_,rfl,_,rfl,p,a,b,l,m,aV,r',cj,e,rfl,pp,hf,fN,b1,b2,b4,he,z1,z2,hR,fk,λlf H1 ZS s1 pC hZ=>?_⟩;refine⟨p,lf,true,ZS,oF p l m r' aV cj,m+(l+r')+e,rfl,pp,.of pC,hZ,by unfold oF;rw[cq,bI,bI];lia,by lia,hF,λt2 H2 DS s2 gF x8=>?_⟩;refine⟨t2,rfl,⟨_,gF⟩,?_⟩;have sA:=s1.trans s2;refine Xo (g:=pB m) (f:=λrow=>row.drop m) (cp:=[some (.int (m:Int))]) gF x8 (by lia) (λrow ra H3 gY s3 du R Xq=>?_) (λrow ra H3 gY s3 du=>?_) ?_
 ·have hl:=(RO.rws row gY).1;refine i7 (K:=K) (ms:=row.take m) (iT rfl du) ki (g8 (gP rfl)) (oA (by lia)) H3 (.refl _) _ λu H4 s4 hu=>?_;exact⟨u,row.take m,rfl,hu,_,rfl,Xq H4 s4⟩
 ·have hl:=(RO.rws row gY).1;exact i7 (K:=K) (iT rfl du) (g8 (gP rfl)) ki (oB (by lia))
 intro H3 YS s3 hY lb kj;have sB:aO H2 (upd H3 lb (.lst YS)):=s3.trans (.upd kj);have rB:(upd H3 lb (.lst YS)) lb=some (.lst YS):=aY;have pA:=hY.mono (aO.upd kj (o:=.lst YS));generalize upd H3 lb (.lst YS)=H4 at sB rB pA ⊢;have sC:=sA.trans sB;refine iw (j:=0) rfl (sC.bu h1) rfl H4 (.refl _) _ ?_;refine iw (j:=1) rfl (sC.bu px) rfl H4 (.refl _) _ ?_;refine⟨_,rfl,lb,YS,rfl,.inl ⟨.of rB,λtt BL=>⟨(by show 3≤sizeLine;lia),λv hv=>?_⟩⟩⟩;have sv:=(aO.upd (o:=.tup YS) BL).trans (aO.upd hv (o:=.tup [.int (l:Int),.int (r':Int),.ref tt]));exact q v _ (sC.trans sv) ⟨tt,YS,.of aY,(aO.upd hv).bu (.of aY),pA.mono sv⟩
theorem Xr{f fD fC:Addr}{fd gO kf:FuncData}(F:cD K "form_of_then" "form_of_then" AY f fd)(T:Txt mg)
  (GD:bz P w K mg base bx 3 fD gO ["p","rows"] (qj K)) (kD:Kp K fD) (bD:Binds K gO ["p","rows"] []) (mD:Mg mg "reduced" fD)
  (GC:bz P w K mg base bx 1 fC kf ["p","one","other"] (Gf K)) (kC:Kp K fC) (bC:Binds K kf ["p","one","other"] []) (mC:Mg mg "facing" fC):bz P w K mg base bx 4 f fd ["p","one","other"] (Gg K):=by
 refine F.ok Gh (λvs H Q E h=>?_) (λbZ A outer s H vs Q E hr h=>?_)
 ·obtain⟨p,a,b,l,r,aV,r',cj,e,rfl,_⟩:=h;rfl
 ·obtain⟨p,a,b,l,m,aV,r',cj,e,rfl,pp,hf,fN,b1,b2,b4,he,z1,z2,hR,fk,q⟩:=h;have iR:dv 1 _:=hr.mono (by decide);refine⟨BK K,?_,?_⟩
  ·unfold BK;refine bo ?_ ?_
   ·exact cg (i:=3) Gh.nd rfl (Or.inr rfl) (bH (cH K rfl) (pv 1) aW (λ_ _=>rfl))
   refine bo ?_ ?_
   ·refine me (N:=["row","between"]) (own:=1) (caps:=[3]) (i:=4) (te:=Gj K) (tt:=Gi K) rfl Gh.nd rfl rfl ?_ ?_ ?_ ?_ ?_
    ·exact lE K rfl (cQ GD hr rfl mD kD bD .nil cR (aN (pv 0) (aN (cQ GC iR rfl mC kC bC .nil cR (aN (pv 0) (aN (pv 1) (aN (pv 2) aU)))) aU)))
    ·exact(show dg Xm (bG AY) ["row","between"] 1 [3] _ from .mk' (by decide +kernel))
    ·exact λ_ _ _ _ _=>cG (i:=0) Xf rfl (.inl rfl)
    ·intro _ _ _ _ _;unfold Gi;exact tE (Ro (sN (gv (Vk K rfl rfl) rfl T.any UI (aN (eQ (ft K rfl) (pv 0) fK (dJ (pv 1))) aU))))
    ·intro _ _ _ _ _;unfold Gj;exact eQ (ft K rfl) (pv 0) (dJ (pv 1)) fK
   refine bV ?_;refine cO (te:=eC (aX (dm K 1 0) (aX (dm K 2 1) (aX (fI (rF K) (aX (aR 4) bq)) bq)))) ?_;refine cI ?_;refine aN ?_ ?_ ?_
   ·exact bH (cH K rfl) (pv 1) aW (λ_ _=>rfl)
   ·refine aN ?_ ?_ ?_
    ·exact bH (cH K rfl) (pv 2) aW (λ_ _=>rfl)
    ·refine aN ?_ aU ?_
     ·exact iX (mi K rfl) rfl T.tuple mj (aN (pv 4) aU)
     ·rfl
    ·rfl
   ·rfl
  ·exact Xp pp hf fN b1 b2 b4 he z1 z2 hR fk q
end
section
variable{P:Program}{w:World}{K:Frag}{mg:Str→Option Value}{base:Heap}
inductive qt(K:Frag)(p:Int)(x:Str)(ps:List V)(H:Hp)(Q:VK):Prop where
 |old (h:Bv K p x ps H Q):qt K p x ps H Q
 |dD (a b:Addr) (l r:Nat) (aV:LL) (l' r':Nat) (cj:LL) (e:Nat) (hx:x="beside") (hp:ps=[.ref a,.ref b]) (hf:dF K H a l r aV) (fN:dF K H b l' r' cj) (b1:l≤100) (b2:r≤100) (b3:l'≤100) (b4:r'≤100) (he:e≤200) (z1:aV.length≤400) (z2:cj.length≤400) (hR:cz p (l+r+e) aV) (fk:cz p (l'+r'+e) cj)
   (q:∀v H',aO H H'→dF K H' v (l+l') (r+r') (dt p (oE l r l' r' aV cj))→Q (.ref v) H'):qt K p x ps H Q
 |bt (a b:Addr) (l m:Nat) (aV:LL) (r':Nat) (cj:LL) (e:Nat) (hx:x="then") (hp:ps=[.ref a,.ref b]) (hf:dF K H a l m aV) (fN:dF K H b m r' cj) (b1:l≤100) (b2:m≤100) (b4:r'≤100) (he:e≤200) (z1:aV.length≤400) (z2:cj.length≤400) (hR:cz p (l+m+e) aV) (fk:cz p (m+r'+e) cj)
   (q:∀v H',aO H H'→dF K H' v l r' (oG p l m r' aV cj)→Q (.ref v) H'):qt K p x ps H Q
def Gk(K:Frag):Sp:=λvs H Q _=>∃(p:Int)(x:Str)(pa:Addr)(ps:List V),vs=[.int p,.str x,.ref pa]∧p∈cW∧H pa=some (.lst ps)∧qt K p x ps H Q
abbrev vQ(K:Frag)(i:Nat)(j:Int):TE:=cf (o7 K) (aR i) (tC (.int j))
abbrev BM(x:Str):TT:=gu (cf nq (aR 1) (tC (.str x)))
def Mx(K:Frag):TE:=e9 (Ga K) [] E0 (aX (aR 0) (aX (vQ K 2 0) bq))
def My(K:Frag):TE:=e9 (Ge K) [] E0 (aX (aR 0) (aX (vQ K 2 0) (aX (vQ K 2 1) bq)))
def Mz(K:Frag):TE:=e9 (Gg K) [] E0 (aX (aR 0) (aX (vQ K 2 0) (aX (vQ K 2 1) bq)))
def Gm(K:Frag):TE:=eC (aX (tC (.int 1)) (aX (tC (.int 1)) (aX (eC (aX (eC (aX (tC (.int 1)) (aX (vQ K 2 0) bq))) bq)) bq)))
def Gn(K:Frag)(aB:Addr):TE:=hI K (e9 (FZ K) [] E0 (aX (eC (aX (aR 1) bq)) bq)) (eC (aX (AL aB (fV K aB) (tC (.ref aB)) (aR 1)) bq))
def BN(K:Frag)(aB:Addr):TS:=bY (eP (BM "back") (dI (Mx K)) gs) (bY (eP (BM "beside") (dI (My K)) gs) (bY (eP (BM "then") (dI (Mz K)) gs) (bY (eP (BM "times") (dI (Gm K)) gs) (dI (Gn K aB)))))
theorem Xs:("beside":Str) ≠ "back":=by decide +kernel
theorem Xt:("then":Str) ≠ "back":=by decide +kernel
theorem Xu:("then":Str) ≠ "beside":=by decide +kernel
theorem Xv{D:Ends}{aS aB:Addr}{p:Int}{x:Str}{pa:Addr}{ps:List V}{H:Hp}(B:mx K mg aS aB)(pp:p∈cW)(iu:H pa=some (.lst ps))(A:qt K p x ps H D.rt):BN K aB D [some (.int p),some (.str x),some (.ref pa)] H:=by
 unfold BN;cases A with
 |dD a b l r aV l' r' cj e hx hp hf fN b1 b2 b3 b4 he z1 z2 hR fk q=>
  subst hx hp;refine⟨_,rfl,rfl,_,rfl,lM Xs ⟨_,rfl,rfl,_,rfl,qp ?_⟩⟩;exact⟨_,rfl,_,rfl,pa,_,0,_,rfl,rfl,.of iu,cm (j:=0) rfl,_,rfl,pa,_,1,_,rfl,rfl,.of iu,cm (j:=1) rfl,p,a,b,l,r,aV,l',r',cj,e,rfl,pp,hf,fN,b1,b2,b3,b4,he,z1,z2,hR,fk,q⟩
 |bt a b l m aV r' cj e hx hp hf fN b1 b2 b4 he z1 z2 hR fk q=>
  subst hx hp;refine⟨_,rfl,rfl,_,rfl,lM Xt ⟨_,rfl,rfl,_,rfl,lM Xu ⟨_,rfl,rfl,_,rfl,qp ?_⟩⟩⟩;exact⟨_,rfl,_,rfl,pa,_,0,_,rfl,rfl,.of iu,cm (j:=0) rfl,_,rfl,pa,_,1,_,rfl,rfl,.of iu,cm (j:=1) rfl,p,a,b,l,m,aV,r',cj,e,rfl,pp,hf,fN,b1,b2,b4,he,z1,z2,hR,fk,q⟩
 |old A=>
  cases A with
  |back a l r e aV hx hp hf hl lK he hz hR q=>
   subst hx hp;refine⟨_,rfl,rfl,_,rfl,qp ?_⟩;exact⟨_,rfl,_,rfl,pa,_,0,_,rfl,rfl,.of iu,cm (j:=0) rfl,p,a,l,r,e,aV,rfl,pp,hf,hl,lK,he,hz,hR,q⟩
  |times n hx hp q=>
   subst hx hp;refine⟨_,rfl,rfl,_,rfl,lM WT ⟨_,rfl,rfl,_,rfl,lM WU ⟨_,rfl,rfl,_,rfl,lM WV ⟨_,rfl,rfl,_,rfl,qp ?_⟩⟩⟩⟩;refine⟨_,rfl,pa,_,0,_,rfl,rfl,.of iu,cm (j:=0) rfl,(by show 2≤sizeLine;decide),λt1 g1=>⟨(by show 1≤sizeLine;decide),λt2 g2=>⟨(by show 3≤sizeLine;decide),λt3 g3=>?_⟩⟩⟩;exact q t3 _ ((aO.upd g1).trans ((aO.upd g2).trans (.upd g3))) ⟨t2,[.ref t1],.of aY,(aO.upd g3).bu (.of aY),.cons (jn (r:=[1,n]) ((aO.upd g3).bu ((aO.upd g2).bu (.of aY)))) .nil⟩
  |box l r aV hx q=>
   obtain⟨n1,n2,n3,n4⟩:=WS _ hx;refine⟨_,rfl,rfl,_,rfl,lM n1 ⟨_,rfl,rfl,_,rfl,lM n2 ⟨_,rfl,rfl,_,rfl,lM n3 ⟨_,rfl,rfl,_,rfl,lM n4 ?_⟩⟩⟩⟩;obtain⟨_,t,e,ht⟩:=B.at_ hx;refine⟨_,rfl,(by show 1≤sizeLine;decide),λt1 g1=>⟨t1,x,l,r,aV,rfl,.of aY,hx,λv H1 s1 hv=>?_⟩⟩;refine⟨_,rfl,x,_,rfl,rfl,e,(by show 1≤sizeLine;decide),λt2 g2=>⟨v,t2,_,_,rfl,rfl,(aO.upd g2).bu hv,.of aY,(by show 2+1≤sizeLine;decide),λt3 H3 s3 vH=>?_⟩⟩;obtain⟨RS,k1,k2⟩:=ht H3;exact q t3 H3 ((aO.upd g1).trans (s1.trans ((aO.upd g2).trans s3))) ⟨t,RS,vH,k1,k2⟩
theorem Xw{aS aB f fB fS fT fW:Addr}{fd km ql ke rG:FuncData}(F:cD K "form" "form" Fm f fd)(B:mx K mg aS aB)
  (GB:bz P w K mg base bx 4 fB km ["p","one"] (Ga K)) (kB:Kp K fB) (bB:Binds K km ["p","one"] []) (mB:Mg mg "form_of_back" fB)
  (GS:bz P w K mg base bx 4 fS ql ["p","one","other"] (Ge K)) (kS:Kp K fS) (bS:Binds K ql ["p","one","other"] []) (mS:Mg mg "form_of_beside" fS)
  (GT:bz P w K mg base bx 4 fT ke ["p","one","other"] (Gg K)) (kT:Kp K fT) (bT:Binds K ke ["p","one","other"] []) (mT:Mg mg "form_of_then" fT)
  (GW:bz P w K mg base bx 5 fW rG ["words"] (FZ K)) (kW:Kp K fW) (bW:Binds K rG ["words"] []) (mW:Mg mg "wires" fW):bz P w K mg base bx 6 f fd ["p","word","parts"] (Gk K):=by
 refine F.ok WW (λvs H Q E h=>?_) (λbZ A outer s H vs Q E hr h=>?_)
 ·obtain⟨p,x,pa,ps,rfl,_⟩:=h;rfl
 ·obtain⟨p,x,pa,ps,rfl,pp,iu,D⟩:=h;have Gp:dv 4 _:=hr.mono (by decide);refine⟨BN K aB,?_,?_⟩
  ·unfold BN;refine bo ?_ ?_
   ·refine dR ?_ ?_ e8
    ·exact df gJ (pv 1) cP (de _)
    ·refine bV ?_;refine cO (te:=Mx K) ?_;exact cQ GB Gp rfl mB kB bB .nil cR (aN (pv 0) (aN (bH (dB K rfl) (pv 2) aW (λ_ _=>rfl)) aU))
   refine bo ?_ ?_
   ·refine dR ?_ ?_ e8
    ·exact df gJ (pv 1) cP (de _)
    ·refine bV ?_;refine cO (te:=My K) ?_;exact cQ GS Gp rfl mS kS bS .nil cR (aN (pv 0) (aN (bH (dB K rfl) (pv 2) aW (λ_ _=>rfl)) (aN (bH (dB K rfl) (pv 2) aW (λ_ _=>rfl)) aU)))
   refine bo ?_ ?_
   ·refine dR ?_ ?_ e8
    ·exact df gJ (pv 1) cP (de _)
    ·refine bV ?_;refine cO (te:=Mz K) ?_;exact cQ GT Gp rfl mT kT bT .nil cR (aN (pv 0) (aN (bH (dB K rfl) (pv 2) aW (λ_ _=>rfl)) (aN (bH (dB K rfl) (pv 2) aW (λ_ _=>rfl)) aU)))
   refine bo ?_ ?_
   ·refine dR ?_ ?_ e8
    ·exact df gJ (pv 1) cP (de _)
    ·refine bV ?_;refine cO (te:=Gm K) ?_;unfold Gm;refine cI ?_;refine aN aW ?_ ?_
     ·refine aN aW ?_ ?_
      ·refine aN ?_ aU ?_
       ·refine cI ?_;refine aN ?_ aU ?_
        ·refine cI ?_;refine aN aW ?_ ?_
         ·refine aN ?_ aU ?_
          ·exact bH (dB K rfl) (pv 2) aW (λ_ _=>rfl)
          ·rfl
         ·exact vK
        ·exact oD
       ·exact oD
      ·exact vK
     ·exact vK
   refine bV ?_;refine cO (te:=Gn K aB) ?_;unfold Gn;refine bc (eE K rfl) ?_ ?_
   ·exact cQ GW hr rfl mW kW bW .nil cR (aN (cI (aN (pv 1) aU)) aU)
   ·refine cI ?_;refine aN ?_ aU ?_
    ·exact Fh B.WG (kY (v:=.ref _) rfl B.WE rfl) (pv 1) (λ_ _=>rfl)
    ·rfl
  ·exact Xv B pp iu D
end
inductive Drw where
 |box (x:Str) (l r:Nat) (aV:LL)
 |times (n:Int)
 |back (d:Drw)
 |dD (a b:Drw)
 |bt (a b:Drw)
namespace Drw
noncomputable def bj:Drw→List V
 |box x _ _ _=>[.str x]
 |times n=>[.str "times",.int n]
 |back d=>.str "back"::d.bj
 |dD a b=>.str "beside"::(a.bj++b.bj)
 |bt a b=>.str "then"::(a.bj++b.bj)
noncomputable def ee:Drw→Nat×Nat
 |box _ l r _=>(l,r)
 |times _=>(1,1)
 |back d=>(d.ee.2,d.ee.1)
 |dD a b=>(a.ee.1+b.ee.1,a.ee.2+b.ee.2)
 |bt a b=>(a.ee.1,b.ee.2)
noncomputable abbrev aM(d:Drw):Nat:=d.ee.1
noncomputable abbrev aQ(d:Drw):Nat:=d.ee.2
def wf(p:Int):Drw→Prop
 |box x l r aV=>(x,l,r,aV)∈gB
 |times n=>0≤n∧n<p
 |back d=>d.wf p
 |dD a b=>a.wf p∧b.wf p
 |bt a b=>a.wf p∧b.wf p∧a.aQ=b.aM
noncomputable def aV(p:Int):Drw→LL
 |box _ _ _ aV=>aV
 |times n=>[[1,n]]
 |back d=>dt p ((d.aV p).map (jt d.aM d.aQ))
 |dD a b=>dt p (oE a.aM a.aQ b.aM b.aQ (a.aV p) (b.aV p))
 |bt a b=>oG p a.aM a.aQ b.aQ (a.aV p) (b.aV p)
theorem pos(d:Drw):1≤d.bj.length:=by cases d<;>simp[bj]
end Drw
theorem BO:∀e∈gB,e.2.1≤2∧e.2.2.1≤2∧e.2.2.2.length≤2∧∀r∈e.2.2.2,r.length=e.2.1+e.2.2.1∧∀x∈r,0≤x∧x<2:=by decide +kernel
namespace Drw
theorem ph{p:Int}:∀{d:Drw},d.wf p→d.aM≤d.bj.length+1∧d.aQ≤d.bj.length+1
 |box x l r aV,h=>by
  obtain⟨h1,h2,_⟩:=BO _ h;exact⟨h1,h2⟩
 |times n,_=>by simp[aM,aQ,ee,bj]
 |back d,h=>by
  have:=ph (d:=d) h
  simp only[aM,aQ,ee,bj,eW]at this ⊢;lia
 |dD a b,h=>by
  have h1:=ph (d:=a) h.1;have h2:=ph (d:=b) h.2;simp only[aM,aQ,ee,bj,eW,cq]at h1 h2 ⊢;lia
 |bt a b,h=>by
  have h1:=ph (d:=a) h.1;have h2:=ph (d:=b) h.2.1;simp only[aM,aQ,ee,bj,eW,cq]at h1 h2 ⊢;lia
def sm:Drw→Prop
 |back d=>d.sm
 |dD a b=>a.sm∧b.sm∧a.aM+b.aM≤100∧a.aQ+b.aQ≤100
 |bt a b=>a.sm∧b.sm
 |_=>True
end Drw
inductive Itm where
 |num (n:Int)
 |ck (d:Drw)
namespace Itm
noncomputable def bj:Itm→List V
 |num n=>[.int n]
 |ck d=>d.bj
noncomputable def head:Itm→V
 |num n=>.int n
 |ck (.box x _ _ _)=>.str x
 |ck (.times _)=>.str "times"
 |ck (.back _)=>.str "back"
 |ck (.dD _ _)=>.str "beside"
 |ck (.bt _ _)=>.str "then"
noncomputable def kids:Itm→List Itm
 |num _=>[]
 |ck (.box _ _ _ _)=>[]
 |ck (.times n)=>[num n]
 |ck (.back d)=>[ck d]
 |ck (.dD a b)=>[ck a,ck b]
 |ck (.bt a b)=>[ck a,ck b]
theorem BP(t:Itm):t.bj=t.head::t.kids.flatMap bj:=by
 cases t with
 |num n=>rfl
 |ck d=>cases d<;>simp[bj,head,kids,Drw.bj]
theorem pos(t:Itm):1≤t.bj.length:=by rw[BP];simp
def wf(p:Int):Itm→Prop
 |num _=>True
 |ck d=>d.wf p∧d.sm
end Itm
noncomputable def fb:List Itm→Nat→List Itm
 |ts,0=>ts
 | [],_+1=>[]
 |t::ts,i+1=>fb (t.kids++ts) i
theorem Gq(i:Nat):fb [] i=[]:=by cases i<;>rfl
theorem yf:∀(i:Nat)(ts:List Itm),(fb ts i).flatMap Itm.bj=(ts.flatMap Itm.bj).drop i
 |0,ts=>rfl
 |i+1,[]=>rfl
 |i+1,t::ts=>by
  show(fb (t.kids++ts) i).flatMap Itm.bj=_;rw[yf i,List.flatMap_append,List.flatMap_cons,Itm.BP,wM,List.drop_succ_cons]
theorem MA:∀(i:Nat)(ts:List Itm),fb ts (i+1)=fb (fb ts i) 1
 |0,ts=>rfl
 |i+1,[]=>by rw[Gq,Gq];rfl
 |i+1,t::ts=>by
  show fb (t.kids++ts) (i+1)=fb (fb (t.kids++ts) i) 1;exact MA i _
theorem vR{ts:List Itm}{i:Nat}(h:i<(ts.flatMap Itm.bj).length):∃t r,fb ts i=t::r∧(ts.flatMap Itm.bj)[i]?=some t.head∧fb ts (i+1)=t.kids++r:=by
 have e:=yf i ts;cases hs:fb ts i with
 |nil=>
  rw[hs]at e
  have:=ao List.length e
  simp only[List.flatMap_nil,qM,ff]at this;lia
 |cons t r=>
  refine⟨t,r,rfl,?_,by rw[MA,hs];rfl⟩;rw[hs,List.flatMap_cons,Itm.BP,wM]at e;have z:((ts.flatMap Itm.bj).drop i)[0]?=some t.head:=by rw[← e];rfl
  rwa[List.getElem?_drop,Nat.add_zero]at z
theorem Gr:∀ts:List Itm,ts.length≤(ts.flatMap Itm.bj).length
 | []=>nO _
 |t::ts=>by
  have:=Gr ts
  have:=t.pos
  rw[List.flatMap_cons,cq,eW];lia
theorem MB{ts:List Itm}:fb ts (ts.flatMap Itm.bj).length=[]:=by
 have e:=Gr (fb ts (ts.flatMap Itm.bj).length);rw[yf,List.drop_length]at e;exact List.eq_nil_of_length_eq_zero (Nat.le_zero.mp e)
theorem MC{ts:List Itm}{i:Nat}:(fb ts i).length≤(ts.flatMap Itm.bj).length:=by
 have e:=Gr (fb ts i);rw[yf,ff]at e;lia
end S21
namespace S21
open PySem L2 Bw
variable{L cj:LL}{a row:List Int}{f u v:Fn}{fd:FuncData}{j l' m r' x x':Nat}{p:Int}{s:Nat→Option (Int×Nat)}
theorem MD:∀e∈gB,lL e.1=0:=Ml
theorem ME:lL "beside"=2:=by decide +kernel
theorem MF:lL "then"=2:=by decide +kernel
noncomputable def bK(s:Nat→Option (Int×Nat))(f:Fn):Fn:=λj=>match s j with
 |some (a,i)=>a*f i
 |none=>0
theorem MG(h:eN p u v):eN p (bK s u) (bK s v):=λj=>by
 unfold bK;cases s j with
 |none=>exact⟨0,by simp⟩
 |some a=>
  have:p∣a.1*(u a.2-v a.2):=wN (h a.2)
  show p∣a.1*u a.2-a.1*v a.2;rwa[Int.mul_sub]at this
theorem Xx{R R':Fn→Prop}(h:∀r,R r→Sp p R' (bK s r))(hv:Sp p R v):Sp p R' (bK s v):=by
 induction hv with
 |zero=>exact Sp.zero.of_eq λj=>by unfold bK;cases s j<;>simp
 | @add v r c _ hr ih=>
  refine(ih.plus c (h r hr)).of_eq λj=>?_;unfold bK;cases s j with
  |none=>simp
  |some a=>
   show a.1*v a.2+c*(a.1*r a.2)=a.1*(v a.2+c*r a.2);rw[Int.mul_add,← Int.mul_assoc,← Int.mul_assoc,nP c]
 |cN _ e ih=>exact .cN ih (MG e)
noncomputable def kn(w:Fn)(m:Nat):LL→List Nat→Fn
 |r::D,l::ls=>λj=>kn w m D ls j+(if m≤l then w l else 0)*fn r j
 |_,_=>λ_=>0
theorem Xy{l:Nat}{r:List Int}(h:∀j,j<l→r.getD j 0=0)(hm:m≤l):pB m r=true:=by
 unfold pB;rw[Bool.not_eq_true',List.any_eq_false];intro x hx;obtain⟨i,hi,rfl⟩:=uI.mp hx;rw[da]at hi
 have:=h i (by lia)
 rw[List.getElem_take];rw[cL,cM (by lia)]at this;have e:r[i]=0:=this;simp[e]
theorem MH{p:Int}{w:Fn}{m:Nat}:∀(D:LL)(ls:List Nat),(∀(i:Nat)(r:List Int)(l:Nat),D[i]?=some r→ls[i]?=some l→∀j,j<l→r.getD j 0=0)→Sp p (RS (D.filter (pB m))) (kn w m D ls)
 | [],_,_=>.zero
 |_::_,[],_=>.zero
 |r::D,l::ls,h=>by
  have ih:=MH (p:=p) (w:=w) (m:=m) D ls λi r' l' h1 h2=>h (i+1) r' l' (by simpa using h1) (by simpa using h2);have sub:Sp p (RS ((r::D).filter (pB m))) (kn w m D ls):=ih.trans λf ⟨q,hq,e⟩=>.mem ⟨q,by
   rw[List.filter_cons];split
   ·exact gq _ hq
   ·exact hq,e⟩
  unfold kn;by_cases hm:m≤l
  ·simp only[hm,if_true];refine Sp.add (w l) sub ⟨r,?_,rfl⟩;rw[List.filter_cons,Xy (h 0 r l rfl rfl) hm,ae rfl];exact dj
  ·simp only[hm,if_false,Int.zero_mul,Int.add_zero];exact sub
theorem MI{w:Fn}{m j:Nat}:∀(D:LL)(ls:List Nat),(∀(i:Nat)(r:List Int),D[i]?=some r→r.getD j 0=0)→kn w m D ls j=0
 | [],_,_=>rfl
 |_::_,[],_=>rfl
 |r::D,l::ls,h=>by
  show kn w m D ls j+_*r.getD j 0=0;rw[MI D ls λi r' hr=>h (i+1) r' (by simpa using hr),h 0 r rfl];simp
theorem Xz{w:Fn}{k:Nat}:∀(D:LL)(ls:List Nat),D.length=ls.length→ls[k]?=some j→(∀(i:Nat)(r:List Int),D[i]?=some r→r.getD j 0=if i=k then 1 else 0)→kn w m D ls j=if m≤j then w j else 0:=by
 induction k with
 |zero=>
  intro D ls hl hk h
  match D,ls,hl,hk with
  | [],[],_,hk=>simp at hk
  |r::D,l::ls,_,hk=>
   cases hk;show kn w m D ls j+(if m≤j then w j else 0)*r.getD j 0=_
   rw[MI D ls λi r' hr=>by simpa using h (i+1) r' (by simpa using hr),h 0 r rfl];simp
 |succ k ih=>
  intro D ls hl hk h
  match D,ls,hl,hk with
  | [],[],_,hk=>simp at hk
  |r::D,l::ls,hl,hk=>
   show kn w m D ls j+_*r.getD j 0=_;rw[ih D ls (by simpa using hl) (by simpa using hk) λi r' hr=>by simpa using h (i+1) r' (by simpa using hr),h 0 r rfl];simp
theorem XA{n:Nat}{D:LL}{ls:List Nat}{w:Fn}(E:jR n n D ls)(h:Sp p (RS D) w)(hz:∀j,j<m→p∣w j):Sp p (RS (D.filter (pB m))) w:=by
 have s1:Sp p (RS (D.filter (pB m))) (kn w m D ls):=MH D ls λi r l h1 h2=>(E.one i r l h1 h2).2;have s2:Sp p (RS D) (kn w m D ls):=s1.trans λf ⟨q,hq,e⟩=>.mem ⟨q,(mY.mp hq).1,e⟩;have s3:Sp p (RS D) (λj=>w j + -1*kn w m D ls j):=h.plus (-1) s2;have z:=E.lead.zero (E.sp s3) λl r hl hr=>by
  obtain⟨i,h1,h2⟩:=vo hr;have e:=Xz (w:=w) (m:=m) (k:=i) D ls E.len.symm h2 λi' r' lK=>by
   by_cases ei:i'=i
   ·subst ei;rw[ae rfl];exact(E.one i' r' l lK h2).1
   ·rw[ah ei];exact E.alone i i' r' l (λz=>ei z.symm) lK h2
  show p∣w l + -1*kn w m D ls l;rw[e];by_cases hm:m≤l
  ·rw[ae hm];exact⟨0,by lia⟩
  ·rw[ah hm]
   have:=hz l (by lia)
   simpa using this
 refine .cN s1 λj=>?_
 have:=Int.dvd_neg.mpr (z j)
 rwa[show -(w j + -1*kn w m D ls j)=kn w m D ls j-w j by lia]at this
theorem vS{b:List Int}:(a++b).getD j 0=if j<a.length then a.getD j 0 else b.getD (j-a.length) 0:=by
 by_cases h:j<a.length
 ·rw[ae h,cL,ip h,cL]
 ·rw[ah h,cL,iK (by lia),cL]
theorem yh{k:Nat}:(a.take k).getD j 0=if j<k then a.getD j 0 else 0:=by
 rw[cL,List.getElem?_take];by_cases h:j<k
 ·rw[ae h,ae h,cL]
 ·rw[ah h,ah h];rfl
theorem tY{k:Nat}:(a.drop k).getD j 0=a.getD (k+j) 0:=by
 rw[cL,List.getElem?_drop,cL]
theorem BQ{k:Nat}:(List.replicate k (0:Int)).getD j 0=0:=by
 rw[cL,wL];split<;>rfl
noncomputable def jY(l r:Nat)(j:Nat):Option (Int×Nat):=if j<r then some (1,l+j)else if j<r+l then some (1,j-r)else some (1,j)
noncomputable def i8(l r l' r':Nat)(j:Nat):Option (Int×Nat):=if j<l then some (1,j)else if j<l+l' then none else if j<l+l'+r then some (1,j-l')else if j<l+l'+r+r' then none else some (1,j-l' - r')
noncomputable def i9(l r l':Nat)(j:Nat):Option (Int×Nat):=if j<l then none else if j<l+l' then some (1,j-l)else if j<l+l'+r then none else some (1,j-l-r)
noncomputable def iz(l m r':Nat)(j:Nat):Option (Int×Nat):=if j<m then some (1,l+j)else if j<m+l then some (1,j-m)else if j<m+l+r' then none else some (1,j-r')
noncomputable def iA(l m:Nat)(j:Nat):Option (Int×Nat):=if j<m then some (-1,j)else if j<m+l then none else some (1,j-l)
noncomputable def vT(m:Nat)(j:Nat):Option (Int×Nat):=some (1,m+j)
theorem XB{l r:Nat}(h:row.length=l+r+x)(j:Nat):fn (jt l r row) j=bK (jY l r) (fn row) j:=by
 unfold fn jt bK jY;have e1:((row.drop l).take r).length=r:=by rw[da,ff];lia
 have e2:(row.take l).length=l:=by rw[da];lia
 rw[vS,e1,vS,e2,yh,yh,tY,tY];by_cases h1:j<r
 ·simp only[h1,if_true,gi]
 ·by_cases h2:j<r+l
  ·simp only[h1,h2,if_true,if_false,show j-r<l by lia,gi]
  ·simp only[h1,h2,if_false,show ¬j-r<l by lia,gi,show l+r+(j-r-l)=j by lia]
theorem MJ{l r:Nat}(h:row.length=l+r+x)(j:Nat):fn (rq l r l' r' row) j=bK (i8 l r l' r') (fn row) j:=by
 unfold fn rq bK i8;have e1:(row.take l).length=l:=by rw[da];lia
 have e2:((row.drop l).take r).length=r:=by rw[da,ff];lia
 simp only[vS,cq,eV,e1,e2,yh,tY,BQ];by_cases h1:j<l
 ·simp only[h1,if_true,show j<l+l' by lia,show j<l+l'+r by lia,show j<l+l'+r+r' by lia,gi]
 ·by_cases h2:j<l+l'
  ·simp only[h1,h2,if_true,if_false,show j<l+l'+r by lia,show j<l+l'+r+r' by lia]
  ·by_cases h3:j<l+l'+r
   ·simp only[h1,h2,h3,if_true,if_false,show j<l+l'+r+r' by lia,show j-(l+l')<r by lia,gi,show l+(j-(l+l'))=j-l' by lia]
   ·by_cases h4:j<l+l'+r+r'
    ·simp only[h1,h2,h3,h4,if_true,if_false]
    ·simp only[h1,h2,h3,h4,if_false,gi,show l+r+(j-(l+l'+r+r'))=j-l' - r' by lia]
theorem MK{l r:Nat}(h:row.length=l'+x)(j:Nat):fn (rA l r l' row) j=bK (i9 l r l') (fn row) j:=by
 unfold fn rA bK i9;have e1:(row.take l').length=l':=by rw[da];lia
 simp only[vS,cq,eV,e1,yh,tY,BQ];by_cases h1:j<l
 ·simp only[h1,if_true,show j<l+l' by lia,show j<l+l'+r by lia]
 ·by_cases h2:j<l+l'
  ·simp only[h1,h2,if_true,if_false,show j<l+l'+r by lia,show j-l<l' by lia,gi]
  ·by_cases h3:j<l+l'+r
   ·simp only[h1,h2,h3,if_true,if_false]
   ·simp only[h1,h2,h3,if_false,gi,show l'+(j-(l+l'+r))=j-l-r by lia]
theorem ML{l:Nat}(h:row.length=l+m+x)(j:Nat):fn (rC l m r' row) j=bK (iz l m r') (fn row) j:=by
 unfold fn rC bK iz;have e1:(row.take l).length=l:=by rw[da];lia
 have e2:((row.drop l).take m).length=m:=by rw[da,ff];lia
 simp only[vS,cq,eV,e1,e2,yh,tY,BQ];by_cases h1:j<m
 ·simp only[h1,if_true,show j<m+l by lia,show j<m+l+r' by lia,gi]
 ·by_cases h2:j<m+l
  ·simp only[h1,h2,if_true,if_false,show j<m+l+r' by lia,show j-m<l by lia,gi]
  ·by_cases h3:j<m+l+r'
   ·simp only[h1,h2,h3,if_true,if_false]
   ·simp only[h1,h2,h3,if_false,gi,show l+m+(j-(m+l+r'))=j-r' by lia]
theorem XC(j:Nat):fn (row.drop m) j=bK (vT m) (fn row) j:=by
 unfold fn bK vT;rw[tY];simp
theorem MM{l:Nat}(h:row.length=m+x):eN p (fn (rE p l m row)) (bK (iA l m) (fn row)):=λj=>by
 unfold fn rE bK iA;have e1:(((row.take m).map λn=>(-n)%p)).length=m:=by rw[bI,da];lia
 simp only[vS,cq,eV,e1,tY,BQ];by_cases h1:j<m
 ·have e2:((row.take m).map λn=>(-n)%p).getD j 0=(-(row.getD j 0))%p:=by
   have hj:j<(row.take m).length:=by rw[da];lia
   rw[cL,eU,cM hj,cL,cM (by lia:j<row.length),List.getElem_take];rfl
  simp only[h1,if_true,show j<m+l by lia,e2]
  have:=pe p (-(row.getD j 0))
  rwa[show -(row.getD j 0)=-1*row.getD j 0 by lia]at this ⊢
 ·by_cases h2:j<m+l
  ·simp only[h1,h2,if_true,if_false];exact⟨0,by lia⟩
  ·simp only[h1,h2,if_false,gi,show m+(j-(m+l))=j-l by lia];exact⟨0,by lia⟩
theorem XD{c:Int}(j:Nat):bK s (λi=>u i+c*v i) j=bK s u j+c*bK s v j:=by
 unfold bK;cases s j with
 |none=>simp
 |some a=>
  show a.1*(u a.2+c*v a.2)=a.1*u a.2+c*(a.1*v a.2);rw[Int.mul_add,← Int.mul_assoc,← Int.mul_assoc,nP c]
theorem oH{g:List Int→List Int}(hg:∀r∈L,eN p (fn (g r)) (bK s (fn r))):Sp p (RS (L.map g)) f↔∃u,Sp p (RS L) u∧eN p (bK s u) f:=by
 constructor
 ·intro h;induction h with
  |zero=>exact⟨_,.zero,λj=>⟨0,by unfold bK;cases s j<;>simp⟩⟩
  | @add v r c _ hr ih=>
   obtain⟨u,hu,e⟩:=ih;obtain⟨q,hq,rfl⟩:=hr;obtain⟨r0,Bk,rfl⟩:=eA.mp hq;refine⟨_,hu.add c ⟨r0,Bk,rfl⟩,λj=>?_⟩;rw[XD];have h1:=e j;have h2:p∣c*(fn (g r0) j-bK s (fn r0) j):=wN (hg r0 Bk j);have h3:=kG h1 h2;rwa[show bK s u j-v j-c*(fn (g r0) j-bK s (fn r0) j)=bK s u j+c*bK s (fn r0) j-(v j+c*fn (g r0) j) by rw[Int.mul_sub];lia]at h3
  |cN _ e ih=>
   obtain⟨u,hu,e'⟩:=ih;exact⟨u,hu,e'.trans e⟩
 ·rintro⟨u,hu,e⟩;refine .cN (Xx (s:=s) (R':=RS (L.map g)) (λr ⟨q,hq,er⟩=>?_) hu) e;rw[er];exact .cN (qg (List.mem_map_of_mem hq)) (hg q hq)
theorem Gs{L':LL}:Sp p (RS (L++L')) f↔∃u v,Sp p (RS L) u∧Sp p (RS L') v∧eN p (λj=>u j+v j) f:=by
 constructor
 ·intro h;induction h with
  |zero=>exact⟨_,_,.zero,.zero,λj=>⟨0,by simp⟩⟩
  | @add v r c _ hr ih=>
   obtain⟨u,v',hu,hv,e⟩:=ih;obtain⟨q,hq,rfl⟩:=hr;rcases(eT.mp hq)with z|z
   ·refine⟨_,v',hu.add c ⟨q,z,rfl⟩,hv,λj=>?_⟩
    have:=e j
    dsimp only at this ⊢;rwa[show u j+c*fn q j+v' j-(v j+c*fn q j)=u j+v' j-v j by lia]
   ·refine⟨u,_,hu,hv.add c ⟨q,z,rfl⟩,λj=>?_⟩
    have:=e j
    dsimp only at this ⊢;rwa[show u j+(v' j+c*fn q j)-(v j+c*fn q j)=u j+v' j-v j by lia]
  |cN _ e ih=>
   obtain⟨u,v',hu,hv,e'⟩:=ih;exact⟨u,v',hu,hv,e'.trans e⟩
 ·rintro⟨u,v,hu,hv,e⟩;have h1:Sp p (RS (L++L')) u:=pk (λr hr=>qg (nN _ hr)) hu;have h2:Sp p (RS (L++L')) v:=pk (λr hr=>qg (jv _ hr)) hv;exact .cN ((h1.plus 1 h2).of_eq λj=>by rw[gi]) e
theorem BR{n:Nat}(pp:p∈cW)(h:cz p n L):Sp p (RS (dt p L)) f↔Sp p (RS L) f:=⟨pk (nE pp h).sub,pk (nE pp h).sup⟩
section
variable{p:Int}{f:Fn}
theorem lO(h:∀j,u j=v j):eN p u v:=λj=>⟨0,by rw[h j];lia⟩
theorem MN{l r:Nat}(f:Fn)(j:Nat):bK (jY l r) (bK (jY r l) f) j=f j:=by
 unfold bK jY;by_cases h1:j<r
 ·simp only[h1,if_true,show ¬l+j<l by lia,if_false,show l+j<l+r by lia,gi,show l+j-l=j by lia]
 ·by_cases h2:j<r+l
  ·simp only[h1,h2,if_true,if_false,show j-r<l by lia,gi,show r+(j-r)=j by lia]
  ·simp only[h1,h2,if_false,show ¬j<l by lia,show ¬j<l+r by lia,gi]
theorem XE{l r:Nat}{aV:LL}(h:cz p (l+r+x) aV):Sp p (RS (aV.map (jt l r))) f↔Sp p (RS aV) (bK (jY r l) f):=by
 rw[oH (s:=jY l r) (λq hq=>lO (XB (x:=x) (h q hq).1))];constructor
 ·rintro⟨u,hu,e⟩;refine .cN hu ?_;exact(lO λj=>(MN (l:=r) (r:=l) u j).symm).trans (MG e)
 ·intro h;exact⟨_,h,lO (MN f)⟩
theorem XF{l r:Nat}{aV:LL}(h:cz p (l+r+x) aV)(h':cz p (l'+r'+x') cj) :
  Sp p (RS (oE l r l' r' aV cj)) f↔∃u v,Sp p (RS aV) u∧Sp p (RS cj) v∧eN p (λj=>bK (i8 l r l' r') u j+bK (i9 l r l') v j) f:=by
 unfold oE;rw[Gs];constructor
 ·rintro⟨u,v,hu,hv,e⟩;obtain⟨u0,Gu,eu⟩:=(oH (s:=i8 l r l' r') (λq hq=>lO (MJ (x:=x) (h q hq).1))).mp hu;obtain⟨v0,Gv,ev⟩:=(oH (s:=i9 l r l') (λq hq=>lO (MK (x:=r'+x') (by rw[(h' q hq).1];lia)))).mp hv;refine⟨u0,v0,Gu,Gv,λj=>?_⟩
  have:=pT (pT (eu j) (ev j)) (e j)
  dsimp only at this ⊢;rwa[show bK (i8 l r l' r') u0 j-u j+(bK (i9 l r l') v0 j-v j)+(u j+v j-f j)=bK (i8 l r l' r') u0 j+bK (i9 l r l') v0 j-f j by lia]at this
 ·rintro⟨u,v,hu,hv,e⟩;exact⟨_,_,(oH (s:=i8 l r l' r') (λq hq=>lO (MJ (x:=x) (h q hq).1))).mpr ⟨u,hu,.refl _ _⟩,(oH (s:=i9 l r l') (λq hq=>lO (MK (x:=r'+x') (by rw[(h' q hq).1];lia)))).mpr ⟨v,hv,.refl _ _⟩,e⟩
theorem MO{l:Nat}{aV:LL}(h:cz p (l+m+x) aV)(h':cz p (m+r'+x') cj) :
  Sp p (RS (oF p l m r' aV cj)) f↔∃u v,Sp p (RS aV) u∧Sp p (RS cj) v∧eN p (λj=>bK (iz l m r') u j+bK (iA l m) v j) f:=by
 unfold oF;rw[Gs];constructor
 ·rintro⟨u,v,hu,hv,e⟩;obtain⟨u0,Gu,eu⟩:=(oH (s:=iz l m r') (λq hq=>lO (ML (x:=x) (h q hq).1))).mp hu;obtain⟨v0,Gv,ev⟩:=(oH (s:=iA l m) (λq hq=>MM (x:=r'+x') (by rw[(h' q hq).1];lia))).mp hv;refine⟨u0,v0,Gu,Gv,λj=>?_⟩
  have:=pT (pT (eu j) (ev j)) (e j)
  dsimp only at this ⊢;rwa[show bK (iz l m r') u0 j-u j+(bK (iA l m) v0 j-v j)+(u j+v j-f j)=bK (iz l m r') u0 j+bK (iA l m) v0 j-f j by lia]at this
 ·rintro⟨u,v,hu,hv,e⟩;exact⟨_,_,(oH (s:=iz l m r') (λq hq=>lO (ML (x:=x) (h q hq).1))).mpr ⟨u,hu,.refl _ _⟩,(oH (s:=iA l m) (λq hq=>MM (x:=r'+x') (by rw[(h' q hq).1];lia))).mpr ⟨v,hv,.refl _ _⟩,e⟩
theorem XG{r:List Int}(h:pB m r=true)(hj:j<m):r.getD j 0=0:=by
 unfold pB at h;rw[Bool.not_eq_true',List.any_eq_false]at h;by_cases hl:j<r.length
 ·have hm:r[j]∈r.take m:=uI.mpr ⟨j,by rw[da];lia,List.getElem_take ..⟩
  have:=h _ hm
  rw[cL,cM hl];simpa using this
 ·rw[cL,jw (by lia)];rfl
theorem Gw{w:Fn}(hL:∀r∈L,r.getD j 0=0)(h:Sp p (RS L) w):p∣w j:=by
 induction h with
 |zero=>exact⟨0,by simp⟩
 | @add v r c _ hr ih=>
  obtain⟨q,hq,rfl⟩:=hr;show p∣v j+c*q.getD j 0;rw[hL q hq];simpa using ih
 |cN _ e ih=>
  have:=kG ih (e j)
  rename_i u v _
  rwa[show v j-(v j-u j)=u j by lia]at this
theorem MP{l:Nat}(v:Fn)(h:j<m):bK (iA l m) v j=-v j:=by
 unfold bK iA;simp only[h,if_true];lia
theorem MQ{l:Nat}(u:Fn)(h:j<m):bK (iz l m r') u j=u (l+j):=by
 unfold bK iz;simp only[h,if_true,gi]
theorem XH{l N:Nat}{aV:LL}(pp:p∈cW)(h:cz p (l+m+x) aV)(h':cz p (m+r'+x') cj)(hN:cz p N (oF p l m r' aV cj)) :
  Sp p (RS (oG p l m r' aV cj)) f↔∃u v,Sp p (RS aV) u∧Sp p (RS cj) v∧(∀j,j<m→p∣u (l+j)-v j)∧eN p (λj=>bK (iz l m r') u (m+j)+bK (iA l m) v (m+j)) f:=by
 have RO:=nE pp hN;obtain⟨ls,E⟩:=RO.nC;unfold oG;rw[oH (s:=vT m) (λq hq=>lO (λj=>XC j))];constructor
 ·rintro⟨w,hw,e⟩;have hz:∀j,j<m→p∣w j:=λj hj=>Gw (λr hr=>XG (mY.mp hr).2 hj) hw;have XI:Sp p (RS (oF p l m r' aV cj)) w:=(BR pp hN).mp (pk (λr hr=>qg (mY.mp hr).1) hw);obtain⟨u,v,hu,hv,ew⟩:=(MO h h').mp XI;refine⟨u,v,hu,hv,λj hj=>?_,λj=>?_⟩
  ·have h1:=ew j;dsimp only at h1;rw[MP v hj,MQ u hj]at h1
   have:=pT h1 (hz j hj)
   rwa[show u (l+j) + -v j-w j+w j=u (l+j)-v j by lia]at this
  ·have h1:=ew (m+j);have h2:=e j;have h3:bK (vT m) w j=w (m+j):=by unfold bK vT;simp
   rw[h3]at h2
   have:=pT h1 h2
   dsimp only at this ⊢;rwa[show bK (iz l m r') u (m+j)+bK (iA l m) v (m+j)-w (m+j)+(w (m+j)-f j)=bK (iz l m r') u (m+j)+bK (iA l m) v (m+j)-f j by lia]at this
 ·rintro⟨u,v,hu,hv,hm,e⟩;refine⟨λj=>bK (iz l m r') u j+bK (iA l m) v j,?_,?_⟩
  ·refine XA E ((BR pp hN).mpr ((MO h h').mpr ⟨u,v,hu,hv,.refl _ _⟩)) λj hj=>?_;show p∣bK (iz l m r') u j+bK (iA l m) v j;rw[MP v hj,MQ u hj]
   have:=hm j hj
   rwa[show u (l+j) + -v j=u (l+j)-v j by lia]
  ·refine(lO λj=>?_).trans e;unfold bK vT;simp
end
def Ok(p:Int)(d:Drw):Prop:=d.wf p∧d.sm
noncomputable def tZ(K:Frag)(aS:Addr):Bool:=(match PyProof.Rows.KTD.datumAt (Str.ofString "times") (fV K aS)with|some (.ref t)=>tS K t [1,1] | _=>false) &&
 (PyProof.Rows.KTD.datumAt (Str.ofString "back") (fV K aS)).isNone&&(PyProof.Rows.KTD.datumAt (Str.ofString "beside") (fV K aS)).isNone&&(PyProof.Rows.KTD.datumAt (Str.ofString "then") (fV K aS)).isNone&&(match PyProof.Rows.KTD.datumAt (Str.ofString "late") (fV K aS)with|some (.ref t)=>tS K t [1,1] | _=>false)
theorem MR{K:Frag}{aS:Addr}(h:tZ K aS=true):(∃t,PyProof.Rows.KTD.datumAt (Str.ofString "times") (fV K aS)=some (.ref t)∧∀H,bh K H t [.int 1,.int 1])∧
  PyProof.Rows.KTD.datumAt (Str.ofString "back") (fV K aS)=none∧PyProof.Rows.KTD.datumAt (Str.ofString "beside") (fV K aS)=none∧PyProof.Rows.KTD.datumAt (Str.ofString "then") (fV K aS)=none∧∃t,PyProof.Rows.KTD.datumAt (Str.ofString "late") (fV K aS)=some (.ref t)∧∀H,bh K H t [.int 1,.int 1]:=by
 unfold tZ at h;simp only[fo,Option.isNone_iff_eq_none]at h;obtain⟨⟨⟨⟨h1,h2⟩,h3⟩,h4⟩,h5⟩:=h;refine⟨?_,h2,h3,h4,?_⟩
 ·split at h1
  ·rename_i t e
   exact⟨t,e,λH=>Br h1 H⟩
  ·exact nomatch h1
 ·split at h5
  ·rename_i t e
   exact⟨t,e,λH=>Br h5 H⟩
  ·exact nomatch h5
def my(K:Frag)(H:Hp)(a:Addr)(l r:Nat):Prop:=bh K H a [.int (l:Int),.int (r:Int),.cE]
inductive XJ(K:Frag)(x:Str)(ps:List V)(H:Hp)(Q:VK):Prop where
 |box (l r:Nat) (aV:LL) (h:(x,l,r,aV)∈gB) (q:gM K H [.int (l:Int),.int (r:Int),.cE] Q)
 |times (h:x="times") (q:gM K H [.int 1,.int 1,.cE] Q)
 |dq (h:x="late") (q:gM K H [.int 1,.int 1,.cE] Q)
 |back (a:Addr) (l r:Nat) (h:x="back") (hp:ps=[.ref a]) (ha:my K H a l r) (q:gM K H [.int (r:Int),.int (l:Int),.cE] Q)
 |dD (a b:Addr) (l r l' r':Nat) (h:x="beside") (hp:ps=[.ref a,.ref b]) (ha:my K H a l r) (hb:my K H b l' r') (q:gM K H [.int ((l+l':Nat):Int),.int ((r+r':Nat):Int),.cE] Q)
 |bt (a b:Addr) (l m r:Nat) (h:x="then") (hp:ps=[.ref a,.ref b]) (ha:my K H a l m) (hb:my K H b m r) (q:gM K H [.int (l:Int),.int (r:Int),.cE] Q)
theorem XM:(["part"]:List Str).Nodup:=by decide +kernel
def XN(K:Frag)(H:Hp)(ps:List V):Prop:=∀(i:Nat)(v:V),ps[i]?=some v→∃(a:Addr)(l r:Nat),v=.ref a∧my K H a l r
def MT(K:Frag):Sp:=λvs H Q _=>∃(pa:Addr)(ps:List V),vs=[.ref pa]∧H pa=some (.lst ps)∧ps.length≤10∧XN K H ps∧∀H',aO H H'→Q .cE H'
theorem MU:c8 ["parts","unmet"] ["parts"] (bG AW):=dz rfl rfl rfl (by decide +kernel) rfl
theorem XO{f:Addr}(F:cD K "first_unmet" "first_unmet" AW f fd):bz P w K mg base bx 1 f fd ["parts"] (MT K):=by
 refine F.ok MU (λvs H Q E h=>?_) (λbZ A outer s H vs Q E hr h=>?_)
 ·obtain⟨pa,ps,rfl,_⟩:=h;rfl
 ·obtain⟨pa,ps,rfl,hp,hl,hm,q⟩:=h;have z:(10:Nat)≤sizeLine:=by decide
  refine⟨_,bo (me (i:=1) (N:=["part"]) (own:=1) (caps:=[]) rfl MU.nd rfl rfl (jo K rfl (pv 0)) (show dg ["parts","unmet"] (bG AW) ["part"] 1 [] _ from .mk' (by decide +kernel)) (λ_ _ _ _ _=>cG (i:=0) XM rfl (.inl rfl)) (λ_ _ _ _ _=>tE (df RN (bH (cH K rfl) (pv 0) aW (λ_ _=>rfl)) sH (de _))) (λ_ _ _ _ _=>bH (cH K rfl) (pv 0) aW (λ_ _=>rfl))) (bV (cO (DK (DY (pv 1) (λ_=>rfl)) (bH (dB K rfl) (pv 1) aW (λ_ _=>rfl)) sH))),?_⟩
  refine⟨_,rfl,pa,rfl,⟨_,.of hp⟩,qd (cp:=[]) (λi H' zs=>zs=[]) (.of hp) (by lia) rfl (λi H' zs e=>by rw[e];exact nO _) ?_ ?_⟩
  ·rintro i x H1 zs hx sm rfl;obtain⟨a,l,r,rfl,ha⟩:=hm i x hx;exact⟨_,rfl,a,_,2,.cE,rfl,rfl,sm.bu ha,cm (j:=2) rfl,rfl,_,rfl,xQ (λh=>absurd rfl h) (λ_=>⟨⟨[_],rfl,rfl⟩,sm,rfl⟩)⟩
  ·rintro H1 zs sm rfl lu XQ;refine⟨_,rfl,_,.inl ⟨[],.of aY,rfl⟩,dY ?_⟩;exact q _ (sm.trans (.upd XQ))
def MV(K:Frag):Sp:=λvs H Q _=>∃(x:Str)(pa:Addr)(ps:List V),vs=[.str x,.ref pa]∧H pa=some (.lst ps)∧
 ((∃(a:Addr)(l r:Nat),x="back"∧ps=[.ref a]∧my K H a l r∧gM K H [.int (r:Int),.int (l:Int)] Q)∨(∃(a b:Addr)(l r l' r':Nat),x="beside"∧ps=[.ref a,.ref b]∧my K H a l r∧my K H b l' r'∧gM K H [.int ((l+l':Nat):Int),.int ((r+r':Nat):Int)] Q)∨(∃(a b:Addr)(l m m' r:Nat),x="then"∧ps=[.ref a,.ref b]∧my K H a l m∧my K H b m' r∧gM K H [.int (l:Int),.int (r:Int)] Q))
theorem XR:c8 ["word","parts"] ["word","parts"] (bG Fl):=dz rfl rfl rfl (by decide +kernel) rfl
theorem XT{f:Addr}(F:cD K "joined_sides" "joined_sides" Fl f fd):bz P w K mg base bx 1 f fd ["word","parts"] (MV K):=by
 refine F.ok XR (λvs H Q E h=>?_) (λbZ A outer s H vs Q E hr h=>?_)
 ·obtain⟨x,pa,ps,rfl,_⟩:=h;rfl
 ·obtain⟨x,pa,ps,rfl,hp,h⟩:=h;refine⟨_,bo (dR (df gJ (pv 0) cP (de _)) (bV (cO (cI (aN (bH (cH K rfl) (bH (dB K rfl) (pv 1) aW (λ_ _=>rfl)) aW (λ_ _=>rfl)) (aN (bH (cH K rfl) (bH (dB K rfl) (pv 1) aW (λ_ _=>rfl)) aW (λ_ _=>rfl)) aU))))) e8) (bo (dR (df gJ (pv 0) cP (de _)) (bV (cO (cI (aN (bc eK (bH (cH K rfl) (bH (dB K rfl) (pv 1) aW (λ_ _=>rfl)) aW (λ_ _=>rfl)) (bH (cH K rfl) (bH (dB K rfl) (pv 1) aW (λ_ _=>rfl)) aW (λ_ _=>rfl))) (aN (bc eK (bH (cH K rfl) (bH (dB K rfl) (pv 1) aW (λ_ _=>rfl)) aW (λ_ _=>rfl)) (bH (cH K rfl) (bH (dB K rfl) (pv 1) aW (λ_ _=>rfl)) aW (λ_ _=>rfl))) aU))))) e8) (bV (cO (cI (aN (bH (cH K rfl) (bH (dB K rfl) (pv 1) aW (λ_ _=>rfl)) aW (λ_ _=>rfl)) (aN (bH (cH K rfl) (bH (dB K rfl) (pv 1) aW (λ_ _=>rfl)) aW (λ_ _=>rfl)) aU)))))),?_⟩;have z2:2≤sizeLine:=by decide
  rcases h with⟨a,l,r,rfl,rfl,ha,q⟩|⟨a,b,l,r,l',r',rfl,rfl,ha,hb,q⟩|⟨a,b,l,m,m',r,rfl,rfl,ha,hb,q⟩
  ·refine⟨_,rfl,rfl,_,rfl,?_⟩;rw[aG rfl];exact gU ⟨_,rfl,pa,_,0,.ref a,rfl,rfl,.of hp,cm (j:=0) rfl,a,_,1,.int (r:Int),rfl,rfl,ha,cm (j:=1) rfl,_,rfl,pa,_,0,.ref a,rfl,rfl,.of hp,cm (j:=0) rfl,a,_,0,.int (l:Int),rfl,rfl,ha,cm (j:=0) rfl,z2,λt ht=>q.new ht⟩
  ·refine⟨_,rfl,rfl,_,rfl,?_⟩;rw[aa (by decide)];refine dY ⟨_,rfl,rfl,_,rfl,?_⟩;rw[aG rfl];rw[Int.natCast_add,Int.natCast_add]at q;exact gU ⟨_,rfl,pa,_,0,.ref a,rfl,rfl,.of hp,cm (j:=0) rfl,a,_,0,.int (l:Int),rfl,rfl,ha,cm (j:=0) rfl,_,rfl,pa,_,1,.ref b,rfl,rfl,.of hp,cm (j:=1) rfl,b,_,0,.int (l':Int),rfl,rfl,hb,cm (j:=0) rfl,_,_,rfl,rfl,
    _,rfl,pa,_,0,.ref a,rfl,rfl,.of hp,cm (j:=0) rfl,a,_,1,.int (r:Int),rfl,rfl,ha,cm (j:=1) rfl,_,rfl,pa,_,1,.ref b,rfl,rfl,.of hp,cm (j:=1) rfl,b,_,1,.int (r':Int),rfl,rfl,hb,cm (j:=1) rfl,_,_,rfl,rfl,z2,λt ht=>q.new ht⟩
  ·refine⟨_,rfl,rfl,_,rfl,?_⟩;rw[aa (by decide)];refine dY ⟨_,rfl,rfl,_,rfl,?_⟩;rw[aa (by decide)];exact dY ⟨_,rfl,pa,_,0,.ref a,rfl,rfl,.of hp,cm (j:=0) rfl,a,_,0,.int (l:Int),rfl,rfl,ha,cm (j:=0) rfl,_,rfl,pa,_,1,.ref b,rfl,rfl,.of hp,cm (j:=1) rfl,b,_,1,.int (r:Int),rfl,rfl,hb,cm (j:=1) rfl,z2,λt ht=>q.new ht⟩
def Gx(K:Frag):Sp:=λvs H Q _=>∃(i:Int)(x:Str)(pa:Addr)(ps:List V),vs=[.int i,.str x,.ref pa]∧H pa=some (.lst ps)∧XJ K x ps H Q
theorem XU{aS aB f fU fJ:Addr}{qu MW:FuncData}(F:cD K "measure" "measure" vz f fd)(B:mx K mg aS aB)(M:tZ K aS=true)
  (GU:bz P w K mg base bx 1 fU qu ["parts"] (MT K)) (kU:Kp K fU) (bU:Binds K qu ["parts"] []) (mU:Mg mg "first_unmet" fU)
  (GJ:bz P w K mg base bx 1 fJ MW ["word","parts"] (MV K)) (kJ:Kp K fJ) (bJ:Binds K MW ["word","parts"] []) (mJ:Mg mg "joined_sides" fJ) :
  bz P w K mg base bx 2 f fd ["place","word","parts"] (Gx K):=by
 refine F.ok Bt (λvs H Q E h=>?_) (λbZ A outer s H vs Q E hr h=>?_)
 ·obtain⟨i,x,pa,ps,rfl,_⟩:=h;rfl
 ·obtain⟨i,x,pa,ps,rfl,hp,h⟩:=h;obtain⟨⟨tt,Gy,BL⟩,eb,es,et,tl,XW,XX⟩:=MR M;refine⟨_,bo (dR (DI (Fi B.tabS (pv 1) (kY (v:=.ref _) rfl B.x5 rfl)) rfl) (bV (cO (bc (eE K rfl) (Fh B.tabS (kY (v:=.ref _) rfl B.x5 rfl) (pv 1) (λ_ _=>rfl)) (cI (aN sH aU))))) e8) (bo (cg (i:=3) Bt.nd rfl (.inl rfl) (cQ GU hr rfl mU kU bU .nil cR (aN (pv 2) aU))) (bo (dR (PW.pt (pY (df gJ (pv 1) cP (de _)) (pY (df RM (pv 3) sH (de _)) (sO (df zN (bH (cH K rfl) (bH (dB K rfl) (pv 2) aW (λ_ _=>rfl)) aW (λ_ _=>rfl)) (bH (cH K rfl) (bH (dB K rfl) (pv 2) aW (λ_ _=>rfl)) aW (λ_ _=>rfl)) (de _)))))) (bV (cg (i:=3) Bt.nd rfl (.inl rfl) (pv 0))) e8) (bV (cO (bc (eE K rfl) (cQ GJ hr rfl mJ kJ bJ .nil cR (aN (pv 1) (aN (pv 2) aU))) (cI (aN (pv 3) aU))))))),?_⟩;have z1:1≤sizeLine:=by decide
  have boxed:∀{t:Addr}{l r:Int},PyProof.Rows.KTD.datumAt x (fV K aS)=some (.ref t)→(∀H,bh K H t [.int l,.int r])→gM K H [.int l,.int r,.cE] Q→∀{u:TS}{D:Ends},D.rt=Q→bY (eP (tB (AM aS (fV K aS) (aR 1) (tC (.ref aS)))) (dI (cf (vn K) (AL aS (fV K aS) (tC (.ref aS)) (aR 1)) (eC (aX (tC .cE) bq)))) gs) u D [some (.int i),some (.str x),some (.ref pa),none] H:=λ{t l r} e ht q {u D} hD=>by
   refine⟨_,rfl,x,rfl,rfl,_,rfl,?_⟩;rw[e];refine gU ⟨_,rfl,x,_,rfl,rfl,e,z1,λt1 g1=>?_⟩;refine⟨t,t1,_,_,rfl,rfl,ht _,.of aY,(by show 2+1≤sizeLine;decide),λa' H' s' h'=>?_⟩;show D.rt _ _;rw[hD];exact q a' H' ((aO.upd g1).trans s') h'
  have Gz:PyProof.Rows.KTD.datumAt x (fV K aS)=none→∀{u:TS}{D:Ends},u D [some (.int i),some (.str x),some (.ref pa),none] H→bY (eP (tB (AM aS (fV K aS) (aR 1) (tC (.ref aS)))) (dI (cf (vn K) (AL aS (fV K aS) (tC (.ref aS)) (aR 1)) (eC (aX (tC .cE) bq)))) gs) u D [some (.int i),some (.str x),some (.ref pa),none] H:=λe {u D} h=>by
   refine⟨_,rfl,x,rfl,rfl,_,rfl,?_⟩;rw[e];exact dY h
  cases h with
  |box l r aV hx q=>
   obtain⟨⟨t,e,ht⟩,_⟩:=B.at_ hx;exact boxed e ht q rfl
  |times hx q=>
   subst hx;exact boxed Gy BL q rfl
  |dq hx q=>
   subst hx;exact boxed XW XX q rfl
  |back a l r hx vG ha q=>
   subst hx;subst vG;refine Gz eb ⟨_,rfl,pa,_,rfl,hp,by simp,λj v hv=>?_,λH1 s1=>?_⟩
   ·match j,hv with
    |0,hv=>cases hv;exact⟨a,l,r,rfl,ha⟩
    |j+1,hv=>simp at hv
   refine⟨_,rfl,rfl,_,rfl,?_⟩;rw[aa (by decide)];refine dY (dY ?_);refine⟨_,rfl,_,rfl,_,pa,_,rfl,s1 _ _ hp,.inl ⟨a,l,r,rfl,rfl,s1.bu ha,λt H2 s2 ht=>⟨_,rfl,z1,λt1 g1=>?_⟩⟩⟩;exact⟨t,t1,_,_,rfl,rfl,(aO.upd g1).bu ht,.of aY,(by show 2+1≤sizeLine;decide),λa' H' s' h'=>q a' H' ((s1.trans s2).trans ((aO.upd g1).trans s')) h'⟩
  |dD a b l r l' r' hx vG ha hb q=>
   subst hx;subst vG;refine Gz es ⟨_,rfl,pa,_,rfl,hp,by simp,λj v hv=>?_,λH1 s1=>?_⟩
   ·match j,hv with
    |0,hv=>cases hv;exact⟨a,l,r,rfl,ha⟩
    |1,hv=>cases hv;exact⟨b,l',r',rfl,hb⟩
    |j+2,hv=>simp at hv
   refine⟨_,rfl,rfl,_,rfl,?_⟩;rw[aa (by decide)];refine dY (dY ?_);refine⟨_,rfl,_,rfl,_,pa,_,rfl,s1 _ _ hp,.inr (.inl ⟨a,b,l,r,l',r',rfl,rfl,s1.bu ha,s1.bu hb,λt H2 s2 ht=>⟨_,rfl,z1,λt1 g1=>?_⟩⟩)⟩;exact⟨t,t1,_,_,rfl,rfl,(aO.upd g1).bu ht,.of aY,(by show 2+1≤sizeLine;decide),λa' H' s' h'=>q a' H' ((s1.trans s2).trans ((aO.upd g1).trans s')) h'⟩
  |bt a b l m r hx vG ha hb q=>
   subst hx;subst vG;refine Gz et ⟨_,rfl,pa,_,rfl,hp,by simp,λj v hv=>?_,λH1 s1=>?_⟩
   ·match j,hv with
    |0,hv=>cases hv;exact⟨a,l,m,rfl,ha⟩
    |1,hv=>cases hv;exact⟨b,m,r,rfl,hb⟩
    |j+2,hv=>simp at hv
   refine⟨_,rfl,rfl,_,rfl,?_⟩;rw[aG rfl];refine gU ⟨_,rfl,rfl,_,rfl,?_⟩;rw[aG rfl];refine gU ⟨_,rfl,pa,_,0,.ref a,rfl,rfl,.of (s1 _ _ hp),cm (j:=0) rfl,a,_,1,.int (m:Int),rfl,rfl,s1.bu ha,cm (j:=1) rfl,_,rfl,pa,_,1,.ref b,rfl,rfl,.of (s1 _ _ hp),cm (j:=1) rfl,b,_,0,.int (m:Int),rfl,rfl,s1.bu hb,cm (j:=0) rfl,rfl,_,rfl,xQ (λz=>absurd rfl z) (λ_=>?_)⟩;refine⟨_,rfl,_,rfl,_,pa,_,rfl,s1 _ _ hp,.inr (.inr ⟨a,b,l,m,m,r,rfl,rfl,s1.bu ha,s1.bu hb,λt H2 s2 ht=>⟨_,rfl,z1,λt1 g1=>?_⟩⟩)⟩;exact⟨t,t1,_,_,rfl,rfl,(aO.upd g1).bu ht,.of aY,(by show 2+1≤sizeLine;decide),λa' H' s' h'=>q a' H' ((s1.trans s2).trans ((aO.upd g1).trans s')) h'⟩
def Drw.dU(p:Int):Drw→Prop
 | .box x l r aV=>(x,l,r,aV)∈gB∨(x=Str.ofString "late"∧l=1∧r=1)
 | .times n=>0≤n∧n<p
 | .back d=>d.dU p
 | .dD a b=>a.dU p∧b.dU p
 | .bt a b=>a.dU p∧b.dU p∧a.aQ=b.aM
noncomputable def Drw.aL:Drw→Nat
 | .box x _ _ _=>if x=Str.ofString "late" then 1 else 0
 | .times _=>0
 | .back d=>d.aL
 | .dD a b=>a.aL+b.aL
 | .bt a b=>a.aL+b.aL
noncomputable def dW(n i:Nat):List Int:=List.replicate i 0++([1]++List.replicate (n-i-1) 0)
noncomputable def Drw.dG(p:Int)(w:Nat):Nat→Drw→LL
 |c,.box x _ _ aV=>if x=Str.ofString "late" then[[1,0]++dW (2*w) (w+c),[0,1]++dW (2*w) c]else aV.map (·++List.replicate (2*w) 0)
 |_,.times n=>[[1,n]++List.replicate (2*w) 0]
 |c,.back d=>dt p ((Drw.dG p w c d).map (jt d.aM d.aQ))
 |c,.dD a b=>dt p (oE a.aM a.aQ b.aM b.aQ (Drw.dG p w c a) (Drw.dG p w (c+a.aL) b))
 |c,.bt a b=>oG p a.aM a.aQ b.aQ (Drw.dG p w c a) (Drw.dG p w (c+a.aL) b)
theorem vU(p2:2≤p){n i:Nat}(h:i<n):Rw p n (dW n i):=by
 refine⟨?_,λx hx=>?_⟩
 ·unfold dW;rw[cq,cq,eV,eV];show i+(1+_)=n;lia
 ·unfold dW at hx;rcases(eT.mp hx)with h|h
  ·rw[wQ h];lia
  ·rcases(eT.mp h)with h|h
   ·rw[dX.mp h];lia
   ·rw[wQ h];lia
theorem BS{n:Nat}{b:List Int}(h:Rw p n a)(k:Rw p m b):Rw p (n+m) (a++b):=⟨by rw[cq,h.1,k.1],λx hx=>by
 rcases(eT.mp hx)with z|z
 ·exact h.2 x z
 ·exact k.2 x z⟩
theorem MX(p2:2≤p)(n:Nat):Rw p n (List.replicate n 0):=⟨eV,λx hx=>by rw[wQ hx];lia⟩
theorem rH:∀e∈gB,e.1≠Str.ofString "late":=by decide +kernel
theorem Drw.iU{p:Int}(pp:p∈cW){w:Nat}(hw:w≤40):∀{d:Drw}{c:Nat},d.dU p→d.sm→c+d.aL≤w→d.aM≤100∧d.aQ≤100∧(d.dG p w c).length≤400∧cz p (d.aM+d.aQ+2*w) (d.dG p w c)
 | .box x l r aV,c,h,_,hc=>by
  obtain⟨p2,_⟩:=iD p pp;rcases h with h|⟨rfl,rfl,rfl⟩
  ·have nb:=rH _ h;obtain⟨h1,h2,h3,h4⟩:=BO _ h;refine⟨gp h1 (by decide),gp h2 (by decide),?_,λq hq=>?_⟩
   ·unfold Drw.dG;rw[ah nb,bI];exact gp h3 (by decide)
   ·unfold Drw.dG at hq;rw[ah nb]at hq;obtain⟨y,hy,rfl⟩:=eA.mp hq;exact BS ⟨(h4 y hy).1,λz hz=>by have:=(h4 y hy).2 z hz;lia⟩ (MX p2 _)
  ·have hc:c+1≤w:=hc;refine⟨by show 1≤100;decide,by show 1≤100;decide,?_,λq hq=>?_⟩
   ·unfold Drw.dG;rw[ae rfl];show 2≤400;decide
   ·unfold Drw.dG at hq;rw[ae rfl]at hq;rcases(eJ.mp hq)with rfl|hq
    ·exact BS (n:=2) ⟨rfl,λz hz=>by rcases(eJ.mp hz)with rfl|hz;lia;rw[dX.mp hz];lia⟩ (vU p2 (by lia))
    ·rw[dX.mp hq];exact BS (n:=2) ⟨rfl,λz hz=>by rcases(eJ.mp hz)with rfl|hz;lia;rw[dX.mp hz];lia⟩ (vU p2 (by lia))
 | .times n,c,h,_,_=>by
  obtain⟨p2,_⟩:=iD p pp;have h:0≤n∧n<p:=h;refine⟨by show 1≤100;decide,by show 1≤100;decide,by show 1≤400;decide,λq hq=>?_⟩;rw[dX.mp hq];exact BS (n:=2) ⟨rfl,λz hz=>by rcases(eJ.mp hz)with rfl|hz;lia;rw[dX.mp hz];exact h⟩ (MX p2 _)
 | .back d,c,h,hl,hc=>by
  obtain⟨a1,a2,a3,a4⟩:=Drw.iU pp hw (d:=d) (c:=c) h hl hc;have hS:cz p (d.aQ+d.aM+2*w) ((d.dG p w c).map (jt d.aM d.aQ)):=λx hx=>by
   obtain⟨y,hy,e⟩:=eA.mp hx;rw[← e];exact F0 (a4 y hy)
  have:=vC hS
  exact⟨a2,a1,gp this (by lia),(nE pp hS).rws⟩
 | .dD a b,c,h,hl,hc=>by
  obtain⟨p2,_⟩:=iD p pp;have hc:c+(a.aL+b.aL)≤w:=hc;obtain⟨a1,a2,a3,a4⟩:=Drw.iU pp hw (d:=a) (c:=c) h.1 hl.1 (by lia);obtain⟨b1,b2,b3,b4⟩:=Drw.iU pp hw (d:=b) (c:=c+a.aL) h.2 hl.2.1 (by lia);have hS:=Gd (by lia) a4 b4;have hz:=vC hS;have h3:=hl.2.2.1;have h4:=hl.2.2.2;exact⟨h3,h4,gp hz (by lia),(nE pp hS).rws⟩
 | .bt a b,c,h,hl,hc=>by
  have hc:c+(a.aL+b.aL)≤w:=hc;obtain⟨a1,a2,a3,a4⟩:=Drw.iU pp hw (d:=a) (c:=c) h.1 hl.1 (by lia);obtain⟨b1,b2,b3,b4⟩:=Drw.iU pp hw (d:=b) (c:=c+a.aL) h.2.1 hl.2 (by lia);have b4:cz p (a.aQ+b.aQ+2*w) (b.dG p w (c+a.aL)):=by rw[h.2.2];exact b4
  have hz:=Xb pp a4 b4;exact⟨a1,b2,gp hz (by lia),Xa pp a4 b4⟩
def jC(p:Int)(w:Nat):Nat→Drw→Fn→Prop
 |c,.box x l r aV,f=>Sp p (RS ((Drw.box x l r aV).dG p w c)) f
 |c,.times n,f=>Sp p (RS ((Drw.times n).dG p w c)) f
 |c,.back d,f=>jC p w c d (bK (jY d.aQ d.aM) f)
 |c,.dD a b,f=>∃u v,jC p w c a u∧jC p w (c+a.aL) b v∧eN p (λj=>bK (i8 a.aM a.aQ b.aM b.aQ) u j+bK (i9 a.aM a.aQ b.aM) v j) f
 |c,.bt a b,f=>∃u v,jC p w c a u∧jC p w (c+a.aL) b v∧(∀j,j<a.aQ→p∣u (a.aM+j)-v j)∧eN p (λj=>bK (iz a.aM a.aQ b.aQ) u (a.aQ+j)+bK (iA a.aM a.aQ) v (a.aQ+j)) f
theorem pE{p:Int}(pp:p∈cW){w:Nat}(hw:w≤40):∀{d:Drw}{c:Nat},d.dU p→d.sm→c+d.aL≤w→∀f,Sp p (RS (d.dG p w c)) f↔jC p w c d f
 | .box x l r aV,c,_,_,_=>λf=>Iff.rfl
 | .times n,c,_,_,_=>λf=>Iff.rfl
 | .back d,c,h,hl,hc=>λf=>by
  obtain⟨_,_,_,hR⟩:=Drw.iU pp hw (d:=d) (c:=c) h hl hc;have hS:cz p (d.aQ+d.aM+2*w) ((d.dG p w c).map (jt d.aM d.aQ)):=λx hx=>by
   obtain⟨y,hy,e⟩:=eA.mp hx;rw[← e];exact F0 (hR y hy)
  show Sp p (RS (dt p _)) f↔jC p w c d _;rw[BR pp hS,XE hR,pE pp hw (d:=d) h hl hc]
 | .dD a b,c,h,hl,hc=>λf=>by
  obtain⟨p2,_⟩:=iD p pp;have hc:c+(a.aL+b.aL)≤w:=hc;have c1:c+a.aL≤w:=by lia
  have c2:c+a.aL+b.aL≤w:=by lia
  obtain⟨_,_,_,hA⟩:=Drw.iU pp hw (d:=a) (c:=c) h.1 hl.1 c1;obtain⟨_,_,_,hB⟩:=Drw.iU pp hw (d:=b) (c:=c+a.aL) h.2 hl.2.1 c2;show Sp p (RS (dt p _)) f↔∃u v,jC p w c a u∧jC p w (c+a.aL) b v∧_;rw[BR pp (Gd (by lia) hA hB),XF hA hB];constructor
  ·rintro⟨u,v,hu,hv,e⟩;exact⟨u,v,(pE pp hw h.1 hl.1 c1 u).mp hu,(pE pp hw h.2 hl.2.1 c2 v).mp hv,e⟩
  ·rintro⟨u,v,hu,hv,e⟩;exact⟨u,v,(pE pp hw h.1 hl.1 c1 u).mpr hu,(pE pp hw h.2 hl.2.1 c2 v).mpr hv,e⟩
 | .bt a b,c,h,hl,hc=>λf=>by
  obtain⟨p2,_⟩:=iD p pp;have hc:c+(a.aL+b.aL)≤w:=hc;have c1:c+a.aL≤w:=by lia
  have c2:c+a.aL+b.aL≤w:=by lia
  obtain⟨_,_,_,hA⟩:=Drw.iU pp hw (d:=a) (c:=c) h.1 hl.1 c1;obtain⟨_,_,_,hB⟩:=Drw.iU pp hw (d:=b) (c:=c+a.aL) h.2.1 hl.2 c2;have MY:cz p (a.aQ+b.aQ+2*w) (b.dG p w (c+a.aL)):=by rw[h.2.2];exact hB
  show Sp p (RS (oG p _ _ _ _ _)) f↔∃u v,jC p w c a u∧jC p w (c+a.aL) b v∧_;rw[XH pp hA MY (BF (by lia) hA MY)];constructor
  ·rintro⟨u,v,hu,hv,e⟩;exact⟨u,v,(pE pp hw h.1 hl.1 c1 u).mp hu,(pE pp hw h.2.1 hl.2 c2 v).mp hv,e⟩
  ·rintro⟨u,v,hu,hv,e⟩;exact⟨u,v,(pE pp hw h.1 hl.1 c1 u).mpr hu,(pE pp hw h.2.1 hl.2 c2 v).mpr hv,e⟩
end S21
namespace PySem.SeqAt
open MeetsSeq AutoSeq1 SeqRoads2
end PySem.SeqAt
namespace L2
open PySem PySem.Spec PyProof.Rows Bw PySem.SeqAt
end L2
namespace L2
open PySem PySem.Spec PyProof.Rows
section
variable{X:Cx}
def MZ(x:V)(H:Hp):Prop:=∃p xs,x=.ref p∧H p=some (.tup xs)
theorem XY{aK:List (Addr×Obj)}{σ:St}{H:Hp}{s:Shared}{x:V}{v:Value}(I:Inv X aK σ H s)(r:RelV x v)(h:MZ x H) :
  s.TypeIs v "tuple"∧∀a,v=.ref a→∃ob,s.heap.get? a=some ob∧ob.dict=none:=by
 obtain⟨p,xs,rfl,hp⟩:=h;cases r;obtain⟨_,its,_,o,e,c,d,n,_⟩:=(show eB X.prog X.w H s.heap p (.tup xs) from I.bQ p _ hp)
 exact⟨⟨o,e,c⟩,λa z=>by cases z;exact⟨o,e,d⟩⟩
def rJ(r:V→List V→Hp→VK→Prop)(to:TE)(t:TA):TE:=λσ H Q=>to σ H λx H1=>MZ x H1∧t σ H1 λxs H2=>r x xs H2 Q
variable{o e:Expr}{es:List Expr}{to:TE}{t:TA}{name:Str}{ji eM:Pos}{id:String}{r:V→List V→Hp→VK→Prop}
theorem BU(slot:Slot "tuple" name id)(xm:typeOf (.builtin id)=pure (.type "method_descriptor"))(hm:zX X id r)(ho:PE X o to)(ha:PA X (e::es) t)
  (tw:attributeBase o name X.env (eval o X.env)=eval o X.env:=by rfl)
  (xn:((backTo eM (starEach (e::es) X.env)).all (λx=>!x.1)&&(backToKw eM (keywordEach [] X.env)).all (λx=>x.1.isSome)
   && decide ((e::es).length+([]:List Keyword).length+(if([]:List Keyword).isEmpty then 0 else 1)<30))=true:=by rfl)
  (tD:(ji.endLine==eM.line)=true:=by rfl) (hs:starEach (e::es) X.env=(false,eval e X.env)::starEach es X.env:=by rfl) (Ec:(backTo eM (starEach es X.env)).any (·.1)=false:=by rfl) :
  PE X (.Call (.Attribute o name ji) (e::es) [] eM) (rJ r to t):=by
 intro aK s σ H Q I h;refine wpAny_Call_method_late tw xn tD rfl (bt (ho aK s σ H _ I h) λv s1 ⟨x,H1,I1,r1,ty,q1⟩=>?_);obtain⟨h1,h2⟩:=XY I1 r1 ty;refine⟨"tuple",id,PySem.F.plainAttrs_tuple,slot,xm,h1,h2,?_⟩;have hA:=ha eM aK s1 σ H1 _ I1 q1;rw[hs]at hA ⊢;refine Calls.callWith_builtin (by show(false||(backTo eM (starEach es X.env)).any (·.1))=false;rw[Ec]<;>rfl) (Calls.evalArgs_plain ?_)
 exact bt hA λus s2 ⟨vs,H2,I2,r2,q2⟩=>hm aK s2 σ H2 x vs v us Q I2 r1 r2 q2
noncomputable def BV(z:Str):Value→Bool
 | .str y _=>y==z
 |_=>false
noncomputable def mz:V→Bool
 | .str _=>true
 | .int _=>true
 |_=>false
noncomputable def cX(z:Str)(xs:List V):Nat:=xs.countP λv=>iO v (.str z)
theorem M0{z:Str}:∀{ys:List V}{us:List Value},Vals ys us→ys.all mz=true→us.countP (BV z)=cX z ys
 | [],_,.nil,_=>rfl
 |y::ys,_,.cons r rr,h=>by
  obtain⟨h1,h2⟩:=Bool.and_eq_true_iff.mp h;have ih:=M0 (z:=z) rr h2;unfold cX at ih ⊢;rw[List.countP_cons,List.countP_cons,ih];cases y with
  |str y=>obtain⟨t,rfl⟩:=r;rfl
  |int y=>obtain⟨t,rfl⟩:=r;rfl
  |_=>cases h1
theorem M1{A:Around}{s:Shared}{z:Str}{t:Tok}:∀{ys:List V}{us:List Value},Vals ys us→ys.all mz=true→∀u∈us,SeqAt.EqAt A s u (.str z t) (BV z u)
 | [],_,.nil,_,u,h=>nomatch h
 |y::ys,_,.cons r rr,h,u,hm=>by
  obtain⟨h1,h2⟩:=Bool.and_eq_true_iff.mp h;rcases(eJ.mp hm)with rfl|hm
  ·cases y with
   |str y=>obtain⟨t',rfl⟩:=r;exact SeqAt.EqAt.str_str y t' z t
   |int y=>obtain⟨t',rfl⟩:=r;exact SeqAt.EqAt.int_str y t' z t
   |_=>cases h1
  ·exact M1 rr h2 u hm
def rK:V→List V→Hp→VK→Prop:=λx xs H Q=>∃(p:Addr)(ys:List V)(z:Str),x=.ref p∧xs=[.str z]∧H p=some (.tup ys)∧ys.all mz=true∧Q (.int (cX z ys:Nat)) H
theorem BW:zX X "tuple.count" rK:=by
 intro aK s σ H x xs v us Q I rx rs h;obtain⟨p,ys,z,rfl,rfl,hp,hy,q⟩:=h;cases rx;obtain⟨u,rfl,tu,rfl⟩:=Vals.one rs;obtain⟨_,its,rv,o,e,c,d,n,hd⟩:=(show eB X.prog X.w H s.heap p (.tup ys) from I.bQ p _ hp)
 obtain⟨cls,dict,data,slots⟩:=o;cases c;cases hd;refine aF F.slot_tuple_count ⟨_,e,rfl⟩ F.entry_tuple_count (F.args_tuple_count_2 _ _) (PySem.SeqAt.tuple_countAt p its.toArray n dict slots (.str z tu) (BV z)) ⟨e,λy hm=>M1 rv hy y (by simpa using hm),?_⟩;refine⟨.int (cX z ys:Nat),H,I.tok _,⟨s.toks,?_⟩,q⟩;show Value.int ((its.toArray.toList.countP (BV z):Nat):Int) s.toks=_;rw[show its.toArray.toList=its from rfl,M0 rv hy]
end
end L2
namespace S21
open PySem L2 Bw
variable{D:Ends}{H:Hp}{L i:Nat}{aw c f fM:Addr}{fd iS:FuncData}{p:Int}{t:Itm}{ts:List Itm}{v:V}{ws:List V}{x:Str}
noncomputable def rL(n:Nat):LL:=(List.range n).map (dW n)
theorem M3(k:Nat)(x:Int):(List.replicate k [V.int x]).flatten=(List.replicate k x).map V.int:=by
 induction k with
 |zero=>rfl
 |succ k ih=>rw[oV,oV,uH,ih];rfl
def yi(K:Frag):Sp:=λvs H Q _=>∃(n:Nat)(i:Int),vs=[.int i]∧i=n∧n≤900∧∀l LS H',aO H H'→H' l=some (.lst LS)→bN K H' LS ((rL n).map cy)→Q (.ref l) H'
theorem XZ:(["place","count"]:List Str).Nodup:=by decide +kernel
theorem X0:c8 ["count"] ["count"] (bG AN):=dz rfl rfl rfl (by decide +kernel) rfl
theorem M4(F:cD K "ones" "ones" AN f fd)(T:Txt mg):bz P w K mg base bx 1 f fd ["count"] (yi K):=by
 refine F.ok X0 (λvs H Q E h=>?_) (λbZ A outer s H vs Q E hr h=>?_)
 ·obtain⟨n,i,rfl,_⟩:=h;rfl
 ·obtain⟨n,i,rfl,rfl,hn,q⟩:=h;have nI:(1000:Nat)≤sizeLine:=by decide
  refine⟨_,bV (cO (gW (N:=["place","count"]) (own:=1) (caps:=[0]) rfl (l5 rfl T.range (aN (pv 0) aU)) (show dg ["count"] (bG AN) ["place","count"] 1 [0] _ from .mk' (by decide +kernel)) (λ_ _ _ _ _=>cG (i:=0) XZ rfl (.inl rfl)) (λ_ _ _ _ _=>fj) (λ_ _ _ _ _=>bc (eE K rfl) (bc (eE K rfl) (bc (nB K rfl) (cI (aN aW aU)) (pv 0)) (cI (aN aW aU))) (bc (nB K rfl) (cI (aN aW aU)) (bc jy (bc jy (pv 1) (pv 0)) aW))))),?_⟩
  refine⟨_,rfl,(n:Int),rfl,by lia,by lia,tG (n:=n) (lo:=0) (cp:=[some (.int (n:Int))]) (λi H' zs=>bN K H' zs (((List.range i).map (dW n)).map cy)) (by lia) .nil (λi H' zs h=>by rw[gz h,bI,kH];exact cC _) ?_ ?_⟩
  ·rintro i H1 zs hi sm h;rw[nc];refine jq ⟨by decide,λt1 h1=>⟨_,rfl,t1,(i:Int),_,rfl,rfl,.of aY,by simp,by lia,by lia,(by show 1*((i:Nat):Int).toNat≤sizeLine;lia),λt2 H2 s2 gF=>?_⟩⟩;rw[Int.toNat_natCast,M3]at gF;refine⟨by decide,λt3 h3=>⟨t2,t3,_,_,rfl,rfl,(aO.upd h3).bu gF,.of aY,?_,λt4 H4 s4 vJ=>?_⟩⟩
   ·rw[bI,eV];show i+1≤sizeLine;lia
   refine⟨by decide,λt5 h5=>⟨_,rfl,_,rfl,_,_,rfl,rfl,_,_,rfl,rfl,t5,(n:Int)-(i:Int)-1,_,rfl,rfl,.of aY,by simp,by lia,by lia,(by show 1*((n:Int)-(i:Int)-1).toNat≤sizeLine;lia),λt6 H6 s6 yj=>?_⟩⟩;have e:((n:Int)-(i:Int)-1).toNat=n-i-1:=by lia
   rw[e,M3]at yj;refine⟨t4,t6,_,_,rfl,rfl,((aO.upd h5).trans s6).bu vJ,yj,?_,λt7 H7 s7 GG=>?_⟩
   ·simp only[cq,bI,eV,eW,qM];lia
   have oC:=((aO.upd h1).trans s2).trans ((aO.upd h3).trans (s4.trans ((aO.upd h5).trans (s6.trans s7))));refine⟨⟨[_],rfl,rfl⟩,sm.trans oC,?_⟩;have hu:bh K H7 t7 ((dW n i).map V.int):=by
    unfold dW;rw[← dQ,cS,cS];exact GG
   rw[sj,cS,cS];exact(h.mono oC).append (.cons (jn hu) .nil)
  ·rintro H1 zs sm h lq nJ;exact q lq zs _ (sm.trans (.upd nJ)) aY (h.mono (.upd nJ))
inductive t8(K:Frag)(p:Int)(w c:Nat)(x:Str)(ps:List V)(H:Hp)(Q:VK):Prop where
 |dq (hx:x="late") (hc:c<w) (q:∀v H',aO H H'→dF K H' v 1 1 [[1,0]++dW (2*w) (w+c),[0,1]++dW (2*w) c]→Q (.ref v) H'):t8 K p w c x ps H Q
 |box (l r:Nat) (aV:LL) (hx:(x,l,r,aV)∈gB) (q:∀v H',aO H H'→dF K H' v l r (aV.map (·++List.replicate (2*w) 0))→Q (.ref v) H'):t8 K p w c x ps H Q
 |times (n:Int) (hx:x="times") (hp:ps=[.int n]) (q:∀v H',aO H H'→dF K H' v 1 1 [[1,n]++List.replicate (2*w) 0]→Q (.ref v) H'):t8 K p w c x ps H Q
 |made (hx:x="back"∨x="beside"∨x="then") (h:qt K p x ps H Q):t8 K p w c x ps H Q
def M5(K:Frag):Sp:=λvs H Q _=>∃(p:Int)(aw pa:Addr)(ws ps:List V)(i:Nat)(x:Str),vs=[.int p,.ref aw,.int i,.ref pa]∧p∈cW∧H aw=some (.tup ws)∧ws.all mz=true∧ws[i]?=some (.str x)∧H pa=some (.lst ps)∧cX "late" ws≤40∧
 t8 K p (cX "late" ws) (cX "late" (ws.take i)) x ps H Q
abbrev M6(j:Nat):TE:=cf (rI sU λi j=>.int (i*j)) (tC (.int 2)) (aR j)
abbrev M7(i j:Int):TE:=eC (aX (tC (.int i)) (aX (tC (.int j)) bq))
def M8(K:Frag):TE:=rJ rK (gw (zU K) (aR 1) iq (fi (aR 2))) (aX (tC (.str "late")) bq)
def M9(K:Frag):TE:=e9 (yi K) [] E0 (aX (M6 5) bq)
def BX(K:Frag):TE:=eC (aX (tC (.int 1)) (aX (tC (.int 1)) (aX (eC (aX (hI K (M7 1 0) (cf (o7 K) (aR 7) (eI (aR 5) (aR 6)))) (aX (hI K (M7 0 1) (cf (o7 K) (aR 7) (aR 6))) bq))) bq)))
def BY(K:Frag):TS:=bY (cB (M8 K) (br 6)) (bY (cB (M9 K) (br 7)) (dI (BX K)))
def GH(K:Frag):TE:=hI K (aR 0) (tV K (M6 1))
def yk(K:Frag):TE:=hI K (gw (g7 K) (aR 8) iq (fi (tC (.int 2)))) (eC (aX (fI (rF K) (aX (iP (lj K (dm K 8 2)) 1 [5] (br 0) g6 (GH K)) bq)) bq))
def Na(K:Frag):TE:=e9 (Gk K) [] E0 (aX (aR 0) (aX (aR 4) (aX (aR 3) bq)))
def BZ(K:Frag)(aS:Addr):TS:=bY (cB (cf (jM K) (aR 1) (aR 2)) (br 4)) (bY (cB (rJ rK (aR 1) (aX (tC (.str "late")) bq)) (br 5)) (bY (eP (gu (cf nq (aR 4) (tC (.str "late")))) (BY K) gs) (bY (cB (Na K) (br 8)) (bY (eP (tB (AM aS (fV K aS) (aR 4) (tC (.ref aS)))) (dI (yk K)) gs) (dI (aR 8))))))
noncomputable abbrev Nb:List Str:=["p","words","place","parts","word","waiting","count","states","told"]
theorem X1:(["row","waiting"]:List Str).Nodup:=by decide +kernel
theorem vV:c8 Nb ["p","words","place","parts"] (bG AZ):=dz rfl rfl rfl (by decide +kernel) rfl
theorem X2{xs:List V}{k:Nat}(h:k≤xs.length):iY xs none (some (k:Int))=xs.take k:=by
 unfold iY;rw[HT.uV,HT.zR,List.drop_zero,Nat.sub_zero,wO h]
theorem X3{n k:Nat}(h:k<n):¬(HT.cK n 0 none=0∧HT.cK n n (some (k:Int))=n):=λz=>by
 have e:=z.2;rw[HT.uV]at e;lia
theorem X4{pa:Addr}(ja:H aw=some (.tup ws))(vW:ws.all mz=true)(hi:i<ws.length)(hw:cX "late" ws≤40)(hc:cX "late" (ws.take i)<cX "late" ws)
  (q:∀v H',aO H H'→dF K H' v 1 1 [[1,0]++dW (2*cX "late" ws) (cX "late" ws+cX "late" (ws.take i)),[0,1]++dW (2*cX "late" ws) (cX "late" (ws.take i))]→D.rt (.ref v) H') :
  BY K D [some (.int p),some (.ref aw),some (.int (i:Int)),some (.ref pa),some (.str x),some (.int (cX "late" ws:Nat)),none,none,none] H:=by
 unfold BY;refine⟨_,rfl,_,rfl,(i:Int),rfl,aw,ws,rfl,.of ja,X3 hi,λt ht=>?_⟩;rw[X2 (pR hi)];generalize cX "late" ws=w at hw hc q ⊢;have s1:=aO.upd (o:=.tup (ws.take i)) ht;refine⟨⟨t,_,rfl,aY⟩,t,_,"late",rfl,rfl,aY,?_,?_⟩
 ·exact se.mpr λv hv=>se.mp vW v (kI hv)
 generalize cX "late" (ws.take i)=c at hc q ⊢;refine⟨_,rfl,2,(w:Int),rfl,rfl,.inl ⟨by decide,by decide⟩,2*w,_,rfl,by lia,by lia,λl LS H2 s2 hl hL=>?_⟩;have len:(rL (2*w)).length=2*w:=by unfold rL;rw[bI,kH]
 have at_:∀k (hk:k<2*w),∃ra,LS[k]?=some (.ref ra)∧bh K H2 ra ((dW (2*w) k).map V.int):=λk hk=>by
  obtain⟨ra,h1,h2⟩:=bN.at hL (i:=k) (by rw[len];exact hk);refine⟨ra,h1,?_⟩;have e:(rL (2*w))[k]'(by rw[len];exact hk)=dW (2*w) k:=by unfold rL;simp
  rw[e]at h2;exact h2
 obtain⟨r1,e1,h1⟩:=at_ (w+c) (by lia);obtain⟨r2,e2,h2⟩:=at_ c (by lia);have u1:∀k,k<2*w→(dW (2*w) k).length≤80:=λk hk=>by rw[(vU (p:=2) (by decide) hk).1];lia
 have abS:(100:Nat)≤sizeLine:=by decide
 unfold BX;refine⟨by decide,λa1 g1=>?_⟩;have s3:=aO.upd (o:=.tup [.int 1,.int 0]) g1;refine⟨_,rfl,_,rfl,_,rfl,(w:Int),(c:Int),rfl,rfl,l,LS,_,.ref r1,rfl,rfl,.of (s3 _ _ hl),(by rw[show(w:Int)+c=((w+c:Nat):Int) by lia];exact cm e1),?_⟩;refine⟨a1,r1,[.int 1,.int 0],_,rfl,rfl,.of aY,s3.bu h1,?_,λt1 H4 s4 pw=>?_⟩
 ·have:=u1 (w+c) (by lia)
  rw[bI];show 2+_≤sizeLine;lia
 refine⟨by decide,λa2 g2=>?_⟩;have s5:=aO.upd (o:=.tup [.int 0,.int 1]) g2;have vI:=s3.trans (s4.trans s5);refine⟨_,rfl,_,rfl,l,LS,_,.ref r2,rfl,rfl,.of (vI _ _ hl),cm e2,?_⟩;refine⟨a2,r2,[.int 0,.int 1],_,rfl,rfl,.of aY,vI.bu h2,?_,λt2 H6 s6 gF=>?_⟩
 ·have:=u1 c (by lia)
  rw[bI];show 2+_≤sizeLine;lia
 refine⟨by show 2≤sizeLine;decide,λt3 g3=>⟨by show 3≤sizeLine;decide,λt4 g4=>?_⟩⟩;have s7:=aO.upd (o:=.tup [.ref t1,.ref t2]) g3;have s8:=aO.upd (o:=.tup [.int 1,.int 1,.ref t3]) g4;refine q t4 _ (s1.trans (s2.trans (vI.trans (s6.trans (s7.trans s8))))) ⟨t3,[.ref t1,.ref t2],.of aY,.of (s8 _ _ aY),?_⟩;have f1:bh K (upd (upd H6 t3 (.tup [.ref t1,.ref t2])) t4 (.tup [.int 1,.int 1,.ref t3])) t1 ((([1,0]:List Int)++dW (2*w) (w+c)).map V.int):=by
  rw[cS];exact(s5.trans (s6.trans (s7.trans s8))).bu pw
 have f2:bh K (upd (upd H6 t3 (.tup [.ref t1,.ref t2])) t4 (.tup [.int 1,.int 1,.ref t3])) t2 ((([0,1]:List Int)++dW (2*w) c).map V.int):=by
  rw[cS];exact(s7.trans s8).bu gF
 exact .cons (jn f1) (.cons (jn f2) .nil)
theorem Nc{R:VK}{σ:St}{a:Addr}{l r w:Nat}{aV:LL}(h8:σ[8]?=some (some (.ref a)))(h5:σ[5]?=some (some (.int (w:Int))))(hw:w≤40)(hf:dF K H a l r aV)(hz:aV.length≤400)(hl:∀x∈aV,x.length≤200)
  (q:∀v H',aO H H'→dF K H' v l r (aV.map (·++List.replicate (2*w) 0))→R (.ref v) H'):yk K σ H R:=by
 obtain⟨t,RS,g1,g2,g3⟩:=hf;have nI:(1000:Nat)≤sizeLine:=by decide
 unfold yk;refine⟨_,h8,2,rfl,a,_,rfl,g1,λa1 H1 s1 GI=>?_⟩;have GI:bh K H1 a1 [.int (l:Int),.int (r:Int)]:=GI;unfold fI;refine⟨_,h8,a,_,2,_,rfl,rfl,s1.bu g1,cm (j:=2) rfl,t,rfl,⟨_,s1.bu g2⟩,?_⟩;have eb:oi 1 [5] σ=List.replicate 1 none++[some (.int (w:Int))]:=by simp[oi,h5]
 rw[eb];refine qr (f:=(·++List.replicate (2*w) 0)) (cp:=[some (.int (w:Int))]) (s1.bu g2) (g3.mono s1) (by lia) (λrow ra H2 gY s2 du=>?_) ?_
 ·unfold GH
  have:=hl row gY
  refine jX (iT rfl du) (tU (k:=2*w) (λH3 s3 R' q'=>⟨_,rfl,2,(w:Int),rfl,rfl,.inl ⟨by decide,by decide⟩,?_⟩) (by lia)) (by rw[eV];lia);rw[show((2*w:Nat):Int)=2*(w:Int) by lia]at q';exact q'
 ·intro H2 ZS s2 hZ lz jW;refine⟨lz,_,rfl,.inl ⟨.of aY,λtz X5=>⟨by show 1≤sizeLine;decide,λa2 Nd=>?_⟩⟩⟩;have s3:=(aO.upd (o:=.lst ZS) jW).trans ((aO.upd (o:=.tup ZS) X5).trans (aO.upd (o:=.tup [.ref tz]) Nd));refine⟨a1,a2,_,_,rfl,rfl,(s2.trans s3).bu GI,.of aY,by show 2+1≤sizeLine;decide,λv H4 s4 hv=>q v H4 (s1.trans (s2.trans (s3.trans s4))) ⟨tz,ZS,hv,?_,hZ.mono (s3.trans s4)⟩⟩;exact .of (((aO.upd (o:=.tup [.ref tz]) Nd).trans s4) _ _ aY)
theorem qt.mono{ps:List V}{Q Q':VK}(h:qt K p x ps H Q)(z:∀v H',Q v H'→Q' v H'):qt K p x ps H Q':=by
 cases h with
 |old h=>
  cases h with
  |back a l r e aV hx hp hf hl hr he hz hR q=>exact .old (.back a l r e aV hx hp hf hl hr he hz hR λv H' s hv=>z _ _ (q v H' s hv))
  |times n hx hp q=>exact .old (.times n hx hp λv H' s hv=>z _ _ (q v H' s hv))
  |box l r aV hx q=>exact .old (.box l r aV hx λv H' s hv=>z _ _ (q v H' s hv))
 |dD a b l r aV l' r' cj e hx hp hf fN b1 b2 b3 b4 he z1 z2 hR fk q=>exact .dD a b l r aV l' r' cj e hx hp hf fN b1 b2 b3 b4 he z1 z2 hR fk λv H' s hv=>z _ _ (q v H' s hv)
 |bt a b l m aV r' cj e hx hp hf fN b1 b2 b4 he z1 z2 hR fk q=>exact .bt a b l m aV r' cj e hx hp hf fN b1 b2 b4 he z1 z2 hR fk λv H' s hv=>z _ _ (q v H' s hv)
theorem B0:("times":Str) ≠ "late"∧("back":Str) ≠ "late"∧("beside":Str) ≠ "late"∧("then":Str) ≠ "late":=by decide +kernel
theorem X6{aS aB:Addr}{pa:Addr}{ps:List V}(B:mx K mg aS aB)(M:tZ K aS=true)(pp:p∈cW)(ja:H aw=some (.tup ws))(vW:ws.all mz=true)(hi:ws[i]?=some (.str x))(iu:H pa=some (.lst ps))(hw:cX "late" ws≤40)
  (A:t8 K p (cX "late" ws) (cX "late" (ws.take i)) x ps H D.rt):BZ K aS D [some (.int p),some (.ref aw),some (.int (i:Int)),some (.ref pa),none,none,none,none,none] H:=by
 obtain⟨⟨tt,Gy,BL⟩,eb,es,et,_⟩:=MR M;have il:i<ws.length:=(gc.mp hi).1;unfold BZ;refine⟨_,rfl,_,rfl,aw,ws,(i:Int),.str x,rfl,rfl,.of ja,cm hi,?_⟩;refine⟨_,rfl,⟨aw,ws,rfl,ja⟩,aw,ws,"late",rfl,rfl,ja,vW,?_⟩;refine⟨_,rfl,rfl,_,rfl,?_⟩;cases A with
 |dq hx hc q=>
  subst hx;exact qp (X4 ja vW il hw hc q)
 |box l r aV hx q=>
  obtain⟨⟨t,e,ht⟩,_⟩:=B.at_ hx;refine lM (rH _ hx) ?_;refine⟨_,rfl,_,rfl,_,rfl,p,x,pa,ps,rfl,pp,iu,.old (.box _ _ _ hx λv H3 s3 hv=>?_)⟩;refine⟨_,rfl,_,rfl,rfl,_,rfl,?_⟩;rw[e];obtain⟨b1,b2,b3,b4⟩:=BO _ hx;refine gU (Nc rfl rfl hw hv (gp b3 (by decide)) (λy hy=>?_) λv' H4 s4 ym=>q v' H4 (s3.trans s4) ym);rw[(b4 y hy).1];lia
 |times n hx hp q=>
  subst hx;refine lM B0.1 ?_;refine⟨_,rfl,_,rfl,_,rfl,p,_,pa,ps,rfl,pp,iu,.old (.times n rfl hp λv H3 s3 hv=>?_)⟩;refine⟨_,rfl,_,rfl,rfl,_,rfl,?_⟩;rw[Gy];refine gU (Nc rfl rfl hw hv (by show 1≤400;decide) (λy hy=>?_) λv' H4 s4 ym=>q v' H4 (s3.trans s4) ym);rw[dX.mp hy];show 2≤200;decide
 |made hx h=>
  have nl:x ≠ "late":=by rcases hx with rfl|rfl|rfl;exact B0.2.1;exact B0.2.2.1;exact B0.2.2.2
  have ne:PyProof.Rows.KTD.datumAt x (fV K aS)=none:=by rcases hx with rfl|rfl|rfl;exact eb;exact es;exact et
  refine lM nl ?_;refine⟨_,rfl,_,rfl,_,rfl,p,_,pa,ps,rfl,pp,iu,h.mono λv H3 hv=>?_⟩;refine⟨_,rfl,_,rfl,rfl,_,rfl,?_⟩;rw[ne];exact dY ⟨_,rfl,hv⟩
theorem X7{aS aB fO:Addr}{yn:FuncData}(F:cD K "tick_form" "tick_form" AZ f fd)(T:Txt mg)(B:mx K mg aS aB)(M:tZ K aS=true)
  (GO:bz P w K mg base bx 1 fO yn ["count"] (yi K)) (kO:Kp K fO) (bO:Binds K yn ["count"] []) (mO:Mg mg "ones" fO)
  (GM:bz P w K mg base bx 6 fM iS ["p","word","parts"] (Gk K)) (kM:Kp K fM) (bM:Binds K iS ["p","word","parts"] []) (mM:Mg mg "form" fM) :
  bz P w K mg base bx 7 f fd ["p","words","place","parts"] (M5 K):=by
 refine F.ok vV (λvs H Q E h=>?_) (λbZ A outer s H vs Q E hr h=>?_)
 ·obtain⟨p,aw,pa,ws,ps,i,x,rfl,_⟩:=h;rfl
 ·obtain⟨p,aw,pa,ws,ps,i,x,rfl,pp,ja,vW,hi,iu,hw,A⟩:=h;have iR:dv 1 _:=hr.mono (by decide);refine⟨BZ K aS,?_,?_⟩
  ·unfold BZ;refine bo ?_ ?_
   ·exact cg (i:=4) (te:=cf (jM K) (aR 1) (aR 2)) vV.nd rfl (.inl rfl) (bH (cH K rfl) (pv 1) (pv 2) (λ_ _=>rfl))
   refine bo ?_ ?_
   ·exact cg (i:=5) (te:=rJ rK (aR 1) (aX (tC (.str "late")) bq)) vV.nd rfl (Or.inr rfl) (BU PySem.F.slot_tuple_count PySem.F.type_tuple_count BW (pv 1) (aN cP aU))
   refine bo ?_ ?_
   ·refine dR ?_ ?_ e8
    ·exact df gJ (pv 4) cP (de _)
    ·unfold BY;refine bo ?_ ?_
     ·unfold M8;exact cg (i:=6) (te:=rJ rK (gw (zU K) (aR 1) iq (fi (aR 2))) (aX (tC (.str "late")) bq)) vV.nd rfl (.inl rfl) (BU PySem.F.slot_tuple_count PySem.F.type_tuple_count BW (eQ (UE K rfl) (pv 1) fK (dJ (pv 2))) (aN cP aU))
     refine bo ?_ ?_
     ·exact cg (i:=7) (te:=M9 K) vV.nd rfl (.inl rfl) (cQ GO iR rfl mO kO bO .nil cR (aN (bc l6 aW (pv 5)) aU))
     refine bV ?_;refine cO (te:=BX K) ?_;unfold BX;refine cI ?_;refine aN aW ?_ ?_
     ·refine aN aW ?_ ?_
      ·refine aN ?_ aU ?_
       ·refine cI ?_;refine aN ?_ ?_ ?_
        ·refine bc (eE K rfl) ?_ ?_
         ·exact cI (aN aW (aN aW aU))
         ·exact bH (dB K rfl) (pv 7) (bc eK (pv 5) (pv 6)) (λ_ _=>rfl)
        ·refine aN ?_ aU ?_
         ·refine bc (eE K rfl) ?_ ?_
          ·exact cI (aN aW (aN aW aU))
          ·exact bH (dB K rfl) (pv 7) (pv 6) (λ_ _=>rfl)
         ·rfl
        ·rfl
       ·rfl
      ·exact vK
     ·exact vK
   refine bo ?_ ?_
   ·exact cg (i:=8) (te:=Na K) vV.nd rfl (.inl rfl) (cQ GM hr rfl mM kM bM .nil cR (aN (pv 0) (aN (pv 4) (aN (pv 3) aU))))
   refine bo ?_ ?_
   ·refine dR ?_ ?_ e8
    ·exact DI (Fi B.tabS (pv 4) (kY (v:=.ref _) rfl B.x5 rfl)) rfl
    ·refine bV ?_;refine cO (te:=yk K) ?_;unfold yk;refine bc (eE K rfl) ?_ ?_
     ·exact eQ (ft K rfl) (pv 8) fK (dJ aW)
     ·refine cI ?_;refine aN ?_ aU ?_
      ·refine iX (mi K rfl) rfl T.tuple mj ?_;refine aN ?_ aU ?_
       ·refine gW (N:=["row","waiting"]) (own:=1) (caps:=[5]) rfl ?_ ?_ ?_ ?_ ?_
        ·exact lE K rfl (bH (cH K rfl) (pv 8) aW (λ_ _=>rfl))
        ·exact(show dg Nb (bG AZ) ["row","waiting"] 1 [5] _ from .mk' (by decide +kernel))
        ·exact λ_ _ _ _ _=>cG (i:=0) X1 rfl (.inl rfl)
        ·exact λ_ _ _ _ _=>fj
        ·intro _ _ _ _ _;unfold GH;exact bc (eE K rfl) (pv 0) (bc (nB K rfl) (cI (aN aW aU)) (bc l6 aW (pv 1)))
       ·rfl
      ·rfl
   refine bV ?_;exact cO (te:=aR 8) (pv 8)
  ·exact X6 B M pp ja vW hi iu hw A
noncomputable def Itm.aL:Itm→Nat
 | .num _=>0
 | .ck d=>d.aL
def Itm.dU(p:Int):Itm→Prop
 | .num _=>True
 | .ck d=>d.dU p∧d.sm
theorem B1(z:Str)(v:V)(xs:List V):cX z (v::xs)=cX z xs+if iO v (.str z)=true then 1 else 0:=by unfold cX;rw[List.countP_cons]
theorem yo(z:Str)(xs ys:List V):cX z (xs++ys)=cX z xs+cX z ys:=by unfold cX;rw[List.countP_append]
theorem X8:∀e∈gB,iO (.str e.1) (.str "late")=false:=by decide +kernel
theorem yq:iO (.str "back") (.str "late")=false∧iO (.str "beside") (.str "late")=false∧iO (.str "then") (.str "late")=false∧iO (.str "times") (.str "late")=false∧iO (.str "late") (.str "late")=true:=by decide +kernel
theorem Nf(n:Int):iO (.int n) (.str "late")=false:=rfl
theorem t9{xs:List V}(h:iO v (.str "late")=false):cX "late" (v::xs)=cX "late" xs:=by rw[B1,h];rfl
theorem oI{p:Int}:∀{d:Drw},d.dU p→cX "late" d.bj=d.aL
 | .box x l r aV,h=>by
  rcases h with h|⟨rfl,rfl,rfl⟩
  ·show cX "late" [.str x]=if _ then 1 else 0
   rw[t9 (X8 _ h),ah (rH _ h)];rfl
  ·show cX "late" [.str "late"]=if _ then 1 else 0
   rw[B1,yq.2.2.2.2,ae rfl,ae rfl];rfl
 | .times n,_=>by
  show cX "late" [.str "times",.int n]=0;rw[t9 yq.2.2.2.1,t9 (Nf n)];rfl
 | .back d,h=>by
  show cX "late" (.str "back"::d.bj)=d.aL;rw[t9 yq.1,oI (d:=d) h]
 | .dD a b,h=>by
  show cX "late" (.str "beside"::(a.bj++b.bj))=a.aL+b.aL;rw[t9 yq.2.1,yo,oI (d:=a) h.1,oI (d:=b) h.2]
 | .bt a b,h=>by
  show cX "late" (.str "then"::(a.bj++b.bj))=a.aL+b.aL;rw[t9 yq.2.2.1,yo,oI (d:=a) h.1,oI (d:=b) h.2.1]
theorem rM:∀d:Drw,d.bj.all mz=true
 | .box ..=>rfl
 | .times _=>rfl
 | .back d=>by
  show(mz _&&d.bj.all mz)=true;rw[rM d];rfl
 | .dD a b=>by
  show(mz _&&(a.bj++b.bj).all mz)=true;rw[List.all_append,rM a,rM b];rfl
 | .bt a b=>by
  show(mz _&&(a.bj++b.bj).all mz)=true;rw[List.all_append,rM a,rM b];rfl
theorem Itm.cnt(h:t.dU p):cX "late" t.bj=t.aL:=by
 cases t with
 |num n=>exact t9 (xs:=[]) (Nf n)
 |ck d=>exact oI h.1
noncomputable def pF(ts:List Itm):Nat:=(ts.map Itm.aL).sum
theorem GK{p:Int}:∀{ts:List Itm},(∀t∈ts,t.dU p)→cX "late" (ts.flatMap Itm.bj)=pF ts
 | [],_=>rfl
 |t::ts,h=>by
  rw[List.flatMap_cons,yo,Itm.cnt (h t dj),GK (ts:=ts) λu hu=>h u (gq _ hu)];rfl
theorem Itm.Ng(h:t.dU p):∀u∈t.kids,u.dU p:=by
 cases t with
 |num n=>intro u hu;cases hu
 |ck d=>
  obtain⟨h1,h2⟩:=h;cases d with
  |box=>intro u hu;cases hu
  |times n=>intro u hu;rw[dX.mp hu];exact True.intro
  |back d=>
   intro u hu;rw[dX.mp hu];exact⟨h1,h2⟩
  |dD a b=>
   intro u hu;rcases(eJ.mp hu)with z|z
   ·rw[z];exact⟨h1.1,h2.1⟩
   ·rw[dX.mp z];exact⟨h1.2,h2.2.1⟩
  |bt a b=>
   intro u hu;rcases(eJ.mp hu)with z|z
   ·rw[z];exact⟨h1.1,h2.1⟩
   ·rw[dX.mp z];exact⟨h1.2.1,h2.2⟩
theorem B2{p:Int}:∀(i:Nat){ts:List Itm},(∀t∈ts,t.dU p)→∀t∈fb ts i,t.dU p
 |0,ts,h=>h
 |i+1,[],h=>by intro t ht;rw[Gq]at ht;cases ht
 |i+1,t::ts,h=>B2 i (ts:=t.kids++ts) λu hu=>by
  rcases(eT.mp hu)with z|z
  ·exact Itm.Ng (h t dj) u z
  ·exact h u (gq _ z)
theorem X9(h:∀t∈ts,t.dU p)(i:Nat):cX "late" ((ts.flatMap Itm.bj).take i)+pF (fb ts i)=cX "late" (ts.flatMap Itm.bj):=by
 rw[← GK (B2 i h),yf,← yo,List.take_append_drop]
def yr(K:Frag)(p:Int)(w c:Nat)(H:Hp):Itm→V→Prop
 | .num n,v=>v=.int n
 | .ck d,v=>∃a,v=.ref a∧dF K H a d.aM d.aQ (d.dG p w c)
inductive hU(K:Frag)(p:Int)(w:Nat)(H:Hp):Nat→List Itm→List V→Prop where
 |nil {c:Nat}:hU K p w H c [] []
 |cons {c:Nat} {t:Itm} {ts:List Itm} {v:V} {vs:List V} (h:yr K p w c H t v) (r:hU K p w H (c+t.aL) ts vs):hU K p w H c (t::ts) (v::vs)
section
variable{K:Frag}{p:Int}{w:Nat}{H H':Hp}
theorem yr.tup{c:Nat}{t:Itm}{v:V}(h:yr K p w c H t v)(s:eS H H'):yr K p w c H' t v:=by
 cases t with
 |num n=>exact h
 |ck d=>
  obtain⟨a,e,hf⟩:=h;exact⟨a,e,hf.tup s⟩
theorem hU.tup{c:Nat}{ts:List Itm}{vs:List V}(h:hU K p w H c ts vs)(s:eS H H'):hU K p w H' c ts vs:=by
 induction h with
 |nil=>exact .nil
 |cons h r ih=>exact .cons (h.tup s) ih
theorem hU.len{c:Nat}{vs:List V}(h:hU K p w H c ts vs):vs.length=ts.length:=by
 induction h with
 |nil=>rfl
 |cons h r ih=>rw[eW,eW,ih]
theorem hU.split:∀{ts us:List Itm}{c:Nat}{vs:List V},hU K p w H c (ts++us) vs→∃xs ys,vs=xs++ys∧hU K p w H c ts xs∧hU K p w H (c+pF ts) us ys
 | [],us,c,vs,h=>⟨[],vs,rfl,.nil,h⟩
 |t::ts,us,c,_,.cons h r=>by
  obtain⟨xs,ys,e,h1,h2⟩:=hU.split (ts:=ts) r;refine⟨_::xs,ys,by rw[e];rfl,.cons h h1,?_⟩;rw[kK]at h2;exact h2
end
theorem Itm.Ya(h:t.dU p):t.aL=(if iO t.head (.str "late")=true then 1 else 0)+pF t.kids:=by
 have e1:=Itm.cnt h;have e2:=GK (Itm.Ng h);rw[← e1,← e2,Itm.BP,B1,qL]
noncomputable def Yb(st:Stmt)(i:Nat):Expr:=match(j7 st).getD i (.Pass ⟨0,0,0,0⟩) with
 | .Assign _ (.Call _ [_,e] _ _) _=>e
 |_=>.Constant .none 0 ⟨0,0,0,0⟩
noncomputable abbrev jb:Expr:=Yb js 1
noncomputable abbrev lP:Str := "ticks"++".<locals>."++"<lambda>"
noncomputable def vX(L:Nat)(x:Str):Addr:=((cellsFrom (L+1) (bG js).names []).lookup x).getD 0
noncomputable abbrev yu(L:Nat):List (Str×Addr):=[("words",vX L "words"),("p",vX L "p")]
theorem Yc{L:Addr}{bZ:Value}:closureFor (By jb) (PyProof.Rows.envOfC "ticks" (bG js) L f bZ)=pure (yu L):=rfl
theorem GN(h:(bG js).names.lookup x=some .cell):(cellsFrom (L+1) (bG js).names []).lookup x=some (vX L x):=by
 obtain⟨c,hc⟩:=D4 (n:=L+1) h;unfold vX;rw[hc];rfl
theorem Nh{y:Str}(h:(yu L).lookup y=some c):y∈(["p","words"]:List Str):=by
 rcases(eJ.mp (oU h))with e|e
 ·cases e;exact gq _ dj
 ·rcases(eJ.mp e)with e|e
  ·cases e;exact dj
  ·cases e
theorem Ni{y:Str}(h:(yu L).lookup y=some c):(cellsFrom (L+1) (bG js).names []).lookup y=some c:=by
 have hy:=Nh h;rcases(eJ.mp hy)with rfl|hy
 ·rw[GN rfl];exact h
 ·rw[dX.mp hy]at h ⊢;rw[GN rfl];exact h
theorem Yd(Ye:∀y z c,(cellsFrom (L+1) (bG js).names []).lookup y=some c→(cellsFrom (L+1) (bG js).names []).lookup z=some c→y=z):Me ["place","word","parts"] ["p","words"] (By jb) (WY jb) (yu L):=by
 have fr:∀y∈(["p","words"]:List Str),(By jb).names.lookup y=some .free:=by decide +kernel
 have only:∀z∈(By jb).names,z.2=.free→z.1∈(["p","words"]:List Str):=by decide +kernel
 refine⟨rfl,rfl,rfl,by decide +kernel,by decide +kernel,by decide +kernel,fr,λy hy=>?_,λy z c h1 h2=>Ye y z c (Ni h1) (Ni h2),λy c h=>Nh h⟩;have hm:=only _ (oU hy) rfl;rcases(eJ.mp hm)with e|hm
 ·have e:y="p":=e;exact⟨_,by rw[e];rfl⟩
 ·have e:y="words":=dX.mp hm;exact⟨_,by rw[e];rfl⟩
noncomputable def ia(l r w:Nat)(row:List Int):List Int:=row.take l++(row.drop (l+r)).take w++(row.drop l).take r++row.drop (l+r+w)
theorem B3{l r w:Nat}{row:List Int}(h:Rw p (l+r+2*w) row):Rw p (l+r+2*w) (ia l r w row):=by
 obtain⟨h1,h2⟩:=h;refine⟨?_,λx hx=>?_⟩
 ·unfold ia;simp only[cq,da,ff];lia
 ·unfold ia at hx;rcases(eT.mp hx)with hx|hx
  ·rcases(eT.mp hx)with hx|hx
   ·rcases(eT.mp hx)with hx|hx
    ·exact h2 x (kI hx)
    ·exact h2 x (ng (kI hx))
   ·exact h2 x (ng (kI hx))
  ·exact h2 x (ng hx)
def GQ(K:Frag)(Pt:Addr):Sp:=λvs H Q _=>∃(p:Int)(aw:Addr)(d:Drw),vs=[.int p,.ref aw]∧p∈cW∧d.dU p∧d.sm∧d.bj.length≤900000∧d.aL≤40∧H aw=some (.tup d.bj)∧iH H Pt (lN jb) lP∧
 ∀v DS H',aO (del Pt H) H'→iH H' Pt (lN jb) lP→bh K H' v DS→bN K H' DS ((dt p ((d.dG p d.aL 0).map (ia d.aM d.aQ d.aL))).map cy)→Q (.ref v) H'
noncomputable abbrev GV:List Str:=["p","words","waiting","whole","left","kept","onward"]
theorem Yf:(["row","kept","left","onward"]:List Str).Nodup:=by decide +kernel
theorem vY:c8 GV ["p","words"] (bG js):=dz rfl rfl rfl (by decide +kernel) rfl
def B4(K:Frag):TE:=hI K (hI K (hI K (gw (g7 K) (aR 0) iq (fi (aR 2))) (gw (g7 K) (aR 0) (fi (aR 1)) (fi (aR 3)))) (gw (g7 K) (aR 0) (fi (aR 2)) (fi (aR 1)))) (gw (g7 K) (aR 0) (fi (aR 3)) iq)
def GY(K:Frag):TE:=e9 (qj K) [] E0 (aX (aR 0) (aX (iP (lj K (dm K 3 2)) 1 [5,4,6] (br 0) g6 (B4 K)) bq))
def Nj(K:Frag):TS:=bY (cB (dm K 3 0) (br 4)) (bY (cB (eI (aR 4) (dm K 3 1)) (br 5)) (bY (cB (eI (aR 5) (aR 2)) (br 6)) (dI (GY K))))
theorem Yg{σ:St}{ra:Addr}{row:List Int}{l r w:Nat}(h0:σ[0]?=some (some (.ref ra)))(h1:σ[1]?=some (some (.int ((l+r:Nat):Int))))(h2:σ[2]?=some (some (.int (l:Int))))(h3:σ[3]?=some (some (.int ((l+r+w:Nat):Int))))
  (hr:bh K H ra (row.map V.int)) (hl:row.length=l+r+2*w) (b:row.length≤1000):kh K (B4 K) σ H (ia l r w row):=by
 have e1:(row.take l).length≤1000:=by rw[da];lia
 have e2:((row.drop (l+r)).take w).length≤1000:=by rw[da,ff];lia
 have e3:((row.drop l).take r).length≤1000:=by rw[da,ff];lia
 have e4:(row.drop (l+r+w)).length≤1000:=by rw[ff];lia
 unfold B4;refine jX (jX (jX (i7 (iT h0 hr) ki (g8 (gP h2)) (oA (by lia))) (i7 (iT h0 hr) (g8 (gP h1)) (g8 (gP h3)) (x6 (by lia))) ?_) (i7 (iT h0 hr) (g8 (gP h2)) (g8 (gP h1)) (x6 (by lia))) ?_) (i7 (iT h0 hr) (g8 (gP h3)) ki (oB (by lia))) ?_ <;>
  (try simp only[cq])<;>lia
theorem Yh{a:Addr}{l r w:Nat}{aV:LL}(pp:p∈cW)(hf:dF K H a l r aV)(hz:aV.length≤400)(hl:l≤100)(hr:r≤100)(hw:w≤40)(hR:cz p (l+r+2*w) aV)
  (q:∀v DS H',aO H H'→bh K H' v DS→bN K H' DS ((dt p (aV.map (ia l r w))).map cy)→D.rt (.ref v) H') :
  Nj K D [some (.int p),some (.ref aw),some (.int (w:Int)),some (.ref a),none,none,none] H:=by
 obtain⟨t,RS,g1,g2,g3⟩:=hf;unfold Nj;refine iw (K:=K) (j:=0) rfl g1 rfl H (.refl _) _ ?_;refine vM (gP rfl) (iw (K:=K) (j:=1) rfl g1 rfl) H (.refl _) _ ?_;refine vM (gP rfl) (gP rfl) H (.refl _) _ ?_;refine⟨_,rfl,_,rfl,a,_,2,_,rfl,rfl,g1,cm (j:=2) rfl,t,rfl,⟨_,g2⟩,?_⟩;have c1:(l:Int)+(r:Int)=((l+r:Nat):Int):=by lia
 have c2:(l:Int)+(r:Int)+(w:Int)=((l+r+w:Nat):Int):=by lia
 rw[c2,c1];refine qr (f:=ia l r w) (cp:=[some (.int ((l+r:Nat):Int)),some (.int (l:Int)),some (.int ((l+r+w:Nat):Int))]) g2 g3 (by lia) (λrow ra H2 gY s2 du=>Yg rfl rfl rfl rfl du (hR row gY).1 (by rw[(hR row gY).1];lia)) ?_;intro H2 ZS s2 hZ lz jW;have s3:=aO.upd (o:=.lst ZS) jW;refine⟨p,lz,true,ZS,aV.map (ia l r w),l+r+2*w,rfl,pp,.of aY,hZ.mono s3,by rw[bI];lia,by lia,λx hx=>?_,λv H3 DS s4 hv hD=>q v DS H3 (s2.trans (s3.trans s4)) hv hD⟩;obtain⟨y,hy,rfl⟩:=eA.mp hx;exact B3 (hR y hy)
theorem Nk{z:Str}(h:ws[i]?=some v):cX z (ws.take (i+1))=cX z (ws.take i)+if iO v (.str z)=true then 1 else 0:=by
 rw[gH,h,yo];show _+cX z [v]=_;rw[B1];show _+(0+_)=_;rw[Nat.zero_add]
theorem Nl:lL "late"=0:=by decide +kernel
theorem Yi{Pt fF fX fD:Addr}{rm Nm gO:FuncData}(F:cD K "ticks" "ticks" js f fd)(gZ:fd.code=.ref c)(C:CodeHd base c Pt)(BB:rf mg base)
  (GF:rh P w K mg base 10 fF rm ["words","made"] (Bu 8 P w K mg base)) (kF:Kp K fF) (bF:Binds K rm ["words","made"] []) (mF:Mg mg "folded" fF)
  (GX:bz P w K mg base bx 7 fX Nm ["p","words","place","parts"] (M5 K)) (kX:Kp K fX) (bX:Binds K Nm ["p","words","place","parts"] []) (mX:Mg mg "tick_form" fX)
  (GD:bz P w K mg base bx 3 fD gO ["p","rows"] (qj K)) (kD:Kp K fD) (bD:Binds K gO ["p","rows"] []) (mD:Mg mg "reduced" fD) :
  bz P w K mg base bx 11 f fd ["p","words"] (GQ K Pt):=by
 refine F.Vw vY (λvs H Q E h=>?_) (λbZ A outer s H vs Q E Yj hr h=>?_)
 ·obtain⟨p,aw,d,rfl,_⟩:=h;rfl
 ·obtain⟨p,aw,d,rfl,pp,hd,vZ,yv,oJ,ja,Nn,q⟩:=h;have zD:bZ=.ref c:=Yj.symm.trans gZ;subst zD;have ua:dv 3 _:=hr.mono (by decide);refine⟨_,bo (cg (i:=2) (te:=rJ rK (aR 1) (aX (tC (.str "late")) bq)) vY.nd rfl (.inl rfl) (BU PySem.F.slot_tuple_count PySem.F.type_tuple_count BW (pv 1) (aN cP aU))) (bo (cg (i:=3) vY.nd rfl (.inl rfl) (AG GF hr rfl mF kF bF (aN (pv 1) (aN (Vn (c:=c) (Pt:=Pt) (cl:=yu s.heap.objs.size) rfl C BB Yc) aU)))) (bo (cg (i:=4) (te:=dm K 3 0) vY.nd rfl (Or.inr rfl) (bH (cH K rfl) (pv 3) aW (λ_ _=>rfl))) (bo (cg (i:=5) (te:=eI (aR 4) (dm K 3 1)) vY.nd rfl (Or.inr rfl) (bc eK (pv 4) (bH (cH K rfl) (pv 3) aW (λ_ _=>rfl)))) (bo (cg (i:=6) (te:=eI (aR 5) (aR 2)) vY.nd rfl (Or.inr rfl) (bc eK (pv 5) (pv 2))) (bV (cO (te:=GY K) ?ret)))))),?_⟩
  case ret=>
   unfold GY;refine cQ GD ua rfl mD kD bD .nil cR ?_;refine aN (pv 0) ?_ ?_
   ·refine aN ?_ aU ?_
    ·refine gW (N:=["row","kept","left","onward"]) (own:=1) (caps:=[5,4,6]) rfl ?_ ?_ ?_ ?_ ?_
     ·exact lE K rfl (bH (cH K rfl) (pv 3) aW (λ_ _=>rfl))
     ·exact(show dg GV (bG js) ["row","kept","left","onward"] 1 [5,4,6] _ from .mk' (by decide +kernel))
     ·exact λ_ _ _ _ _=>cG (i:=0) Yf rfl (.inl rfl)
     ·exact λ_ _ _ _ _=>fj
     ·intro _ _ _ _ _;unfold B4;refine bc (eE K rfl) ?_ ?_
      ·refine bc (eE K rfl) ?_ ?_
       ·refine bc (eE K rfl) ?_ ?_
        ·exact eQ (ft K rfl) (pv 0) fK (dJ (pv 2))
        ·exact eQ (ft K rfl) (pv 0) (dJ (pv 1)) (dJ (pv 3))
       ·exact eQ (ft K rfl) (pv 0) (dJ (pv 2)) (dJ (pv 1))
      ·exact eQ (ft K rfl) (pv 0) (dJ (pv 3)) fK
    ·rfl
   ·rfl
  obtain⟨pst,hP⟩:=Nn.tab;refine⟨_,rfl,⟨aw,_,rfl,ja⟩,aw,_,"late",rfl,rfl,ja,rM d,?_⟩;rw[oI hd];refine⟨_,rfl,Nn,λfl HL Fb Yk Yl Ym aK sI I=>?_⟩;have sL:=AD.same Yk;have Np:HL aw=some (.tup d.bj):=sL _ _ (x9 hP ja λ_ z=>nomatch z);have sG:∀(j:Nat)(y:Str)(v:V),GV[j]?=some y→([some (.int p),some (.ref aw),some (.int (d.aL:Int)),none,none,none,none]:St)[j]?=some (some v)→(bG js).names.lookup y=some .cell→∃u,RelV v u∧sI.heap.IsCell (vX s.heap.objs.size y) (some u)∧HL (vX s.heap.objs.size y)=none:=λj y v hj hv hk=>by
   obtain⟨mm,hn,hl⟩:=I.loc;obtain⟨u,r,l⟩:=hl j y v hj hv (.inr (.inl hk));rcases l with⟨iZ,_⟩|⟨_,c',jJ,sG⟩
   ·have iZ:(bG js).names.lookup y=some .local:=iZ;rw[hk]at iZ;cases iZ
   ·have sZ:(cellsFrom (s.heap.objs.size+1) (bG js).names []).lookup y=some c':=jJ;rw[GN hk]at sZ;cases sZ;exact⟨u,r,sG,I.ni _ _ jJ⟩
  have ew:([Itm.ck d]).flatMap Itm.bj=d.bj:=by simp[Itm.bj]
  have pG:∀t∈[Itm.ck d],t.dU p:=λt ht=>by rw[dX.mp ht];exact⟨hd,vZ⟩
  refine⟨aw,fl,d.bj,λvs H' Q=>∃(i:Nat)(x:Str)(pa:Addr)(ps:List V),vs=[.int i,.str x,.ref pa]∧d.bj[i]?=some (.str x)∧H' pa=some (.lst ps)∧t8 K p d.aL (cX "late" (d.bj.take i)) x ps H' Q,λi vs H=>hU K p d.aL H (cX "late" (d.bj.take i)) (fb [.ck d] i) vs.reverse,rfl,?_⟩;refine⟨.of Np,yv,?_,?_,λi vs H1 H2 h tp=>h.tup tp,λi vs H1 h=>?_,λi hi=>?_,λi n vs H1 h g=>?_,λi x vs H1 h g=>?_,?_,λtd aZ vs v H' s' h1 h2 h3=>?_⟩
  ·refine WA (k:=7) (names:=["p","words"]) (caps:=[.int p,.ref aw]) (Yd I.ok.inj) Ym (λ_ _ _ us hu=>match us,hu with | [_,_,_],_=>rfl) (λj y hj=>?_) rfl (λvs H' Q ⟨i,x,pa,ps,e,_⟩=>by rw[e];rfl) (λc' A' abT s' H' vs Q' lK i6 Yn=>?_)
   ·match j,hj with
    |0,hj=>
     have e : "p"=y:=cY hj;subst e;obtain⟨u,r,h4,h5⟩:=sG 0 "p" (.int p) rfl rfl rfl;exact⟨_,_,u,rfl,rfl,r,h4,h5⟩
    |1,hj=>
     have e : "words"=y:=cY hj;subst e;obtain⟨u,r,h4,h5⟩:=sG 1 "words" (.ref aw) rfl rfl rfl;exact⟨_,_,u,rfl,rfl,r,h4,h5⟩
    |j+2,hj=>simp at hj
   ·obtain⟨i,x,pa,ps,rfl,hi,iu,hF⟩:=Yn;refine⟨_,cQ GX lK rfl mX kX bX .nil cR (aN (pv 3) (aN (pv 4) (aN (pv 0) (aN (pv 2) aU)))),?_⟩;refine⟨_,rfl,_,rfl,_,rfl,_,rfl,p,aw,pa,d.bj,ps,i,x,rfl,pp,i6 _ _ Np,rM d,hi,iu,?_,?_⟩
    ·rw[oI hd];exact oJ
    ·rw[oI hd];exact hF
  ·show hU K p d.aL HL _ (fb [.ck d] d.bj.length) _;have e:=MB (ts:=[.ck d]);rw[ew]at e;rw[e];exact .nil
  ·have e:=h.len;have z:=MC (ts:=[.ck d]) (i:=i);rw[List.length_reverse]at e;rw[ew]at z;lia
  ·obtain⟨t,r,e1,e2,e3⟩:=vR (ts:=[.ck d]) (i:=i) (by rw[ew];exact hi);rw[ew]at e2;rw[e2];cases t with
   |num n=>exact .inr ⟨n,rfl⟩
   |ck d'=>cases d'<;>exact .inl ⟨_,rfl⟩
  ·obtain⟨t,r,e1,e2,e3⟩:=vR (ts:=[.ck d]) (i:=i) (by rw[ew];exact(gc.mp h).1);rw[ew,h]at e2;cases t with
   |num m=>
    have e2:n=m:=V.int.inj (cY e2);subst e2;have g:hU K p d.aL H1 (cX "late" (d.bj.take (i+1))) (fb [.ck d] (i+1)) vs.reverse:=g;rw[e3,Nk h]at g;show hU K p d.aL H1 _ (fb [.ck d] i) (vs++[V.int n]).reverse;rw[e1,uL];exact .cons rfl g
   |ck d'=>cases d'<;>cases e2
  ·obtain⟨t,r,e1,e2,e3⟩:=vR (ts:=[.ck d]) (i:=i) (by rw[ew];exact(gc.mp h).1);rw[ew,h]at e2;have v5:t.dU p:=B2 i pG t (by rw[e1];exact dj);have hb:=X9 pG i;rw[e1,ew,oI hd]at hb;have hb:cX "late" (d.bj.take i)+(t.aL+pF r)=d.aL:=hb;have g:hU K p d.aL H1 (cX "late" (d.bj.take (i+1))) (fb [.ck d] (i+1)) vs.reverse:=g;rw[e3,Nk h]at g;have Nq:=Itm.Ya v5;rw[← cY e2]at Nq;obtain⟨xs,ys,ev,g1,g2⟩:=g.split;rw[kK,← Nq]at g2;generalize Yo:cX "late" (d.bj.take i)=c0 at hb g1 g2 ⊢;have GZ:vs=ys.reverse++xs.reverse:=by rw[← uL,← ev,List.reverse_reverse]
   refine⟨ys.reverse,xs,GZ,?_,?_⟩
   ·have el:=g1.len;rw[el];cases t with
    |num m=>cases e2
    |ck d'=>
     cases d' with
     |box x' l' r' cj=>
      have e2:x=x':=V.str.inj (cY e2);subst e2;rcases v5.1 with z|⟨z,_⟩
      ·exact(MD _ z).symm
      ·rw[z];exact Nl.symm
     |times n=>have e2:x=_:=V.str.inj (cY e2);subst e2;exact Ms.symm
     |back d'=>have e2:x=_:=V.str.inj (cY e2);subst e2;exact Mr.symm
     |dD a b=>have e2:x=_:=V.str.inj (cY e2);subst e2;exact ME.symm
     |bt a b=>have e2:x=_:=V.str.inj (cY e2);subst e2;exact MF.symm
   ·intro pa H2 Q' tp hp hq;refine⟨i,x,pa,_,rfl,h,hp,?_⟩;rw[Yo];have g1:=g1.tup tp;have g2:=g2.tup tp;have fin:∀v H3,aO H2 H3→yr K p d.aL c0 H3 t v→Q' v H3:=λv H3 s3 hv=>hq v H3 s3 (by
     show hU K p d.aL H3 c0 (fb [.ck d] i) _;rw[e1,uL,List.reverse_reverse];exact .cons hv (g2.tup s3.tup))
    cases t with
    |num m=>cases e2
    |ck d'=>
     obtain⟨ub,c7⟩:=v5;have hb:c0+(d'.aL+pF r)=d.aL:=hb;cases d' with
     |box x' l' r' cj=>
      have e2:x=x':=V.str.inj (cY e2);subst e2;rcases ub with z|⟨z,zl,zr⟩
      ·refine .box l' r' cj z λv H3 s3 hv=>fin _ H3 s3 ⟨v,rfl,?_⟩;unfold Drw.dG;rw[ah (rH _ z)];exact hv
      ·subst z zl zr;have hb:c0+(1+pF r)=d.aL:=hb;refine .dq rfl (by lia) λv H3 s3 hv=>fin _ H3 s3 ⟨v,rfl,?_⟩;unfold Drw.dG;rw[ae rfl];exact hv
     |times n=>
      have e2:x=_:=V.str.inj (cY e2);subst e2;cases g1 with
      |cons h1 r1=>
       cases r1;have h1:_=V.int n:=h1;subst h1;exact .times n rfl rfl λv H3 s3 hv=>fin _ H3 s3 ⟨v,rfl,hv⟩
     |back d'=>
      have e2:x=_:=V.str.inj (cY e2);subst e2;have hb:c0+(d'.aL+pF r)=d.aL:=hb;have g1:hU K p d.aL H2 c0 [.ck d'] xs:=g1;cases g1 with
      |cons h1 r1=>
       cases r1;obtain⟨a,rfl,hf⟩:=h1;obtain⟨b1,b2,b3,b4⟩:=Drw.iU pp oJ (d:=d') (c:=c0) ub c7 (by lia);exact .made (.inl rfl) (.old (.back a _ _ (2*d.aL) _ rfl rfl hf b1 b2 (by lia) (by lia) b4 λv H3 s3 hv=>fin _ H3 s3 ⟨v,rfl,hv⟩))
     |dD a b=>
      have e2:x=_:=V.str.inj (cY e2);subst e2;have hb:c0+(a.aL+b.aL+pF r)=d.aL:=hb;have g1:hU K p d.aL H2 c0 [.ck a,.ck b] xs:=g1;cases g1 with
      |cons h1 r1=>
       cases r1 with
       |cons h2 r2=>
        cases r2;obtain⟨a1,rfl,hf⟩:=h1;obtain⟨a2,rfl,qv⟩:=h2;obtain⟨b1,b2,b3,b4⟩:=Drw.iU pp oJ (d:=a) (c:=c0) ub.1 c7.1 (by lia);obtain⟨c1,c2,c3,c4⟩:=Drw.iU pp oJ (d:=b) (c:=c0+a.aL) ub.2 c7.2.1 (by lia);exact .made (.inr (.inl rfl)) (.dD a1 a2 _ _ _ _ _ _ (2*d.aL) rfl rfl hf qv b1 b2 c1 c2 (by lia) b3 c3 b4 c4 λv H3 s3 hv=>fin _ H3 s3 ⟨v,rfl,hv⟩)
     |bt a b=>
      have e2:x=_:=V.str.inj (cY e2);subst e2;have hb:c0+(a.aL+b.aL+pF r)=d.aL:=hb;have g1:hU K p d.aL H2 c0 [.ck a,.ck b] xs:=g1;cases g1 with
      |cons h1 r1=>
       cases r1 with
       |cons h2 r2=>
        cases r2;obtain⟨a1,rfl,hf⟩:=h1;obtain⟨a2,rfl,qv⟩:=h2;obtain⟨b1,b2,b3,b4⟩:=Drw.iU pp oJ (d:=a) (c:=c0) ub.1 c7.1 (by lia);obtain⟨c1,c2,c3,c4⟩:=Drw.iU pp oJ (d:=b) (c:=c0+a.aL) ub.2.1 c7.2 (by lia);rw[← ub.2.2]at qv c4;exact .made (.inr (.inr rfl)) (.bt a1 a2 _ _ _ _ _ (2*d.aL) rfl rfl hf qv b1 b2 c2 (by lia) b3 c3 b4 c4 λv H3 s3 hv=>fin _ H3 s3 ⟨v,rfl,hv⟩)
  ·cases d<;>exact⟨_,rfl⟩
  ·have h3:hU K p d.aL H' 0 [.ck d] (vs++[v]).reverse:=h3;rw[uL]at h3;cases h3 with
   |cons hv r=>
    obtain⟨a,rfl,hf⟩:=hv;obtain⟨b1,b2,b3,b4⟩:=Drw.iU pp oJ (d:=d) (c:=0) hd vZ (by lia);exact⟨td,aZ,_,rfl,h1,h2,Yh pp hf b3 b1 b2 oJ b4 λv' DS mw l8 ym hD=>q v' DS mw (sL.trans (s'.trans l8)) ((Yl.mono s').mono l8) ym hD⟩
def yw(K:Frag)(H:Hp):Itm→V→Prop
 | .num n,v=>v=.int n
 | .ck d,v=>∃a,v=.ref a∧my K H a d.aM d.aQ
inductive iV(K:Frag)(H:Hp):List Itm→List V→Prop where
 |nil:iV K H [] []
 |cons {t:Itm} {ts:List Itm} {v:V} {vs:List V} (h:yw K H t v) (r:iV K H ts vs):iV K H (t::ts) (v::vs)
section
variable{K:Frag}{H H':Hp}
theorem yw.tup(h:yw K H t v)(s:eS H H'):yw K H' t v:=by
 cases t with
 |num n=>exact h
 |ck d=>
  obtain⟨a,e,hf⟩:=h;exact⟨a,e,s.bu hf⟩
theorem iV.tup{ts:List Itm}{vs:List V}(h:iV K H ts vs)(s:eS H H'):iV K H' ts vs:=by
 induction h with
 |nil=>exact .nil
 |cons h r ih=>exact .cons (h.tup s) ih
theorem iV.len{vs:List V}(h:iV K H ts vs):vs.length=ts.length:=by
 induction h with
 |nil=>rfl
 |cons h r ih=>rw[eW,eW,ih]
theorem iV.split:∀{ts us:List Itm}{vs:List V},iV K H (ts++us) vs→∃xs ys,vs=xs++ys∧iV K H ts xs∧iV K H us ys
 | [],us,vs,h=>⟨[],vs,rfl,.nil,h⟩
 |t::ts,us,_,.cons h r=>by
  obtain⟨xs,ys,e,h1,h2⟩:=iV.split (ts:=ts) r;exact⟨_::xs,ys,by rw[e];rfl,.cons h h1,h2⟩
end
def Nr(K:Frag):Sp:=λvs H Q _=>∃(p:Int)(aw:Addr)(d:Drw),vs=[.ref aw]∧d.dU p∧d.sm∧d.bj.length≤900000∧bh K H aw d.bj∧∀v H',aO H H'→my K H' v d.aM d.aQ→Q (.ref v) H'
theorem Yp{fF:Addr}{rm:FuncData}(F:cD K "measured" "measured" AV f fd)
  (GF:rh P w K mg base 4 fF rm ["words","made"] (Bu 2 P w K mg base)) (kF:Kp K fF) (bF:Binds K rm ["words","made"] []) (mF:Mg mg "folded" fF)
  (GM:bz P w K mg base bx 2 fM iS ["place","word","parts"] (Gx K)) (FM:cD K "measure" "measure" vz fM iS) (bM:Binds K iS ["place","word","parts"] []) (mM:Mg mg "measure" fM):bz P w K mg base bx 5 f fd ["words"] (Nr K):=by
 refine F.ok Mm (λvs H Q E h=>?_) (λbZ A outer s H vs Q E hr h=>?_)
 ·obtain⟨p,aw,d,rfl,_⟩:=h;rfl
 ·obtain⟨p,aw,d,rfl,hd,vZ,yv,hw,q⟩:=h;have ew:([Itm.ck d]).flatMap Itm.bj=d.bj:=by simp[Itm.bj]
  have pG:∀t∈[Itm.ck d],t.dU p:=λt ht=>by rw[dX.mp ht];exact⟨hd,vZ⟩
  refine⟨_,bV (cO (AG GF hr rfl mF kF bF (aN (pv 0) (aN (kY (v:=.ref _) rfl mM rfl) aU)))),?_⟩;refine⟨_,rfl,λaK s1 I=>⟨aw,fM,d.bj,λvs H' Q=>Gx K vs H' Q E0,λi vs H'=>iV K H' (fb [.ck d] i) vs.reverse,rfl,?_⟩⟩;refine⟨hw,yv,oq.LF GM FM bM,?_,λi vs H1 H2 h tp=>h.tup tp,λi vs H1 h=>?_,λi hi=>?_,λi n vs H1 h g=>?_,λi x vs H1 h g=>?_,?_,λtd aZ vs v H' s' h1 h2 h3=>?_⟩
  ·show iV K H (fb [.ck d] d.bj.length) _;have e:=MB (ts:=[.ck d]);rw[ew]at e;rw[e];exact .nil
  ·have e:=h.len;have z:=MC (ts:=[.ck d]) (i:=i);rw[List.length_reverse]at e;rw[ew]at z;lia
  ·obtain⟨t,r,e1,e2,e3⟩:=vR (ts:=[.ck d]) (i:=i) (by rw[ew];exact hi);rw[ew]at e2;rw[e2];cases t with
   |num n=>exact .inr ⟨n,rfl⟩
   |ck d'=>cases d'<;>exact .inl ⟨_,rfl⟩
  ·obtain⟨t,r,e1,e2,e3⟩:=vR (ts:=[.ck d]) (i:=i) (by rw[ew];exact(gc.mp h).1);rw[ew,h]at e2;cases t with
   |num m=>
    have e2:n=m:=V.int.inj (cY e2);subst e2;have g:iV K H1 (fb [.ck d] (i+1)) vs.reverse:=g;rw[e3]at g;show iV K H1 (fb [.ck d] i) (vs++[V.int n]).reverse;rw[e1,uL];exact .cons rfl g
   |ck d'=>cases d'<;>cases e2
  ·obtain⟨t,r,e1,e2,e3⟩:=vR (ts:=[.ck d]) (i:=i) (by rw[ew];exact(gc.mp h).1);rw[ew,h]at e2;have v5:t.dU p:=B2 i pG t (by rw[e1];exact dj);have g:iV K H1 (fb [.ck d] (i+1)) vs.reverse:=g;rw[e3]at g;obtain⟨xs,ys,ev,g1,g2⟩:=g.split;have GZ:vs=ys.reverse++xs.reverse:=by rw[← uL,← ev,List.reverse_reverse]
   refine⟨ys.reverse,xs,GZ,?_,?_⟩
   ·have el:=g1.len;rw[el];cases t with
    |num m=>cases e2
    |ck d'=>
     cases d' with
     |box x' l' r' cj=>
      have e2:x=x':=V.str.inj (cY e2);subst e2;rcases v5.1 with h|h
      ·exact(MD _ h).symm
      ·rw[h.1];exact Nl.symm
     |times n=>have e2:x=_:=V.str.inj (cY e2);subst e2;exact Ms.symm
     |back d'=>have e2:x=_:=V.str.inj (cY e2);subst e2;exact Mr.symm
     |dD a b=>have e2:x=_:=V.str.inj (cY e2);subst e2;exact ME.symm
     |bt a b=>have e2:x=_:=V.str.inj (cY e2);subst e2;exact MF.symm
   ·intro pa H2 Q' tp hp hq;refine⟨_,_,pa,_,rfl,hp,?_⟩;have g1:=g1.tup tp;have g2:=g2.tup tp;have fin:∀v H3,aO H2 H3→yw K H3 t (.ref v)→Q' (.ref v) H3:=λv H3 s3 hv=>hq (.ref v) H3 s3 (by
     show iV K H3 (fb [.ck d] i) _;rw[e1,uL,List.reverse_reverse];exact .cons hv (g2.tup s3.tup))
    cases t with
    |num m=>cases e2
    |ck d'=>
     obtain⟨oJ,c7⟩:=v5;cases d' with
     |box x' l' r' cj=>
      have e2:x=x':=V.str.inj (cY e2);subst e2;rcases oJ with h|⟨h1,h2,h3⟩
      ·exact .box _ _ _ h λv H3 s3 hv=>fin v H3 s3 ⟨v,rfl,hv⟩
      ·subst h2 h3;exact .dq h1 λv H3 s3 hv=>fin v H3 s3 ⟨v,rfl,hv⟩
     |times n=>
      have e2:x=_:=V.str.inj (cY e2);exact .times e2 λv H3 s3 hv=>fin v H3 s3 ⟨v,rfl,hv⟩
     |back d'=>
      have e2:x=_:=V.str.inj (cY e2);cases g1 with
      |cons h1 r1=>
       cases r1;obtain⟨a,rfl,hf⟩:=h1;exact .back a _ _ e2 rfl hf λv H3 s3 hv=>fin v H3 s3 ⟨v,rfl,hv⟩
     |dD a b=>
      have e2:x=_:=V.str.inj (cY e2);cases g1 with
      |cons h1 r1=>
       cases r1 with
       |cons h2 r2=>
        cases r2;obtain⟨a1,rfl,hf⟩:=h1;obtain⟨a2,rfl,qv⟩:=h2;exact .dD a1 a2 _ _ _ _ e2 rfl hf qv λv H3 s3 hv=>fin v H3 s3 ⟨v,rfl,hv⟩
     |bt a b=>
      have e2:x=_:=V.str.inj (cY e2);cases g1 with
      |cons h1 r1=>
       cases r1 with
       |cons h2 r2=>
        cases r2;obtain⟨a1,rfl,hf⟩:=h1;obtain⟨a2,rfl,qv⟩:=h2;rw[← oJ.2.2]at qv;exact .bt a1 a2 _ _ _ e2 rfl hf qv λv H3 s3 hv=>fin v H3 s3 ⟨v,rfl,hv⟩
  ·cases d<;>exact⟨_,rfl⟩
  ·have h3:iV K H' [.ck d] (vs++[v]).reverse:=h3;rw[uL]at h3;cases h3 with
   |cons hv r=>
    obtain⟨a,rfl,hf⟩:=hv;exact⟨td,aZ,_,rfl,h1,h2,q a H' s' hf⟩
def G0(K:Frag):Sp:=λvs H Q _=>∃(p:Int)(aw:Addr)(d:Drw),vs=[.ref aw]∧d.dU p∧d.sm∧d.bj.length≤900000∧bh K H aw d.bj∧∀v H',aO H H'→bh K H' v [.int (d.aM:Int),.int (d.aQ:Int)]→Q (.ref v) H'
theorem Yq(F:cD K "wires" "wires" AS f fd)
  (GM:bz P w K mg base bx 5 fM iS ["words"] (Nr K)) (kM:Kp K fM) (bM:Binds K iS ["words"] []) (mM:Mg mg "measured" fM):bz P w K mg base bx 6 f fd ["words"] (G0 K):=by
 refine F.ok Mn (λvs H Q E h=>?_) (λbZ A outer s H vs Q E hr h=>?_)
 ·obtain⟨p,aw,d,rfl,_⟩:=h;rfl
 ·obtain⟨p,aw,d,rfl,hd,vZ,yv,hw,q⟩:=h;refine⟨_,bV (cO (eQ (ft K rfl) (cQ GM hr rfl mM kM bM .nil cR (aN (pv 0) aU)) fK (dJ aW))),?_⟩;refine⟨_,rfl,p,aw,d,rfl,hd,vZ,yv,hw,λv H1 s1 hv=>?_⟩;exact⟨_,rfl,v,_,rfl,hv,λt H2 s2 ht=>q t H2 (s1.trans s2) ht⟩
end S21
namespace L2
open PySem PySem.Spec PyProof.Rows
noncomputable def Nt(b:Bool)(K:Frag)(a:Addr):It:=match b with
 |true=>nY K a
 |false=>sR K a
def Yr(b:Bool)(K:Frag)(tl:TE):TI:=λσ H R=>tl σ H λx H1=>∃a,x=.ref a∧(∃xs,Sq b K H1 a xs)∧R (Nt b K a) H1
theorem Nu{X:Cx}(K:Frag)(hK:X.K=K)(b:Bool){tg l:Expr}{tl:TE}(hl:PE X l tl):PI X tg l (Yr b K tl):=by
 cases b with
 |true=>exact jo K hK hl
 |false=>exact lE K hK hl
theorem Nv{b:Bool}{K:Frag}{H1:Hp}{a:Addr}{xs:List V}{tt:TT}{te:TE}{Q:VK}{cp:St}(Pv:Nat→Hp→List V→Prop)(hq:Sq b K H1 a xs)(hz:xs.length≤sizeLine)(h0:Pv 0 H1 [])(cJ:∀i H zs,Pv i H zs→zs.length≤i)
  (step:∀i x H zs,xs[i]?=some x→aO H1 H→Pv i H zs→tt (some x::cp) H λc H4=>if c=true then te (some x::cp) H4 λv H5=>lD 1 cp H1 (Pv (i+1)) (some x::cp) H5 (zs++[v])else lD 1 cp H1 (Pv (i+1)) (some x::cp) H4 zs)
  (done:∀H zs,aO H1 H→Pv xs.length H zs→∀p,H p=none→Q (.ref p) (upd H p (.lst zs))) :
  ∃W:Nat→Nat→St→Hp→List V→Prop,(∃m,W 0 m (List.replicate 1 none++cp) H1 [])∧jO (Nt b K a) (br 0) tt te Q W:=by
 cases b with
 |true=>exact qd Pv hq hz h0 cJ step done
 |false=>exact vm Pv hq hz h0 cJ step done
end L2
namespace S21
open PySem L2 Bw
theorem Ys:(["place","rows"]:List Str).Nodup:=by decide +kernel
theorem Yt:(["row","place"]:List Str).Nodup:=by decide +kernel
theorem Nw{r:List Int}{j:Nat}(h:j<r.length):(r.map V.int)[j]?=some (.int (r.getD j 0)):=by
 rw[eU,cL,cM h];rfl
def G1(K:Frag):Sp:=λvs H Q _=>∃(b:Bool)(a:Addr)(RS:List V)(rs:LL)(h:Nat)(i:Int),vs=[.ref a,.int i]∧i=h∧Sq b K H a RS∧bN K H RS (rs.map cy)∧rs.length≤1000∧h≤1000∧(∀r∈rs,r.length=h)∧
 ∀t H' DS,aO H H'→bh K H' t DS→bN K H' DS (((List.range h).map λi=>rs.map λr=>r.getD i 0).map cy)→Q (.ref t) H'
theorem Yu:c8 ["rows","length"] ["rows","length"] (bG AO):=dz rfl rfl rfl (by decide +kernel) rfl
theorem Yv{f:Addr}{fd:FuncData}(F:cD K "columns" "columns" AO f fd)(T:Txt mg):bz P w K mg base bx 1 f fd ["rows","length"] (G1 K):=by
 refine F.ok Yu (λvs H Q E h=>?_) (λbZ A outer s H vs Q E hr h=>?_)
 ·obtain⟨b,a,RS,rs,h,i,rfl,_⟩:=h;rfl
 ·obtain⟨b,a,RS,rs,hh,i,rfl,rfl,hq,hA,hz,hn,hl,k⟩:=h;have nI:(1000:Nat)≤sizeLine:=by decide
  have eR:RS.length=rs.length:=by rw[hA.length,bI]
  refine⟨_,bV (cO (iX (mi K rfl) rfl T.tuple mj (aN (gW (N:=["place","rows"]) (own:=1) (caps:=[0]) rfl (l5 rfl T.range (aN (pv 1) aU)) (show dg ["rows","length"] (bG AO) ["place","rows"] 1 [0] _ from .mk' (by decide +kernel)) (λ_ _ _ _ _=>cG (i:=0) Ys rfl (Or.inr rfl)) (λ_ _ _ _ _=>fj) (λ_ _ _ _ _=>iX (mi K rfl) rfl T.tuple mj (aN (gW (N:=["row","place"]) (own:=1) (caps:=[0]) rfl (Nu K rfl b (pv 1)) (show dg ["place","rows"] _ ["row","place"] 1 [0] _ from .mk' (by kernel_rfl)) (λ_ _ _ _ _=>cG (i:=0) Yt rfl (.inl rfl)) (λ_ _ _ _ _=>fj) (λ_ _ _ _ _=>bH (cH K rfl) (pv 0) (pv 1) (λ_ _=>rfl))) aU))) aU))),?_⟩
  refine⟨_,rfl,(hh:Int),rfl,by lia,by lia,tG (n:=hh) (lo:=0) (cp:=[some (.ref a)]) (λi H' zs=>bN K H' zs (((List.range i).map λi=>rs.map λr=>r.getD i 0).map cy)) (by lia) .nil (λi H' zs h=>by rw[h.length,bI,bI,kH];exact cC _) ?_ ?_⟩
  ·rintro i H1 zs hi sm h;rw[nc];refine jq ⟨_,rfl,a,rfl,⟨_,sm.sq (b:=b) hq⟩,Nv (b:=b) (xs:=RS) (cp:=[some (.int (i:Int))]) (λk H' zs=>zs=((rs.map λr=>r.getD i 0).take k).map V.int) (sm.sq (b:=b) hq) (by lia) rfl (λk H' zs e=>by rw[e,bI];exact si _ _) ?_ ?_⟩
   ·rintro k' v H2 xw hv ot rfl;obtain⟨r,ra,jV,rfl,du⟩:=ox hA hv;have tN:=hl r (gT jV);refine jq ⟨_,rfl,_,rfl,ra,_,(i:Int),_,rfl,rfl,(sm.trans ot).bu du,cm (Nw (by rw[tN];exact hi)),⟨[_],rfl,rfl⟩,ot,?_⟩;rw[gH,eU,jV,cS];rfl
   ·rintro H2 xw ot rfl lq nJ;rw[mZ (by rw[bI,eR];exact cC _)];refine⟨lq,_,rfl,.inl ⟨.of aY,λt ht=>?_⟩⟩;have oC:=ot.trans ((aO.upd nJ (o:=.lst ((rs.map λr=>r.getD i 0).map V.int))).trans (aO.upd ht (o:=.tup ((rs.map λr=>r.getD i 0).map V.int))));refine⟨⟨[_],rfl,rfl⟩,sm.trans oC,?_⟩;rw[sj,cS,cS];exact(h.mono oC).append (.cons (jn (.of aY)) .nil)
  ·rintro H1 zs sm h lq nJ;exact⟨lq,_,rfl,.inl ⟨.of aY,λt ht=>k t _ zs ((sm.trans (.upd nJ)).trans (.upd ht)) (.of aY) (h.mono ((aO.upd nJ).trans (.upd ht)))⟩⟩
end S21
namespace L2
open PySem PySem.Spec PyProof.Rows
variable{C ea:Addr}{H:Hp}{M:Model}{X:Cx}{b:Bool}{h:Heap}{s:Shared}
theorem eB.obj{P:Program}{w:World}{a:Addr}{o:HO}(x:eB P w H h a o):∃u,h.get? a=some u:=by
 cases o with
 |lst xs=>exact let ⟨_,_,_,_,e⟩:=x;⟨_,e⟩
 |tup xs=>exact let ⟨_,_,_,u,e,_⟩:=x;⟨u,e⟩
 |dK aZ=>exact let ⟨_,_,_,_,u,_,_,e,_⟩:=x;⟨u,e⟩
 |dT aZ=>exact let ⟨_,_,_,_,u,_,_,e,_⟩:=x;⟨u,e⟩
 |set S n=>exact let ⟨u,_,_,_,e,_⟩:=x;⟨u,e⟩
 |ins C dx fs=>exact let ⟨_,_,_,e,_⟩:=x;⟨_,e⟩
 |own y=>exact x
 |xd fs=>exact let ⟨_,⟨u,_,_,e,_⟩,_⟩:=x;⟨u,e⟩
 |zw lo hi=>exact let ⟨_,_,_,e⟩:=x;⟨_,e⟩
 |jg ob u=>exact⟨_,x.1⟩
 |fg ps=>exact⟨_,x⟩
 |met f y=>exact⟨_,x⟩
 |ext φ=>exact x.2.1
noncomputable def pH(C a:Addr):HO:=.ext λh=>∃o,h.get? a=some o∧o.cls=.ref C
inductive uc(P:Program)(w:World)(C:Addr)(outer:List Env)(H:Hp)(s:Shared)(E:XK)(e:Value)(s':Shared):Prop where
 |mk (ea:Addr) (B:Heap) (a0:Value) (H':Hp) (q0:e=.ref ea) (q1:s'.os=s.os) (q2:AllBare s'.gens) (q3:Un (fq outer) [] H H' s.heap s'.heap) (q4:dy P w H' s'.heap)
   (q5:Heap.FlyingW B outer ea (.ref C) a0 s'.heap) (q6:∀b u,H' b=some u→∃o,B.get? b=some o)
   (q7:∀b o,s.heap.get? b=some o→b ∉ fq outer→∃o',B.get? b=some o'∧(H b=none→o'=o)) (q8:E (.ref C) none H'):uc P w C outer H s E e s'
section
variable{P:Program}{w:World}{fs Dx:List Addr}{H H1:Hp}{h h1 h2 B:Heap}
theorem Un.jc(u:Un Dx [] H H1 h h1)(k:B.StaysIn h2)(q7:∀b o,h.get? b=some o→b ∉ fs→∃o',B.get? b=some o'∧(H b=none→o'=o))
  (sl:∀b o,b∈fs→h.get? b=some o→∃z,h2.get? b=some { o with slots:=z }):Un fs [] H H1 h h2 where
 keep:=λb o q n hb _=>let ⟨o',e,z⟩:=q7 b o q hb;k b o (z n▸e)
 slot:=λb o q _ hb _=>sl b o hb q
 free:=u.free
 there:=λb o q _=>by
  by_cases hb:b∈fs
  ·exact let ⟨_,e⟩:=sl b o hb q;⟨_,e⟩
  ·exact let ⟨o',e,_⟩:=q7 b o q hb;⟨o',k b o' e⟩
 j5:=u.j5
 jI:=u.jI
 j6:=u.j6
theorem dy.jc(x:dy P w H h1)(q6:∀b u,H b=some u→∃o,B.get? b=some o)(k1:B.StaysIn h1)(k2:B.StaysIn h2):dy P w H h2:=λa o e=>
 (x a o e).nh (λb u hb q=>by
  have t:∃v,B.get? b=some v:=by
   rcases hb with rfl|hb
   ·exact q6 _ _ e
   ·exact q6 _ _ hb
  obtain⟨v,hv⟩:=t;have z:=k1 b v hv;rw[q]at z;cases z;exact k2 b _ hv) (λ_ q=>q) λ_ _ q=>q
end
theorem Yw{l:List Env}:∀env∈l,∀a,env.frame=some a→a∈fq l:=λenv he a ha=>List.mem_filterMap.mpr ⟨env,he,ha⟩
section
variable{P:Program}{w:World}{K:Frag}{mg:Str→Option Value}{base:Heap}{N:List Str}{qual:Str}{scope:Scope}{f C:Addr}{cd:Value}{A:Around}{outer:List Env}{s:Shared}{H:Hp}{E:XK}
theorem Yx{aK:List (Addr×Obj)}{σ:St}{H1:Hp}{s1:Shared}{h':Heap}{us:List Value}(I:Inv (jL (uc P w C) P w K mg base N qual scope f cd A outer s H E) aK σ H1 s1)
  (hx:Heap.MadeExcOf s1.heap h' ea (.ref C) us) (hE:E (.ref C) none H1):(jL (uc P w C) P w K mg base N qual scope f cd A outer s H E).xe (.ref ea) { s1 with heap:=h' }:=by
 have qN:=I.stack;have G2:=I.zA;have B5:Un (fq outer) [] H H1 s.heap s1.heap:=I.base;have Yy:s1.heap.FunFrames base outer:=I.lY;have Nx:dy P w H1 s1.heap:=I.bQ;have Yz:s1.os=s.os:=I.os;have G3:(A.deeper (envOfC qual scope s.heap.objs.size f cd)).frames=some (envOfC qual scope s.heap.objs.size f cd::outer):=I.ok.frames;have bare:=I.bare;replace qN:s1.heap.FunFrames base (envOfC qual scope s.heap.objs.size f cd::outer):=qN;replace G2:∀b∈fq (envOfC qual scope s.heap.objs.size f cd::outer),H1 b=none:=G2;have jS:∀b,b∈fq (envOfC qual scope s.heap.objs.size f cd::outer)→b=s.heap.objs.size∨b∈fq outer:=λb hb=>eJ.mp hb;refine wpAny_leaves_madeW (base:=PySem.W.hideAll s1.heap (fq (envOfC qual scope s.heap.objs.size f cd::outer))) (h:=s1.heap) G3 rfl (λb o q=>PySem.W.of_hideAll _ q) (PySem.W.funFrames_hide qN Yw) hx λh2 t jc _ _ up=>?_;have q7:∀b o,s.heap.get? b=some o→b ∉ fq outer→∃o',(PySem.W.hideAll s1.heap (fq (envOfC qual scope s.heap.objs.size f cd::outer))).get? b=some o'∧(H b=none→o'=o):=λb o q hb=>by
  obtain⟨o1,e1⟩:=B5.there b o q (by simp);refine⟨o1,PySem.W.hideAll_get _ e1 λz=>(jS b z).elim (ib (dO q)) hb,λn=>?_⟩;have e2:=B5.keep b o q n hb (by simp);rw[e1]at e2;exact cY e2
 have q6:∀b u,H1 b=some u→∃o,(PySem.W.hideAll s1.heap (fq (envOfC qual scope s.heap.objs.size f cd::outer))).get? b=some o:=λb u e=>by
  obtain⟨o,q⟩:=(Nx b u e).obj;exact⟨o,PySem.W.hideAll_get _ q λz=>by rw[G2 b z]at e;cases e⟩
 refine⟨ea,_,_,H1,rfl,Yz,bare,Un.jc B5 jc.1 q7 (λb o hb q=>?_),dy.jc Nx q6 (λb o q=>PySem.W.of_hideAll _ q) jc.1,jc,q6,q7,hE⟩;obtain⟨_,o2,sY,nf⟩:=Yy.mem hb;obtain⟨z,e1⟩:=B5.any q (by
  have:=I.ok.qO b hb
  exact this) (by simp)
 rw[sY]at e1;cases e1;obtain⟨z2,e3⟩:=up b _ (hx.keeps b _ sY) nf;exact⟨z2,e3⟩
end
section
variable{P:Program}{w:World}{K:Frag}{mg:Str→Option Value}{base:Heap}
theorem cD.YA{CX:n9}{x qual:Str}{st:Stmt}{f:Addr}{fd:FuncData}{N ps:List Str}{k:Nat}{sp:Sp}(F:cD K x qual st f fd)(S:c8 N ps (bG st))(len:∀vs H Q E,sp vs H Q E→vs.length=ps.length)
  (hb:∀(bZ:Value)(A:Around)(outer:List Env)(s:Shared)(H:Hp)(vs:List V)(Q:VK)(E:XK),dv k (A.deeper (envOfC qual (bG st) s.heap.objs.size f bZ))→sp vs H Q E→
   ∃t,jh (jL CX P w K mg base N qual (bG st) f bZ A outer s H E) (j7 st) t∧t { nx:=λ_ H'=>Q .cE H',rt:=Q } (start N vs) H):bz P w K mg base CX (k+1) f fd ps sp:=by
 obtain⟨oc,od,kV,doc,pm,an,bZ,ct,ma,rfl,lk,gZ⟩:=F.ex;exact D6 lk gZ S len λA outer s H vs Q E hr jj=>hb bZ A outer s H vs Q E hr jj
end
theorem YB{K:Frag}{yy:List Value}{newId:String}(X:K.In h)(q:PySem.W.excIn K C yy newId=true) :
  ∃bm N nm q bs hdct sn sub ab col dd k0 k1 k2 k3 k5 mN,h.get? C=some (excClassObj nm q C N bs bm hdct sn sub ab col dd k0 k1 k2 k3 k5 newId)∧h.Ns N mN∧mN "__init__"=none∧OwnTail h yy bm:=by
 unfold PySem.W.excIn at q;split at q
 case h_2=>exact nomatch q
 case h_1 dd cd sl ho=>
  split at q
  case h_2=>exact nomatch q
  case h_1 C' bm k0 k1 k2 k3 n k5 hm hs=>
   rw[fo,fo,fo,fo,fo]at q;obtain⟨⟨⟨⟨⟨e1,e2⟩,e3⟩,e4⟩,e5⟩,e6⟩:=q;have e1:C'=C:=beq_iff_eq.mp e1;have e2:n=newId:=beq_iff_eq.mp e2;have e3:cd.hasDel=false:=by simpa using e3
   have e6:=beq_iff_eq.mp e6;subst e1 e2;obtain⟨nm,bs,mr,ns,qn,hd,sn,sub,ab,col,dl⟩:=cd;have hm:mr=.ref C'::bm:=hm;have e3:dl=false:=e3;have es:sl=#[k0,k1,k2,k3,some (.builtin n),k5]:=Array.toList_inj.mp hs;subst hm e3 es;exact⟨bm,ns,nm,qn,bs,hd,sn,sub,ab,col,dd,k0,k1,k2,k3,k5,_,X _ _ ho,.of_isNs (PySem.W.isNs_of_in X e5),PySem.W.nsMap_none_of_in X e5 e6,PySem.W.tail_of_in X e4⟩
section
variable{X:Cx}{x:Str}{np eM pos:Pos}{C:Addr}{yy:List Value}{B newId YC:String}{e₀:Expr}{dE:List Expr}{t:TA}{E:XK}
theorem YD(hc:X.calm=true)(hg:Gl X x)(YE:X.mg x=some (.ref C))(jS:PySem.W.excIn X.K C yy newId=true)(FB:ExcBaseFacts B newId YC yy)(ha:PA X (e₀::dE) t)
  (hE:∀{aK:List (Addr×Obj)}{σ:St}{H:Hp}{s:Shared}{h':Heap}{ea:Addr}{us:List Value},Inv X aK σ H s→Heap.MadeExcOf s.heap h' ea (.ref C) us→E (.ref C) none H→X.xe (.ref ea) { s with heap:=h' })
  (hd:(x==("__debug__":Str))=false:=by decide) (he:starEach (e₀::dE) X.env=(false,eval e₀ X.env)::starEach dE X.env:=by rfl) (iN:(backTo eM (starEach dE X.env)).any (·.1)=false:=by rfl) :
  PS X (.Raise (some (.Call (.Name x np) (e₀::dE) [] eM)) none pos) (λ_ σ H=>t σ H λvs H1=>vs.length≤sizeLine∧E (.ref C) none H1):=by
 intro aK s σ H D I h;obtain⟨bm,N,nm,q,bs,hdct,sn,sub,ab,col,dd,k0,k1,k2,k3,k5,mN,hC,hN,YF,T⟩:=YB I.ok.mod.pV jS;have hh:=I.ok.hd hc;have YG:(backTo eM (starEach (e₀::dE) X.env)).any (·.1)=false:=by rw[he];exact iN
 refine wpAny_Raise_call_subT (nm:=nm) (q:=q) (C:=C) (N:=N) (bs:=bs) (bm:=bm) (hdct:=hdct) (sn:=sn) (sub:=sub) (ab:=ab) (col:=col) (dd:=dd) (k0:=k0) (k1:=k1) (k2:=k2) (k3:=k3) (k5:=k5) (mN:=mN) FB (T.hasType FB.hasBase) hh YG YF ?_;refine xa I hg YE ⟨rfl,?_⟩ hd;have iu:=ha eM aK s σ H _ I h;rw[he]at iu ⊢;exact Calls.evalArgs_plain (bt iu λus s1 ⟨vs,H1,I1,r,z,q1⟩=>⟨rfl,r.length▸z,I1.bk _ _ hC,hN.keeps I1.bk,T.keeps I1.bk,λh' e hm=>hE I1 hm q1⟩)
end
theorem Inv.YH{aK:List (Addr×Obj)}{σ:St}{h':Heap}{n:Str}{i tk:Nat}{m:Str→Option Value}{v:Option Value}(I:Inv X aK σ H s)(hN:X.N.Nodup)(hi:X.N[i]?=some n)
  (hm:∀(j:Nat)(x:Str)(v:V),X.N[j]?=some x→σ[j]?=some (some v)→uP X.env.scope x→∃u,RelV v u∧Look X.env s.heap m x u)
  (hn:s.heap.Ns X.env.locals m) (DF:h'.Ns X.env.locals (λx=>if x=n then v else m x)) (hs:Heap.SameBut X.env.locals s.heap h'):Inv X aK (σ.set i none) H { s with heap:=h',toks:=tk }:=by
 obtain⟨oL,_,_,IZ,_⟩:=id hn;have G4:∀b o,X.s₀.heap.get? b=some o→b≠X.env.locals:=λb o e=>ib (iJ (dO e) I.ok.above);refine⟨I.ok,I.os,I.bare,⟨λb o e n hb hx=>?_,λb o e n hb hx=>?_,I.base.free,λb o e hx=>?_,I.base.j5,I.base.jI,I.base.j6⟩,⟨_,DF,λj y v' e1 e2 e3=>?_⟩,λy c e=>?_,I.free,I.ni,λp hp=>?_,?_,by simpa using I.len⟩
 ·exact(hs.2 b (G4 b o e)).trans (I.base.keep b o e n hb hx)
 ·exact let ⟨sl,z⟩:=I.base.slot b o e n hb hx;⟨sl,(hs.2 b (G4 b o e)).trans z⟩
 ·exact let ⟨o',z⟩:=I.base.there b o e hx;⟨o',(hs.2 b (G4 b o e)).trans z⟩
 ·by_cases hj:j=i
  ·subst hj;rw[List.getElem?_set]at e2;rw[ae rfl]at e2;split at e2<;>cases e2
  ·rw[List.getElem?_set_ne (Ne.symm hj)]at e2;obtain⟨u,r,q⟩:=hm j y v' e1 e2 e3;refine⟨u,r,?_⟩;rcases q with⟨k,e⟩|⟨k,c,e,z⟩
   ·have YI:y≠n:=λz=>hj (DD hN e1 (z▸hi));exact .inl ⟨k,by show(if y=n then v else m y)=some u;rw[ah YI];exact e⟩
   ·exact .inr ⟨k,c,e,z.sameBut hs (I.pX y c e)⟩
 ·exact let ⟨w,z⟩:=I.cell y c e;⟨w,z.sameBut hs (I.pX y c e)⟩
 ·exact let ⟨e,n,ne,r⟩:=I.pin p hp;⟨(hs.2 p.1 ne).trans e,n,ne,r⟩
 ·intro b ob e;have nl:∀c,H c≠none→c≠X.env.locals:=λc z q=>z (q▸I.free);refine(I.bQ b ob e).nh (λc u hc q=>(hs.2 c (nl c ?_)).trans q) (λ_ q=>q) λ_ _ q=>q;rcases hc with rfl|hc
  ·rw[e];exact λz=>nomatch z
  ·rw[hc];exact λz=>nomatch z
open PySem.W (Looks)
open PySem.Builtin PySem.Builtin.ObjectAttr PySem.Builtin.Getset_descriptor
theorem YJ{P:Program}{w:World}{o:Obj}(x:dy P w H h)(hn:H ea=none)(e:h.get? ea=some o)(c:o.cls=.ref C):dy P w (upd H ea (pH C ea)) h:=λb u q=>by
 by_cases hb:b=ea
 ·subst hb;rw[aY]at q;cases q;exact⟨⟨o,e,c⟩,⟨o,e⟩,λh1 h2 ⟨o1,z1,z2⟩ k=>⟨o1,k o1 z1,z2⟩⟩
 ·rw[cF hb]at q;exact(x b u q).nh (λ_ _ _ z=>z) (λc z=>by rw[cF (eO z hn)];exact z) λc xs z=>by rw[cF (eO z hn)];exact z
theorem Un.more{fs:List Addr}{H1:Hp}{h1:Heap}{u:HO}(x:Un fs [] H H1 h h1)(hn:H1 ea=none)(dM:∀b o,h.get? b=some o→H b=none→b≠ea):Un fs [] H (upd H1 ea u) h h1 where
 keep:=x.keep
 slot:=x.slot
 free:=λb o q n z=>by rw[cF (dM b o q n)];exact x.free b o q n z
 there:=x.there
 j5:=λb xs q=>by rw[cF (eO (x.j5 b xs q) hn)];exact x.j5 b xs q
 jI:=λb o xs q=>by rw[cF (eO (x.jI b o xs q) hn)];exact x.jI b o xs q
 j6:=λb ps q=>let ⟨m,z⟩:=x.j6 b ps q;⟨m,by rw[cF (eO z hn)];exact z⟩
section
variable{X:Cx}{C W ea:Addr}{aK:List (Addr×Obj)}{σ:St}{H1 H':Hp}{s1 s':Shared}{B:Heap}{a0:Value}
theorem Inv.Ny{h2:Heap}{tk:Nat}(I:Inv X aK σ H1 s1)(os:s'.os=s1.os)(bare:AllBare s'.gens)(un:Un (fq X.stack) [] H1 H' s1.heap s'.heap)(bQ:dy X.prog X.w H' s'.heap)(jc:Heap.FlyingW B X.stack ea (.ref C) a0 s'.heap)
  (q6:∀b u,H' b=some u→∃o,B.get? b=some o) (q7:∀b o,s1.heap.get? b=some o→b ∉ fq X.stack→∃o',B.get? b=some o'∧(H1 b=none→o'=o))
  (G5:Heap.FlyingW B X.stack ea (.ref C) a0 h2) (up:s'.heap.UpToSlots h2):H' ea=none∧Inv X aK σ H' { s' with heap:=h2,toks:=tk }∧Inv X aK σ (upd H' ea (pH C ea)) { s' with heap:=h2,toks:=tk }:=by
 have hB:B.get? ea=none:=jc.2.1;have hn:H' ea=none:=by
  cases e:H' ea with
  |none=>rfl
  |some u=>
   obtain⟨o,z⟩:=q6 _ _ e;rw[hB]at z;cases z
 have dM:∀b o,s1.heap.get? b=some o→H1 b=none→b≠ea:=λb o q _ z=>by
  subst z;by_cases hb:b∈fq X.stack
  ·obtain⟨_,o1,e1,nf⟩:=jc.2.2.1.mem hb;obtain⟨oe,vs,_,_,_,e2,_,hd,_⟩:=jc.2.2.2;rw[e1]at e2;cases e2;exact nf vs hd
  ·obtain⟨o',e,_⟩:=q7 b o q hb;rw[hB]at e;cases e
 have u2:Un (fq X.stack) [] H1 H' s1.heap h2:=Un.jc un G5.1 q7 λb o hb q=>by
  obtain⟨z1,e1⟩:=un.any q (I.zA b hb) (by simp);obtain⟨_,o3,Nz,nf⟩:=jc.2.2.1.mem hb;rw[Nz]at e1;cases e1;exact let ⟨z3,e3⟩:=up b _ Nz nf;⟨z3,e3⟩
 have k2:=dy.jc bQ q6 jc.1 G5.1;obtain⟨oe,he,hc⟩:=G5.there;have no:∀b∈([]:List Addr),(b∈X.ex∨X.s₀.heap.objs.size≤b)∧b≠X.env.locals∧(∀x c,X.env.cells.lookup x=some c→c≠b)∧∀p∈X.pn++aK,p.1≠b:=λb z=>nomatch z;exact⟨hn,I.DG (s':={ s' with heap:=h2,toks:=tk }) os u2 k2 bare no,I.DG (s':={ s' with heap:=h2,toks:=tk }) os (u2.more hn dM) (YJ k2 hn he hc) bare no⟩
end
section
variable{X:Cx}{C W f:Addr}{k:Nat}{fd:FuncData}{ps:List Str}{sp:Sp}{x wn n y:Str}{p cp ep wp np yp ap hp pos:Pos}{e:Expr}{es:List Expr}{t:TA}{ix ie:Nat}
end
structure qw(K:Frag)(C:Addr):Prop where
 cls:(PySem.W.clsIn K C).isSome=true
 ga:PySem.W.findIn K (.ref C) "__getattribute__"=some (some (.builtin "BaseException.__getattribute__"))
 gt:PySem.W.findIn K (.ref C) "__getattr__"=some none
 cl:PySem.W.findIn K (.ref C) "__class__"=some (some (.builtin "object.__class__"))
 gn:PySem.W.specialIn K (.builtin "object.__class__") "__get__"=some (some (.builtin "getset_descriptor.__get__"))
 tk:PySem.W.takesIn K (.builtin "object.__class__")=some true
 mo:PySem.W.mroIn K C (.type "object")=some true
 mb:PySem.W.mroIn K C (.type "BaseException")=some true
def ExcAt(C a:Addr)(h:Heap):Prop:=∃o,h.get? a=some o∧o.cls=.ref C
section
variable{prog:Program}{w:World}{A:Around}{E:QV}{K:Frag}{C a:Addr}
theorem ExcAt.ty(p:ExcAt C a h):Looks M h (typeOf (.ref a)) (.ref C):=by
 obtain⟨o,h1,h2⟩:=p;exact h2▸Looks.andThen (Looks.ld h1) .now
theorem YK{R:Result→Shared→Prop}{tp:Value}(X:K.In s.heap)(Z:qw K C)(p:ExcAt C a s.heap)(h:R (.ok (.ret (.ref C))) s) :
  codeAny (model prog w) A (.call (.builtin "getset_descriptor.__get__") ⟨[.builtin "object.__class__",.ref a,tp],[]⟩) R s:=by
 obtain⟨hh,g,d,t,os⟩:=s;have T0:=p.ty (M:=model prog w);have T1:=PySem.W.looks_mroIn (M:=model prog w) X Z.mo;refine codeAny_call_builtin PySem.W.KF.slot_gs.plain PySem.W.KF.entry_gs (PySem.W.KF.slot_gs.check _ _ _ _ _ _ _ _ PySem.W.KF.type_class (PySem.W.KF.args_gs _ _ _) ?_);unfold Builtin.«getset_descriptor.__get__»;unfold descrGet;rw[PySem.W.dga_obj];refine au (ay ?_);unfold descrGetter descrCheckInstance;unfold descrNameAndClass isInstance;simp only[PySem.W.KF.owner_class];repeat lk
 refine⟨Code.quiet_builtin _ (by decide +kernel),codeAny_builtin PySem.W.KF.entry_class ?_⟩;unfold Builtin.«object.__class__»;unfold shownTypeOf;repeat lk
 exact h
theorem NA(X:K.In h)(Z:qw K C):Looks M h (find (.ref a) (.ref C) "__class__") (.bind (.builtin "getset_descriptor.__get__") (.builtin "object.__class__")):=by
 have L3:=PySem.W.looks_takesIn (M:=M) X Z.tk;refine(PySem.W.looks_findIn (M:=M) X Z.cl).andThen ((show Looks M h (getOf (some (.builtin "object.__class__"))) _ from PySem.W.looks_specialIn X Z.gn).andThen ?_)
 exact(show Looks M h (dataDescriptor? (some (.builtin "object.__class__")) (some (.builtin "getset_descriptor.__get__"))) (some (.builtin "getset_descriptor.__get__",.builtin "object.__class__")) from L3.andThen .now).andThen (Looks.tag .now)
theorem YL{nm:Value}{Q:Unit→Shared→Prop}(TB:Looks M s.heap (isInstance (.ref a) (.type "BaseException")) true)(q:Q () s) :
  wpAny M A (checkBuiltinCall "BaseException.__getattribute__" ⟨[.ref a,nm],[]⟩) Q E s:=by
 have k1:builtinKind "BaseException.__getattribute__"=some .slot:=by decide +kernel
 have k2:splitId "BaseException.__getattribute__"=some ("BaseException","__getattribute__"):=by decide +kernel
 exact @PySem.W.check_slot M A E s "BaseException.__getattribute__" "BaseException" "__getattribute__" (.ref a) [nm] [] Q k1 k2 TB (PySem.F.args_bexc_ga (.ref a) nm) q
theorem YM{tk:Tok}{Q:Fin→Shared→Prop}(X:K.In s.heap)(Z:qw K C)(p:ExcAt C a s.heap)(h:Q (.done (.ret (.ref C))) s):wpAny (model prog w) A (Builtin.«object.__getattribute__» ⟨[.ref a,.str "__class__" tk],[]⟩) Q E s:=by
 obtain⟨hh,g,d,t,os⟩:=s;have T0:=p.ty (M:=model prog w);have T3:=NA (a:=a) (M:=model prog w) X Z;unfold Builtin.«object.__getattribute__»;refine au (ay ?_);refine au (ay ?_);refine au (T0.at (au (T3.at ?_)));dsimp only;show wpAny _ _ (holding [_] (call _ [_,_,_]) >>= ret) _ _ _;exact au (av (wpAny_call (YK (s:=⟨hh,g,d,t,os⟩) X Z p (ay h))))
theorem YN{Q:Option Value→Shared→Prop}(X:K.In s.heap)(Z:qw K C)(p:ExcAt C a s.heap)(h:Q (some (.ref C)) { s with toks:=s.toks+1 }):wpAny (model prog w) A (getAttr? (.ref a) "__class__") Q E s:=by
 obtain⟨hh,g,d,t,os⟩:=s;have T0:=p.ty (M:=model prog w);have T1:=PySem.W.looks_findIn (M:=model prog w) X Z.ga;have T2:=PySem.W.looks_findIn (M:=model prog w) X Z.gt;have T3:=NA (a:=a) (M:=model prog w) X Z;have TB:Looks (model prog w) hh (isInstance (.ref a) (.type "BaseException")) true:=T0.andThen (PySem.W.looks_mroIn X Z.mb);unfold getAttr?;unfold getAttrBy? getAttrBy;refine au (wpAny_mkText (au (wpAny_attempt (av (au (T0.at (au (T1.at ?_))))))));show wpAny _ _ (getAttrByItsOwn _ _ _ _ _ _) _ _ _;unfold getAttrByItsOwn;refine au (T2.at (au (wpAny_attempt (av ?_))));show wpAny _ _ (boundAndCalled _ _ _) _ _ _;unfold boundAndCalled;rw[PySem.F.attr_ValueError.ga.bind (.ref a)];refine au (ay ?_);refine wpAny_call (codeAny_call_builtin PySem.F.attr_ValueError.ga.plain PySem.F.entry_bexc_ga ?_);dsimp only[wM,List.nil_append];refine YL (s:=⟨hh,g,d,t+1,os⟩) TB ?_;refine YM (s:=⟨hh,g,d,t+1,os⟩) X Z p ?_;refine PySem.W.handed_on rfl ?_;exact ay h
theorem YO(Z:qw K C):PySem.W.KitX K (.ref a) (.ref C) (ExcAt C a) where
 ty:=λ_ _ _ p=>p.ty
 it:=λM h X p=>by
  obtain⟨cd,hc⟩:=zp.mp Z.cls;unfold PySem.W.clsIn at hc;split at hc
  ·rename_i ho
   intro A' Q' E' s' k q;unfold isType loadHead;exact au (wpAny_loadPart (k _ _ (X C _ ho)) (ay q))
  ·cases hc
 ne:=λh tp dd is n sl X YQ=>by
  refine Bool.eq_false_iff.mpr (λq=>?_);have e:C=tp:=Value.ref.inj (beq_iff_eq.mp q);subst e;obtain⟨cd,hc⟩:=zp.mp Z.cls;unfold PySem.W.clsIn at hc;split at hc
  ·rename_i ho
   have z:=(X C _ ho).symm.trans YQ;cases z
  ·cases hc
 ca:=λX p k=>YN X Z p k
end
theorem NB{c:Value}{cv:V}(Z:qw X.K C)(hc:∀u,RelV cv u→u=c)(e:kitOne X.K (.ref C) c=some b) :
  gI X (.builtin "isinstance") (λxs H Q=>∃a,xs=[.ref a,cv]∧H a=some (pH C a)∧Q (.bl b) H):=by
 intro aK s σ H vs us Q I r h;obtain⟨a,rfl,ha,q⟩:=h;obtain⟨u,v,rfl,ru,rv⟩:=vals2 r;cases(show u=Value.ref a from ru)
 cases hc v rv;exact oT (YO Z) I.fh (show ExcAt C a s.heap from(I.bQ a _ ha).1) e (λz=>nomatch z) λtk=>⟨.bl b,H,I.tok tk,rfl,q⟩
section
variable{X:Cx}(K:Frag)(hK:X.K=K)
include hK
theorem yz{D:Addr}(Z:qw K C)(e:kitOne K (.ref C) (.ref D)=some b):gI X (.builtin "isinstance") (λxs H Q=>∃a,xs=[.ref a,.ref D]∧H a=some (pH C a)∧Q (.bl b) H):=by
 subst hK;exact NB (cv:=.ref D) Z (λu z=>z) e
theorem YR{T:String}(Z:qw K C)(e:kitOne K (.ref C) (.type T)=some b):gI X (.builtin "isinstance") (λxs H Q=>∃a,xs=[.ref a,.ty T]∧H a=some (pH C a)∧Q (.bl b) H):=by
 subst hK;exact NB (cv:=.ty T) Z (λu z=>z) e
end
theorem YT:bootBuiltins "ValueError"=some (.type "ValueError"):=by decide +kernel
open PySem.W (Looks)
def NC(X:Cx)(C:Addr)(body:List Stmt)(tb:XK→TS):Prop:=∀(aK:List (Addr×Obj))(s:Shared)(σ:St)(H:Hp)(D:Ends)(E:XK),Inv X aK σ H s→tb E D σ H→
 wpAny (model X.prog X.w) X.A (execs body X.env) (SP X aK D) (λe s'=>∃H1 s1,Inv X aK σ H1 s1∧uc X.prog X.w C X.stack H1 s1 E e s') s
section
variable{X:Cx}{C W f:Addr}{k:Nat}{fd:FuncData}{ps:List Str}{sp:Sp}{x wn n y:Str}{p cp ep wp np yp ap hp pos:Pos}{e:Expr}{es:List Expr}{t:TA}{ix ie:Nat}
theorem YU{body:List Stmt}{tb:XK→TS}(B6:X.stack=X.env::X.outer)(xr:X.env.frame=some X.env.locals)(hb:NC X C body tb)
  (YV:Gl X wn) (YW:X.mg wn=some (.ref W)) (hex:PySem.W.exmOne X.K (.ref C) (.ref W)=some true) (hN:X.N.Nodup) (hy:X.N[ix]?=some y) (ly:X.env.scope.names.lookup y=some .local) (hn:X.N[ie]?=some n) (ln:X.env.scope.names.lookup n=some .local) (YX:ix≠ie)
  (YY:(wn==("__debug__":Str))=false:=by decide) (YZ:(n==("__debug__":Str))=false:=by decide) (nj:swapsWith (.Name n np) (some (.Name y yp)) ap.line X.env=pure false:=by rfl) :
  PS X (.Try body [.ExceptHandler (some (.Name wn wp)) (some n) [.Assign [.Name y yp] (.Name n np) ap] hp] [] [] pos)
   (λD σ H=>tb (λ_ _ H'=>∀ea,H' ea=none→D.nx ((σ.set ix (some (.ref ea))).set ie none) (upd H' ea (pH C ea))) D σ H):=by
 intro aK s σ H D I h;refine wpAny_Try_except (ai (hb aK s σ H D _ I h) (λf s' q=>?_) λe s' ⟨H1,s1,I1,hq⟩=>?_)
 ·cases f with
  |next=>exact aq q
  |ret v=>exact q
  |brk=>exact q
  |cont=>exact q
 obtain⟨ea,B,a0,H',rfl,os,bare,un,bQ,jc,q6,q7,q8⟩:=hq;have Y0:Heap.FlyingW B (X.env::X.outer) ea (.ref C) a0 s'.heap:=B6▸jc;have G3:X.A.frames=some (X.env::X.outer):=B6▸I1.ok.frames;refine wpAny_looks_onW G3 xr Y0 λh4 Y1 Af=>?_;refine wpAny_landsW Y1 λh5 ND Y2=>?_;have NF:=Af.trans Y2;have NG:Heap.FlyingW B X.stack ea (.ref C) a0 h5:=by rw[B6];exact ND
 obtain⟨_,I5,_⟩:=I1.Ny (tk:=s'.toks) os bare un bQ jc q6 q7 NG NF;refine wpAny_handleBy_cons (codeAny_handlers_test ?_) (by intro q;cases q);refine Calls.Name_function_global I.ok.kind YV (Calls.loadGlobal_global (by rw[I.ok.glob];exact I5.mod.glob.keeps I5.bk) YW ?_) YY;obtain⟨oe,Y3,Y4⟩:=NG.there;have LT:Looks (model X.prog X.w) h5 (typeOf (.ref ea)) (.ref C):=Y4▸(Looks.ld Y3).andThen .now;refine(PySem.W.exm_one (M:=model X.prog X.w) I5.fh LT hex).here ?_;refine codeAny_handlers_suite_as (lands_againW ND λh6 Y5 Y6=>?_);have Y7:Heap.FlyingW B X.stack ea (.ref C) a0 h6:=by rw[B6];exact Y5
 obtain⟨Y8,_,I6⟩:=I1.Ny (tk:=s'.toks) os bare un bQ jc q6 q7 Y7 (NF.trans Y6);refine w8 I6 hN hn (.inl ln) (v:=.ref ea) rfl (λs7 I7=>?_) (.inr ln);have cJ:ie<σ.length:=by rw[I1.len];exact(gc.mp hn).1
 obtain⟨m7,Y9,Za⟩:=I7.loc;obtain⟨u7,r7,Zb⟩:=Za ie n (.ref ea) hn (List.getElem?_set_self cJ) (.inl ln);have NH:X.env.kindOf n=some .local∧m7 n=some u7:=by
  rcases Zb with z|⟨z,_⟩
  ·exact z
  ·have Zc:X.env.kindOf n=some .local:=ln;rcases z with z|z<;>(rw[Zc]at z;cases z)
 refine wpAny_execs_cons (wpAny_Assign_Name (wpAny_Name (wpAny_loadName_local I.ok.kind NH.1 Y9 NH.2 ?_) YZ) nj);refine w8 I7 hN hy (.inl ly) (v:=.ref ea) r7 (λs8 I8=>?_) (.inr ly);refine aq ?_;obtain⟨m8,NI,Zd⟩:=id I8.loc;have DE:(X.env.scope.kind == .class||(X.env.scope.kind == .module&&X.env.locals != X.env.globals))=false:=by rw[I.ok.kind];rfl
 refine wpAny_nameGoes_keeps ln NI DE λh9 v9 Ze Zf=>?_;refine⟨_,_,I8.YH hN hn Zd NI Ze Zf,?_⟩;have es:((σ.set ie (some (V.ref ea))).set ix (some (V.ref ea))).set ie none=(σ.set ix (some (V.ref ea))).set ie none:=by
  rw[List.set_comm _ _ YX.symm,List.set_set]
 rw[es];exact q8 ea Y8
end
open PySem.W (Looks)
section
variable{X:Cx}{C f:Addr}{k:Nat}{fd:FuncData}{ps:List Str}{sp:Sp}{x y:Str}{p cp ep yp:Pos}{e:Expr}{es:List Expr}{t:TA}{iy:Nat}
theorem Zg(D7:∀u s,X.xe u s→False)(F:bz X.prog X.w X.K X.mg X.base (uc X.prog X.w C) k f fd ps sp)(hr:dv k X.A)(hg:Gl X x)(hm:X.mg x=some (.ref f))(hk:Kp X.K f)(hb:Binds X.K fd ps [])(ha:PA X (e::es) t)
  (hN:X.N.Nodup) (hy:X.N[iy]?=some y) (ly:X.env.scope.names.lookup y=some .local)
  (p5:(x==("__debug__":Str))=false:=by decide)
  (he:starEach (e::es) X.env=(false,eval e X.env)::starEach es X.env:=by rfl) (iN:(backTo cp (starEach es X.env)).any (·.1)=false:=by rfl)
  (hs:swapsWith (.Call (.Name x p) (e::es) [] cp) (some (.Name y yp)) ep.line X.env=pure false:=by rfl) :
  NC X C [.Assign [.Name y yp] (.Call (.Name x p) (e::es) [] cp) ep] (λE D σ H=>t σ H λvs H1=>sp vs H1 (λv H'=>D.nx (σ.set iy (some v)) H') E):=by
 intro aK s σ H D E I h;refine wpAny_execs_cons (wpAny_Assign_Name (az (xa I hg hm ?_ p5)) hs);refine PySem.W.callWith_K (h₀:=X.base) I.ok.mod.pV hk (ai (ha cp aK s σ H _ I h) (λus s1 ⟨vs,H1,I1,r,q⟩=>⟨I1.fh,?_⟩) λ_ _ z=>(D7 _ _ z).elim) he iN;have hl:us.length=ps.length:=by rw[← r.length];exact F.len _ _ _ _ q
 have pj:=hb s1 us I1.fh (by rw[ij];exact hl);rw[ij]at pj;refine wpAny_call (codeAny_mono (F.run X.A X.stack s1 H1 ⟨us,[]⟩ us vs _ _ hr I1.zO pj r q) λr s' hq=>?_);cases r with
 |ok fl=>
  cases fl with
  |ret u=>
   obtain⟨v,H',I',rv,q'⟩:=I1.after hq;exact w8 I' hN hy (.inl ly) rv (λs8 I8=>aq ⟨_,H',I8,q'⟩) (.inr ly)
  |next=>exact False.elim hq
  |brk=>exact False.elim hq
  |cont=>exact False.elim hq
 |error e=>exact⟨H1,s1,I1,hq⟩
end
theorem Zh(K:Frag)(hK:X.K=K){D:Addr}(e:kitOne K (.type "NoneType") (.ref D)=some b):gI X (.builtin "isinstance") (λxs H Q=>xs=[.cE,.ref D]∧Q (.bl b) H):=by
 subst hK;intro aK s σ H vs us Q I r h;obtain⟨rfl,q⟩:=h;obtain⟨u,v,rfl,ru,rv⟩:=vals2 r;cases(show v=Value.ref D from rv)
 exact Jy I ru .cE e λtk=>⟨.bl b,H,I.tok tk,rfl,q⟩
end L2
namespace S21
open PySem L2 Bw
variable{Pt:Addr}{a p:Int}{b bp c j m:Nat}{f g u v y:Fn}{fd:FuncData}{h:Heap}{s:List Int}
noncomputable abbrev NJ:List Value:=[.type "ValueError",.type "Exception",.type "BaseException",.type "object"]
noncomputable def dH(K:Frag)(x:Str):Addr:=match nsIn K mainGlobals x with
 |some (some (.ref a))=>a
 |_=>0
noncomputable def yB(K:Frag)(x:Str):Bool:=nsIn K mainGlobals x==some (some (.ref (dH K x)))
noncomputable def G6(K:Frag)(c:Str):Bool:=
 yB K c&&PySem.W.excIn K (dH K c) NJ "ValueError.__new__"&&(PySem.W.exmOne K (.ref (dH K c)) (.ref (dH K "WireError"))==some true) &&
 (kitOne K (.ref (dH K c)) (.type "ValueError")==some true)&&(kitOne K (.ref (dH K c)) (.ref (dH K c))==some true)&&(kitOne K (.type "NoneType") (.ref (dH K c))==some false) &&
 (PySem.W.clsIn K (dH K c)).isSome&&(PySem.W.findIn K (.ref (dH K c)) "__getattribute__"==some (some (.builtin "BaseException.__getattribute__")))&&(PySem.W.findIn K (.ref (dH K c)) "__getattr__"==some none) &&
 (PySem.W.findIn K (.ref (dH K c)) "__class__"==some (some (.builtin "object.__class__")))&&(PySem.W.specialIn K (.builtin "object.__class__") "__get__"==some (some (.builtin "getset_descriptor.__get__"))) &&
 (PySem.W.takesIn K (.builtin "object.__class__")==some true)&&(PySem.W.mroIn K (dH K c) (.type "object")==some true)&&(PySem.W.mroIn K (dH K c) (.type "BaseException")==some true)
noncomputable def v7(K:Frag)(c d:Str):Bool:=yB K d&&(kitOne K (.ref (dH K c)) (.ref (dH K d))==some false)
structure G7(K:Frag)(mg:Str→Option Value)(c:Str):Prop where
 mC:mg c=some (.ref (dH K c))
 exc:PySem.W.excIn K (dH K c) NJ "ValueError.__new__"=true
 Zi:PySem.W.exmOne K (.ref (dH K c)) (.ref (dH K "WireError"))=some true
 kV:kitOne K (.ref (dH K c)) (.type "ValueError")=some true
 kS:kitOne K (.ref (dH K c)) (.ref (dH K c))=some true
 kN:kitOne K (.type "NoneType") (.ref (dH K c))=some false
 Z:qw K (dH K c)
theorem Zj{K:Frag}{mg:Str→Option Value}{c:Str}(X:K.In h)(G:h.Ns mainGlobals mg)(e:G6 K c=true):G7 K mg c:=by
 unfold G6 yB at e;simp only[fo,beq_iff_eq]at e;obtain⟨⟨⟨⟨⟨⟨⟨⟨⟨⟨⟨⟨⟨h1,h2⟩,h3⟩,h4⟩,h5⟩,h6⟩,h8⟩,h9⟩,Eu⟩,Zk⟩,Zl⟩,Zm⟩,Zn⟩,Zo⟩:=e;exact⟨dk X G h1,h2,h3,h4,h5,h6,⟨h8,h9,Eu,Zk,Zl,Zm,Zn,Zo⟩⟩
structure yC(K:Frag)(mg:Str→Option Value)(c d:Str):Prop where
 mD:mg d=some (.ref (dH K d))
 k:kitOne K (.ref (dH K c)) (.ref (dH K d))=some false
theorem B7{K:Frag}{mg:Str→Option Value}{c d:Str}(X:K.In h)(G:h.Ns mainGlobals mg)(e:v7 K c d=true):yC K mg c d:=by
 unfold v7 yB at e;simp only[fo,beq_iff_eq]at e;exact⟨dk X G e.1,e.2⟩
noncomputable def jZ(p:Int)(d:Drw):LL:=dt p ((d.dG p d.aL 0).map (ia d.aM d.aQ d.aL))
def Runs(n:Nat)(R:LL):Prop:=R.map (·.take n)=rL n
noncomputable def v8(R:LL)(n m:Nat):LL:=(List.range m).map λi=>(R.map (·.drop n)).map λr=>r.getD i 0
theorem Zp(pp:p∈cW){d:Drw}(hd:d.dU p)(hs:d.sm)(hw:d.aL≤40):cz p (d.aM+d.aQ+2*d.aL) (jZ p d)∧(jZ p d).length≤d.aM+d.aQ+2*d.aL∧d.aM≤100∧d.aQ≤100:=by
 obtain⟨g1,g2,_,hR⟩:=Drw.iU pp hw (d:=d) (c:=0) hd hs (by lia);have fk:cz p (d.aM+d.aQ+2*d.aL) ((d.dG p d.aL 0).map (ia d.aM d.aQ d.aL)):=λx hx=>by
  obtain⟨y,hy,rfl⟩:=eA.mp hx;exact B3 (hR y hy)
 exact⟨(nE pp fk).rws,vC fk,g1,g2⟩
def lQ(K:Frag)(H:Hp)(v:Addr)(l s r:Nat)(aV:LL):Prop:=∃(c:Addr)(DS:List V),bh K H v [.int (l:Int),.int (s:Int),.int (r:Int),.ref c]∧bh K H c DS∧bN K H DS (aV.map cy)
def NK(K:Frag)(Pt:Addr):Sp:=λvs H Q E=>∃(p:Int)(aw:Addr)(d:Drw),vs=[.int p,.ref aw]∧p∈cW∧d.dU p∧d.sm∧d.bj.length≤900000∧d.aL≤40∧H aw=some (.tup d.bj)∧iH H Pt (lN jb) lP∧
 (Runs (d.aM+d.aL) (jZ p d)→∀v H',aO (S21.del Pt H) H'→iH H' Pt (lN jb) lP→lQ K H' v d.aM d.aL d.aQ (v8 (jZ p d) (d.aM+d.aL) (d.aQ+d.aL))→Q (.ref v) H')∧
 (¬Runs (d.aM+d.aL) (jZ p d)→∀H',aO (S21.del Pt H) H'→iH H' Pt (lN jb) lP→E (.ref (dH K "NoRun")) none H')
noncomputable abbrev G8:List Str:=["p","words","sides","states","given","rows"]
theorem yD:c8 G8 ["p","words"] (bG xN):=dz rfl rfl rfl (by decide +kernel) rfl
theorem G9:(["row","given"]:List Str).Nodup:=by decide +kernel
def Ha(K:Frag):TE:=iP (lj K (aR 5)) 1 [4] (br 0) g6 (gw (g7 K) (aR 0) iq (fi (aR 1)))
def Hc(K:Frag):TE:=iP (lj K (aR 5)) 1 [4] (br 0) g6 (gw (g7 K) (aR 0) (fi (aR 1)) iq)
def B8(K:Frag):TT:=gu (cf (pd K true) (Ha K) (e9 (yi K) [] E0 (aX (aR 4) bq)))
def wa(K:Frag):TE:=eC (aX (dm K 2 0) (aX (aR 3) (aX (dm K 2 1) (aX (e9 (G1 K) [] E0 (aX (Hc K) (aX (eI (dm K 2 1) (aR 3)) bq))) bq))))
def Hd(K:Frag)(E:XK):TS:=λ_ σ H=>(aX (tC (.str "what stands to the left and what is kept do not tell what follows")) bq) σ H λvs H1=>vs.length≤sizeLine∧E (.ref (dH K "NoRun")) none H1
def B9(K:Frag)(Pt:Addr)(E:XK):TS:=bY (cB (e9 (G0 K) [] E0 (aX (aR 1) bq)) (br 2)) (bY (cB (rJ rK (aR 1) (aX (tC (.str "late")) bq)) (br 3)) (bY (cB (eI (dm K 2 0) (aR 3)) (br 4)) (bY (cB (e9 (GQ K Pt) [] E0 (aX (aR 0) (aX (aR 1) bq))) (br 5)) (bY (eP (B8 K) (Hd K E) gs) (dI (wa K))))))
theorem NL{rs os:LL}(h:rs.map cy=os.map cy):rs=os:=(List.map_inj_right λ_ _ e=>Uk e).mp h
open Classical in
theorem Zq{D:Ends}{E:XK}{H:Hp}{aw:Addr}{d:Drw}(pp:p∈cW)(hd:d.dU p)(hs:d.sm)(nt:d.bj.length≤900000)(gk:d.aL≤40)(ja:H aw=some (.tup d.bj))(hL:iH H Pt (lN jb) lP)
  (q1:Runs (d.aM+d.aL) (jZ p d)→∀v H',aO (S21.del Pt H) H'→iH H' Pt (lN jb) lP→lQ K H' v d.aM d.aL d.aQ (v8 (jZ p d) (d.aM+d.aL) (d.aQ+d.aL))→D.rt (.ref v) H')
  (q2:¬Runs (d.aM+d.aL) (jZ p d)→∀H',aO (S21.del Pt H) H'→iH H' Pt (lN jb) lP→E (.ref (dH K "NoRun")) none H') :
  B9 K Pt E D [some (.int p),some (.ref aw),none,none,none,none] H:=by
 obtain⟨hR,cJ,g1,g2⟩:=Zp pp hd hs gk;have z:(1000:Nat)≤sizeLine:=by decide
 unfold B9;refine⟨_,rfl,p,aw,d,rfl,hd,hs,nt,.of ja,λsv H1 s1 NM=>?_⟩;have He:=s1 _ _ ja;refine⟨_,rfl,⟨aw,_,rfl,He⟩,aw,_,"late",rfl,rfl,He,rM d,?_⟩;rw[oI hd];refine⟨_,rfl,sv,_,0,.int (d.aM:Int),rfl,rfl,NM,cm (j:=0) rfl,_,rfl,_,_,rfl,rfl,?_⟩;have lH:=hL.mono s1;obtain⟨ps,hT⟩:=lH.tab;refine⟨_,rfl,_,rfl,p,aw,d,rfl,pp,hd,hs,nt,gk,He,lH,λv DS H2 s2 ud hv hD=>?_⟩;have hD:bN K H2 DS ((jZ p d).map cy):=hD;have Zr:=s2.bu (bh.del hT NM);have sD:aO (S21.del Pt H) H2:=(aO.del s1).trans s2;show bY (eP (B8 K) (Hd K E) gs) (dI (wa K)) D [some (.int p),some (.ref aw),some (.ref sv),some (.int (d.aL:Int)),some (.int ((d.aM:Int)+(d.aL:Int))),some (.ref v)] H2;rw[show(d.aM:Int)+(d.aL:Int)=((d.aM+d.aL:Nat):Int) by lia];generalize hn:d.aM+d.aL=n at *;have rl:∀r∈jZ p d,r.length=n+(d.aQ+d.aL):=λr hr=>by rw[(hR r hr).1];lia
 unfold B8 Ha;refine⟨_,rfl,v,rfl,⟨_,hv⟩,?_⟩;refine qr (f:=λr=>r.take n) (cp:=[some (.int (n:Int))]) hv hD (by lia) (λrow ra H3 gY s3 du=>i7 (iT rfl du) ki (g8 (gP rfl)) (oA (by rw[rl row gY];lia))) ?_;intro H3 ZS s3 hZ lz jW;have s4:=aO.upd (o:=.lst ZS) jW;refine⟨_,rfl,n,_,rfl,rfl,by lia,λl LS H5 s5 hl rN=>?_⟩;refine⟨.list (((jZ p d).map λr=>r.take n).map cy),.list ((rL n).map cy),.list (.of ((s5 _ _ aY))) (bN.mono (s4.trans s5) hZ),.list (.of hl) rN,Be _,Be _,_,rfl,?_⟩;have sE:=s3.trans (s4.trans s5);by_cases gQ:Runs n (jZ p d)
 ·refine KO (ao (λx:LL=>Dat.list (x.map cy)) gQ) ?_;have Hf:=sE.bu Zr;have wb:=sE.bu hv;have Ca:=bN.mono sE hD;show wa K _ _ _;unfold wa Hc;refine⟨_,rfl,sv,_,0,.int (d.aM:Int),rfl,rfl,Hf,cm (j:=0) rfl,_,rfl,_,rfl,sv,_,1,.int (d.aQ:Int),rfl,rfl,Hf,cm (j:=1) rfl,_,rfl,v,rfl,⟨_,wb⟩,?_⟩;refine qr (f:=λr=>r.drop n) (cp:=[some (.int (n:Int))]) wb Ca (by lia) (λrow ra H6 gY s6 du=>i7 (iT rfl du) (g8 (gP rfl)) ki (oB (by rw[rl row gY];lia))) ?_;intro H6 YS s6 hY ly Zs;have s7:=aO.upd (o:=.lst YS) Zs;refine⟨_,rfl,sv,_,1,.int (d.aQ:Int),rfl,rfl,(s6.trans s7).bu Hf,cm (j:=1) rfl,_,rfl,_,_,rfl,rfl,true,ly,YS,_,d.aQ+d.aL,_,rfl,by lia,.of aY,bN.mono s7 hY,by rw[bI];lia,by lia,λr hr=>?_,λt H8 Zt s8 ht Zu=>?_⟩
  ·obtain⟨x,hx,rfl⟩:=eA.mp hr;rw[ff,rl x hx];lia
  refine⟨by show 4≤sizeLine;lia,λm hm=>?_⟩;have s9:=aO.upd (o:=.tup [.int (d.aM:Int),.int (d.aL:Int),.int (d.aQ:Int),.ref t]) hm;have sF:=sE.trans (s6.trans (s7.trans (s8.trans s9)));exact q1 gQ m _ (sD.trans sF) (ud.mono sF) ⟨t,Zt,.of aY,s9.bu ht,bN.mono s9 Zu⟩
 ·refine LI (λe=>gQ ?_) ⟨by show 1≤sizeLine;lia,q2 gQ _ (sD.trans sE) (ud.mono sE)⟩;exact NL (Dat.list.inj e)
theorem Zv{f fW fT fO fC:Addr}{rG ke yn kf:FuncData}(F:cD K "machine" "machine" xN f fd)(Y:G7 K mg "NoRun")
  (GW:bz P w K mg base bx 6 fW rG ["words"] (G0 K)) (kW:Kp K fW) (bW:Binds K rG ["words"] []) (mW:Mg mg "wires" fW)
  (GT:bz P w K mg base bx 11 fT ke ["p","words"] (GQ K Pt)) (kT:Kp K fT) (bT:Binds K ke ["p","words"] []) (mT:Mg mg "ticks" fT)
  (GO:bz P w K mg base bx 1 fO yn ["count"] (yi K)) (kO:Kp K fO) (bO:Binds K yn ["count"] []) (mO:Mg mg "ones" fO)
  (GC:bz P w K mg base bx 1 fC kf ["rows","length"] (G1 K)) (kC:Kp K fC) (bC:Binds K kf ["rows","length"] []) (mC:Mg mg "columns" fC) :
  bz P w K mg base (uc P w (dH K "NoRun")) 12 f fd ["p","words"] (NK K Pt):=by
 refine F.YA yD (λvs H Q E h=>?_) (λbZ A outer s H vs Q E hr h=>?_)
 ·obtain⟨p,aw,d,rfl,_⟩:=h;rfl
 ·obtain⟨p,aw,d,rfl,pp,hd,hs,nt,gk,ja,hL,q1,q2⟩:=h;have iR:dv 1 _:=hr.mono (by decide);have Zw:dv 6 _:=hr.mono (by decide);refine⟨B9 K Pt E,?_,Zq pp hd hs nt gk ja hL q1 q2⟩;unfold B9;refine bo ?_ ?_
  ·exact cg (i:=2) yD.nd rfl (.inl rfl) (cQ GW Zw rfl mW kW bW .nil cR (aN (pv 1) aU))
  refine bo ?_ ?_
  ·exact cg (i:=3) (te:=rJ rK (aR 1) (aX (tC (.str "late")) bq)) yD.nd rfl (.inl rfl) (BU PySem.F.slot_tuple_count PySem.F.type_tuple_count BW (pv 1) (aN cP aU))
  refine bo ?_ ?_
  ·exact cg (i:=4) (te:=eI (dm K 2 0) (aR 3)) yD.nd rfl (Or.inr rfl) (bc eK (bH (cH K rfl) (pv 2) aW (λ_ _=>rfl)) (pv 3))
  refine bo ?_ ?_
  ·exact cg (i:=5) yD.nd rfl (.inl rfl) (cQ GT hr rfl mT kT bT .nil cR (aN (pv 0) (aN (pv 1) aU)))
  refine bo ?_ ?_
  ·refine dR ?_ ?_ e8
   ·unfold B8;refine df (KQ K rfl hr.units) ?_ ?_ (de _)
    ·unfold Ha;refine gW (N:=["row","given"]) (own:=1) (caps:=[4]) rfl ?_ ?_ ?_ ?_ ?_
     ·exact lE K rfl (pv 5)
     ·exact(show dg G8 (bG xN) ["row","given"] 1 [4] _ from .mk' (by decide +kernel))
     ·exact λ_ _ _ _ _=>cG (i:=0) G9 rfl (.inl rfl)
     ·exact λ_ _ _ _ _=>fj
     ·exact λ_ _ _ _ _=>eQ (ft K rfl) (pv 0) fK (dJ (pv 1))
    ·exact cQ GO iR rfl mO kO bO .nil cR (aN (pv 4) aU)
   ·refine bV ?_;unfold Hd;exact YD (E:=E) rfl rfl Y.mC Y.exc PySem.F.excBase_ValueError (aN cP aU) Yx
  refine bV ?_;refine cO (te:=wa K) ?_;unfold wa;refine cI ?_;refine aN ?_ ?_ ?_
  ·exact bH (cH K rfl) (pv 2) aW (λ_ _=>rfl)
  ·refine aN (pv 3) ?_ ?_
   ·refine aN ?_ ?_ ?_
    ·exact bH (cH K rfl) (pv 2) aW (λ_ _=>rfl)
    ·refine aN ?_ aU ?_
     ·refine cQ GC iR rfl mC kC bC .nil cR ?_;refine aN ?_ ?_ ?_
      ·unfold Hc;refine gW (N:=["row","given"]) (own:=1) (caps:=[4]) rfl ?_ ?_ ?_ ?_ ?_
       ·exact lE K rfl (pv 5)
       ·exact(show dg G8 (bG xN) ["row","given"] 1 [4] _ from .mk' (by decide +kernel))
       ·exact λ_ _ _ _ _=>cG (i:=0) G9 rfl (.inl rfl)
       ·exact λ_ _ _ _ _=>fj
       ·exact λ_ _ _ _ _=>eQ (ft K rfl) (pv 0) (dJ (pv 1)) fK
      ·refine aN (bc eK (bH (cH K rfl) (pv 2) aW (λ_ _=>rfl)) (pv 3)) aU ?_;rfl
      ·rfl
     ·rfl
    ·rfl
   ·rfl
  ·rfl
noncomputable def Hg(K:Frag):Bool:=yB K "WireError"&&(nsIn K mainGlobals "ValueError"==some none)&&G6 K "NoRun"&&v7 K "NoRun" "BadSides"&&v7 K "NoRun" "Late"&&v7 K "NoRun" "NoDrawing"&&v7 K "NoRun" "NoMove"
structure NO(K:Frag)(mg:Str→Option Value):Prop where
 mW:mg "WireError"=some (.ref (dH K "WireError"))
 val:mg "ValueError"=none
 R:G7 K mg "NoRun"
 n1:yC K mg "NoRun" "BadSides"
 n2:yC K mg "NoRun" "Late"
 n3:yC K mg "NoRun" "NoDrawing"
 n4:yC K mg "NoRun" "NoMove"
theorem NP{K:Frag}{mg:Str→Option Value}(X:K.In h)(G:h.Ns mainGlobals mg)(e:Hg K=true):NO K mg:=by
 unfold Hg at e;simp only[fo]at e;obtain⟨⟨⟨⟨⟨⟨h1,h2⟩,h3⟩,h4⟩,h5⟩,h6⟩,h7⟩:=e;have h1:=beq_iff_eq.mp h1;exact⟨dk X G h1,lW X G (beq_iff_eq.mp h2),Zj X G h3,B7 X G h4,B7 X G h5,B7 X G h6,B7 X G h7⟩
def Hh(K:Frag)(Pt:Addr):Sp:=λvs H Q _=>∃(p:Int)(aw:Addr)(d:Drw),vs=[.int p,.ref aw]∧p∈cW∧d.dU p∧d.sm∧d.bj.length≤900000∧d.aL≤40∧H aw=some (.tup d.bj)∧iH H Pt (lN jb) lP∧
 (Runs (d.aM+d.aL) (jZ p d)→∀v H',aO (S21.del Pt H) H'→iH H' Pt (lN jb) lP→lQ K H' v d.aM d.aL d.aQ (v8 (jZ p d) (d.aM+d.aL) (d.aQ+d.aL))→Q (.ref v) H')∧
 (¬Runs (d.aM+d.aL) (jZ p d)→∀H',aO (S21.del Pt H) H'→iH H' Pt (lN jb) lP→Q (.str "none") H')
theorem yE:c8 ["p","words","found","caught","e"] ["p","words"] (bG Fw):=dz rfl rfl rfl (by decide +kernel) rfl
theorem Zx{f fM:Addr}{iS:FuncData}(F:cD K "_law_machine" "_law_machine" Fw f fd)(T:Txt mg)(Y:NO K mg)
  (GM:bz P w K mg base (uc P w (dH K "NoRun")) 12 fM iS ["p","words"] (NK K Pt)) (kM:Kp K fM) (bM:Binds K iS ["p","words"] []) (mM:Mg mg "machine" fM) :
  bz P w K mg base bx 13 f fd ["p","words"] (Hh K Pt):=by
 refine F.ok yE (λvs H Q E h=>?_) (λbZ A outer s H vs Q E hr h=>?_)
 ·obtain⟨p,aw,d,rfl,_⟩:=h;rfl
 ·obtain⟨p,aw,d,rfl,pp,hd,hs,nt,gk,ja,hL,q1,q2⟩:=h;refine⟨_,bo (cg (i:=2) yE.nd rfl (.inl rfl) sH) (bo (cg (i:=3) yE.nd rfl (.inl rfl) sH) (bo (YU (C:=dH K "NoRun") (ix:=3) (ie:=4) rfl rfl (Zg (iy:=2) (λ_ _ z=>z) GM hr rfl mM kM bM (aN (pv 0) (aN (pv 1) aU)) yE.nd rfl rfl) rfl Y.mW Y.R.Zi yE.nd rfl rfl rfl rfl (by decide)) (bo (dR (PW.pt (pY (sN (gv (gI.or (yz K rfl Y.R.Z Y.R.kS) (Zh K rfl Y.R.kN)) rfl T.isinstance tH (aN (pv 3) (aN (kY (v:=.ref _) rfl Y.R.mC rfl) aU)))) (sO (sN (gv (YR K rfl Y.R.Z Y.R.kV) rfl T.isinstance tH (aN (pv 3) (aN (KL rfl Y.val YT) aU))))))) (bo (dR (PW.pt (DJ (sN (gv (yz K rfl Y.R.Z Y.n1.k) rfl T.isinstance tH (aN (pv 3) (aN (kY (v:=.ref _) rfl Y.n1.mD rfl) aU)))) (DJ (sN (gv (yz K rfl Y.R.Z Y.n2.k) rfl T.isinstance tH (aN (pv 3) (aN (kY (v:=.ref _) rfl Y.n2.mD rfl) aU)))) (Je (sN (gv (yz K rfl Y.R.Z Y.n3.k) rfl T.isinstance tH (aN (pv 3) (aN (kY (v:=.ref _) rfl Y.n3.mD rfl) aU)))))))) (bV (cO cP)) e8) (bV (cO (bH (dB K rfl) (gK (aN cP (aN cP aU))) (iX DZ rfl T.int Ar (aN (gv (yz K rfl Y.R.Z Y.n4.k) rfl T.isinstance tH (aN (pv 3) (aN (kY (v:=.ref _) rfl Y.n4.mD rfl) aU))) aU)) (λ_ _=>rfl))))) e8) (bV (cO (pv 2)))))),?_⟩;refine⟨_,rfl,_,rfl,p,aw,d,rfl,pp,hd,hs,nt,gk,ja,hL,λgQ v H1 s1 lH hm=>?_,λgQ H1 s1 lH ea Zy=>?_⟩
  ·refine⟨_,rfl,.inr ⟨rfl,_,rfl,dY (dY ⟨_,rfl,q1 gQ v H1 s1 lH hm⟩)⟩⟩
  ·have s2:=aO.upd (o:=pH (dH K "NoRun") ea) Zy;have g:(upd H1 ea (pH (dH K "NoRun") ea)) ea=some (pH (dH K "NoRun") ea):=aY;have sA:=s1.trans s2;have ud:=lH.mono s2;generalize upd H1 ea (pH (dH K "NoRun") ea)=H2 at s2 g sA ud ⊢;refine⟨_,rfl,.inl ⟨ea,rfl,g,_,rfl,gU ⟨_,rfl,ea,rfl,g,_,rfl,gU ?_⟩⟩⟩;refine⟨_,rfl,ea,rfl,g,_,rfl,dY ⟨_,rfl,ea,rfl,g,_,rfl,dY ⟨_,rfl,ea,rfl,g,_,rfl,dY ?_⟩⟩⟩;refine⟨by show 2≤sizeLine;decide,λl hl=>⟨_,rfl,ea,rfl,aO.upd hl _ _ g,.inr ⟨_,rfl,l,_,0,.str "none",rfl,rfl,.of aY,cm (j:=0) rfl,?_⟩⟩⟩;exact q2 gQ _ (sA.trans (.upd hl)) (ud.mono (.upd hl))
def qx(K:Frag):Sp:=λvs H Q _=>∃(a:Addr)(ns:List Int)(k:Int),vs=[.ref a,.int k]∧cV K H a (ns.map V.int)∧ns.length≤63∧0≤k∧k≤100000∧∀d:Int,0≤d→d<2147483629→Q (.int d) H
theorem qy:c8 ["script","k","many","cell","turn","mixed"] ["script","k"] (bG Fo):=dz rfl rfl rfl (by decide +kernel) rfl
theorem Hi{ns:List Int}(h:j<ns.length):(ns.map V.int)[j]?=some (.int (ns.getD j 0)):=by
 rw[eU,cM h,cL,cM h];rfl
def NQ(a:Addr)(k m:Int)(H:Hp):St→Hp→Prop:=λσ H'=>H'=H∧∃(c:Int)(s4 s5:Option V),σ=[some (.ref a),some (.int k),some (.int m),some (.int c),s4,s5]
theorem Cb{f:Addr}(F:cD K "_law_draw" "_law_draw" Fo f fd)(T:Txt mg):bz P w K mg base bx 1 f fd ["script","k"] (qx K):=by
 refine F.ok qy (λvs H Q E h=>?_) (λbZ A outer s H vs Q E hr h=>?_)
 ·obtain⟨a,ns,k,rfl,_⟩:=h;rfl
 ·obtain⟨a,ns,k,rfl,hq,hz,k0,k1,q⟩:=h;have ex:(ns.map V.int).length=ns.length:=bI _;refine⟨_,bo (cg (i:=2) qy.nd rfl (.inl rfl) (gv (RR rfl) rfl T.max V4 (aN aW (aN (bc jy (gv (kc K rfl) rfl T.len kd (aN (pv 0) aU)) aW) aU)))) (bo (cg (i:=3) qy.nd rfl (.inl rfl) aW) (bo (dR (df sV (gv (kc K rfl) rfl T.len kd (aN (pv 0) aU)) aW (de _)) (bV (cg (i:=3) qy.nd rfl (.inl rfl) (bH (dB K rfl) (pv 0) (bc fH (bc eK aW (pv 1)) (gv (kc K rfl) rfl T.len kd (aN (pv 0) aU))) (λ_ _=>rfl)))) e8) (bo (dR (PW.pt (pY (df sV (gv (kc K rfl) rfl T.len kd (aN (pv 0) aU)) aW (de _)) (sO (df gJ (bc fH (bH (dB K rfl) (pv 0) aW (λ_ _=>rfl)) aW) aW (de _))))) (bo (cg (i:=3) qy.nd rfl (.inl rfl) (bH (dB K rfl) (pv 0) (bc eK aW (bc fH (pv 1) (pv 2))) (λ_ _=>rfl))) (bo (nk nQ rfl (l5 rfl T.range (aN (gv (RT rfl) rfl T.min V5 (aN (bc zM (pv 1) (pv 2)) (aN aW aU))) aU)) (cG (i:=4) qy.nd rfl (.inl rfl)) (bV (cg (i:=3) qy.nd rfl (.inl rfl) (bc zM (pv 3) aW)))) (bV (cO (bc fH (pv 3) aW))))) e8) (bo (cg (i:=5) qy.nd rfl (.inl rfl) (bc fH (bc l6 (bc eK (bc eK (bc fH (pv 3) aW) aW) (bc l6 aW (bc zM (pv 1) (pv 2)))) aW) aW)) (bo (cg (i:=5) qy.nd rfl (.inl rfl) (bc fH (bc l6 (pv 5) (pv 5)) aW)) (bV (cO (bc fH (bc l6 (pv 5) aW) aW)))))))),?_⟩;refine⟨_,rfl,a,_,rfl,.inl hq,_,_,rfl,rfl,1,_,rfl,?_⟩;have hm:(1:Int)≤(if(((ns.map V.int).length:Int)-1)>1 then(((ns.map V.int).length:Int)-1)else 1)∧(if(((ns.map V.int).length:Int)-1)>1 then(((ns.map V.int).length:Int)-1)else 1)≤63∧(1<ns.length→(if(((ns.map V.int).length:Int)-1)>1 then(((ns.map V.int).length:Int)-1)else 1)=(ns.length:Int)-1):=by
   rw[ex];split<;>lia
  dsimp only[br];generalize (if(((ns.map V.int).length:Int)-1)>1 then(((ns.map V.int).length:Int)-1)else 1)=m at hm ⊢
  obtain⟨m0,m1,m2⟩:=hm;refine Fx (λσ H'=>H'=H∧σ=[some (.ref a),some (.int k),some (.int m),some (.int 0),none,none]) (λN hN=>hN _ _ ⟨rfl,rfl⟩) (λσ0 H0 h0=>?_);obtain⟨rfl,rfl⟩:=h0;refine Fx (NQ a k m H0) (λN hN=>?_) (λσ1 H1 hJ=>?_)
  ·refine⟨_,rfl,a,_,rfl,.inl hq,_,_,rfl,rfl,_,rfl,lC (λhc=>?_) (λ_=>hN _ _ ⟨rfl,_,_,_,rfl⟩)⟩;have FJ:0<ns.length:=by have:=aJ hc;rw[ex]at this;lia
   have NR:(0:Int)<((ns.map V.int).length:Int):=by rw[ex];lia
   have i0:0≤(1+k)%((ns.map V.int).length:Int):=ky _ (by lia);have i1:(1+k)%((ns.map V.int).length:Int)<((ns.map V.int).length:Int):=kz _ NR;obtain⟨j,ej,hj⟩:∃j:Nat,(1+k)%((ns.map V.int).length:Int)=(j:Int)∧j<ns.length:=⟨((1+k)%((ns.map V.int).length:Int)).toNat,by lia,by lia⟩;refine⟨_,rfl,_,rfl,_,_,rfl,rfl,_,rfl,a,_,rfl,.inl hq,_,_,rfl,rfl,NR,a,_,(j:Int),_,rfl,ao V.int ej,hq,cm (Hi hj),hN _ _ ⟨rfl,_,_,_,rfl⟩⟩
  obtain⟨rfl,c,s4,s5,rfl⟩:=hJ;refine Fx (NQ a k m H1) (λN hN=>?_) (λσ2 H2 hJ=>?_)
  ·refine⟨_,rfl,a,_,rfl,.inl hq,_,_,rfl,rfl,_,rfl,lC (λhc=>?_) (λ_=>dY (hN _ _ ⟨rfl,_,_,_,rfl⟩))⟩;have FJ:1<ns.length:=by have:=aJ hc;rw[ex]at this;lia
   have em:=m2 FJ;refine⟨_,rfl,a,_,0,_,rfl,rfl,hq,cm (j:=0) (Hi (by lia)),_,_,rfl,rfl,(by show(0:Int)<2;decide),rfl,_,rfl,lC (λ_=>?_) (λ_=>hN _ _ ⟨rfl,_,_,_,rfl⟩)⟩;have i0:0≤k%m:=ky _ (by lia);have i1:k%m<m:=kz _ (by lia);refine⟨_,rfl,_,rfl,_,rfl,_,_,rfl,rfl,(by show(0:Int)<m;lia),_,_,rfl,rfl,a,_,((1+k%m).toNat:Int),_,rfl,ao V.int (by lia),hq,cm (Hi (by lia)),?_⟩;have d0:0≤k/m:=Int.ediv_nonneg k0 (by lia);refine⟨_,rfl,_,rfl,_,_,rfl,rfl,⟨by show(0:Int)<m;lia,by show m<1073741824;lia⟩,_,60,rfl,?_⟩;have Zz:0≤(if(60:Int)<k/m then 60 else k/m)∧(if(60:Int)<k/m then 60 else k/m)≤60:=by split<;>lia
   obtain⟨r,lK⟩:∃r:Int,(if(60:Int)<k/m then 60 else k/m)=r:=⟨_,rfl⟩
   rw[lK]at Zz;refine⟨r,ao (λz=>[V.int z]) lK,by lia,by lia,sT (n:=r.toNat) (λi σ H'=>H'=H1∧∃c' st,σ=[some (.ref a),some (.int k),some (.int m),some (.int c'),st,s5]) ⟨rfl,ns.getD (1+k%m).toNat 0,s4,rfl⟩ ?_ ?_⟩
   ·rintro i σ H' hi ⟨rfl,c',st,rfl⟩;exact⟨_,rfl,_,_,rfl,rfl,⟨by decide,by decide⟩,rfl,_,_,rfl⟩
   ·rintro σ H' ⟨rfl,c',st,rfl⟩;refine⟨_,rfl,_,_,rfl,rfl,(by show(0:Int)<1000003;decide),q _ (ky _ (by decide)) ?_⟩
    have:=kz c' (show(0:Int)<1000003 by decide)
    lia
  obtain⟨rfl,c,s4,s5,rfl⟩:=hJ;refine⟨_,rfl,_,_,rfl,rfl,(by show(0:Int)<2147483629;decide),_,_,rfl,rfl,_,rfl,_,rfl,_,_,rfl,rfl,⟨by show(0:Int)<m;lia,by show m<1073741824;lia⟩,_,_,rfl,rfl,.inl ⟨by decide,by decide⟩,_,_,rfl,rfl,_,_,rfl,rfl,.inr ⟨by decide,by decide⟩,_,_,rfl,rfl,(by show(0:Int)<2147483629;decide),?_⟩;have y0:0≤(c%2147483629+11+75577*(k/m))*62233%2147483629:=ky _ (by decide);have y1:(c%2147483629+11+75577*(k/m))*62233%2147483629<2147483629:=kz _ (by decide);dsimp only;generalize (c%2147483629+11+75577*(k/m))*62233%2147483629=y at y0 y1 ⊢;refine⟨_,rfl,_,rfl,_,_,rfl,rfl,.inl ⟨by lia,by lia⟩,_,_,rfl,rfl,(by show(0:Int)<2147483587;decide),?_⟩;dsimp only;generalize y*y%2147483587=y2;refine⟨_,rfl,_,_,rfl,rfl,.inr ⟨by decide,by decide⟩,_,_,rfl,rfl,(by show(0:Int)<2147483579;decide),q _ (ky _ (by decide)) ?_⟩
  have:=kz (y2*40487) (show(0:Int)<2147483579 by decide)
  lia
noncomputable def L6:List Int:=[2,3,5,7,11,97]
theorem ZA:∀j:Nat,j<6→∃q,L6[j]?=some q∧q∈cW:=by decide +kernel
def Hj(K:Frag):Sp:=λvs H Q _=>∃(a:Addr)(ns:List Int),vs=[.ref a]∧cV K H a (ns.map V.int)∧ns.length≤63∧∀p H',p∈cW→aO H H'→Q (.int p) H'
theorem ZC:c8 ["script"] ["script"] (bG Fp):=dz rfl rfl rfl (by decide +kernel) rfl
theorem ZD{f fD:Addr}{gO:FuncData}(F:cD K "_law_prime" "_law_prime" Fp f fd)
  (GD:bz P w K mg base bx 1 fD gO ["script","k"] (qx K)) (kD:Kp K fD) (bD:Binds K gO ["script","k"] []) (mD:Mg mg "_law_draw" fD):bz P w K mg base bx 2 f fd ["script"] (Hj K):=by
 refine F.ok ZC (λvs H Q E h=>?_) (λbZ A outer s H vs Q E hr h=>?_)
 ·obtain⟨a,ns,rfl,_⟩:=h;rfl
 ·obtain⟨a,ns,rfl,hq,hz,q⟩:=h;refine⟨_,bV (cO (bH (dB K rfl) (gK (aN aW (aN aW (aN aW (aN aW (aN aW (aN aW aU))))))) (bc fH (cQ GD hr rfl mD kD bD .nil cR (aN (pv 0) (aN aW aU))) aW) (λ_ _=>rfl))),?_⟩;refine⟨(by show 6≤sizeLine;decide),λl hl=>⟨_,rfl,a,ns,0,rfl,(aO.upd hl).seq hq,hz,by decide,by decide,λd d0 d1=>?_⟩⟩;have e0:0≤d%6:=ky _ (by decide);have e1:d%6<6:=kz _ (by decide);obtain⟨pr,h1,h2⟩:=ZA (d%6).toNat (by lia);refine⟨_,_,rfl,rfl,(by show(0:Int)<6;decide),l,L6.map V.int,((d%6).toNat:Int),.int pr,rfl,ao V.int (by lia),.of aY,cm ?_,q _ _ h2 (.upd hl)⟩;rw[eU,h1];rfl
noncomputable def Cc(n k:Nat):List Int:=List.replicate k 0++[1]++List.replicate (n-k-1) 0
def Cd(K:Frag):Sp:=λvs H Q _=>∃(n k:Nat)(i j:Int),vs=[.int i,.int j]∧i=n∧j=k∧k<n∧n≤900∧gM K H ((Cc n k).map V.int) Q
theorem ZE:c8 ["length","at"] ["length","at"] (bG Fu):=dz rfl rfl rfl (by decide +kernel) rfl
theorem NT(n:Nat):(List.replicate n [V.int 0]).flatten=(List.replicate n (0:Int)).map V.int:=by rw[LH,List.map_replicate]
theorem NU{f:Addr}(F:cD K "_law_unit" "_law_unit" Fu f fd):bz P w K mg base bx 1 f fd ["length","at"] (Cd K):=by
 refine F.ok ZE (λvs H Q E h=>?_) (λbZ A outer s H vs Q E hr h=>?_)
 ·obtain⟨n,k,i,j,rfl,_⟩:=h;rfl
 ·obtain⟨n,k,i,j,rfl,rfl,rfl,hk,hn,q⟩:=h;have nI:(1000:Nat)≤sizeLine:=by decide
  refine⟨_,bV (cO (bc (eE K rfl) (bc (eE K rfl) (bc (nB K rfl) (cI (aN aW aU)) (pv 1)) (cI (aN aW aU))) (bc (nB K rfl) (cI (aN aW aU)) (bc jy (bc jy (pv 0) (pv 1)) aW)))),?_⟩;refine⟨by decide,λt1 h1=>⟨_,rfl,t1,(k:Int),_,rfl,rfl,.of aY,by simp,by lia,by lia,(by show 1*((k:Nat):Int).toNat≤sizeLine;lia),λt2 H2 s2 gF=>?_⟩⟩;rw[Int.toNat_natCast,NT]at gF;refine⟨by decide,λt3 h3=>⟨t2,t3,_,_,rfl,rfl,(aO.upd h3).bu gF,.of aY,?_,λt4 H4 s4 vJ=>?_⟩⟩
  ·rw[bI,eV];show k+1≤sizeLine;lia
  refine⟨by decide,λt5 h5=>⟨_,rfl,_,rfl,_,_,rfl,rfl,_,_,rfl,rfl,t5,(n:Int)-(k:Int)-1,_,rfl,rfl,.of aY,by simp,by lia,by lia,(by show 1*((n:Int)-(k:Int)-1).toNat≤sizeLine;lia),λt6 H6 s6 yj=>?_⟩⟩;have e:((n:Int)-(k:Int)-1).toNat=n-k-1:=by lia
  rw[e,NT]at yj;refine⟨t4,t6,_,_,rfl,rfl,((aO.upd h5).trans s6).bu vJ,yj,?_,λt7 H7 s7 GG=>?_⟩
  ·simp only[cq,bI,eV,eW,qM];lia
  refine q t7 H7 (((aO.upd h1).trans s2).trans ((aO.upd h3).trans (s4.trans ((aO.upd h5).trans (s6.trans s7))))) ?_;unfold Cc;rw[cS,cS];exact GG
theorem NV:(["row"]:List Str).Nodup:=by decide +kernel
theorem ZF:(["k","at","head","p","row"]:List Str).Nodup:=by decide +kernel
def Hk(K:Frag):Sp:=λvs H Q _=>∃(p:Int)(a b:Addr)(x h:List Int)(n j:Nat)(i:Int),vs=[.int p,.ref a,.ref b,.int i]∧i=j∧2≤p∧p≤97∧n≤900∧j<n∧H a=some (.lst (x.map V.int))∧H b=some (.lst (h.map V.int))∧Rw p n x∧Rw p n h∧
 ∀l H',aO H H'→H l=none→H' l=some (.lst ((mn p j h x).map V.int))→Q (.ref l) H'
theorem ZG:c8 ["p","row","head","at"] ["p","row","head","at"] (bG Bd):=dz rfl rfl rfl (by decide +kernel) rfl
theorem ZH{f:Addr}(F:cD K "_law_less" "_law_less" Bd f fd)(T:Txt mg):bz P w K mg base bx 1 f fd ["p","row","head","at"] (Hk K):=by
 refine F.ok ZG (λvs H Q E h=>?_) (λbZ A outer s H vs Q E hr h=>?_)
 ·obtain⟨p,a,b,x,h,n,j,i,rfl,_⟩:=h;rfl
 ·obtain⟨p,a,b,x,h,n,j,i,rfl,rfl,p2,dh,hn,hj,ga,gb,hx,hh,k⟩:=h;have nI:(1000:Nat)≤sizeLine:=by decide
  refine⟨_,bV (cO (gW (N:=["k","at","head","p","row"]) (own:=1) (caps:=[3,2,0,1]) rfl (l5 rfl T.range (aN (gv (kc K rfl) rfl T.len kd (aN (pv 1) aU)) aU)) (show dg ["p","row","head","at"] (bG Bd) ["k","at","head","p","row"] 1 [3,2,0,1] _ from .mk' (by decide +kernel)) (λ_ _ _ _ _=>cG (i:=0) ZF rfl (.inl rfl)) (λ_ _ _ _ _=>fj) (λ_ _ _ _ _=>bc fH (bc jy (bH (dB K rfl) (pv 4) (pv 0) (λ_ _=>rfl)) (bc l6 (bH (dB K rfl) (pv 4) (pv 1) (λ_ _=>rfl)) (bH (dB K rfl) (pv 2) (pv 0) (λ_ _=>rfl)))) (pv 3)))),?_⟩
  have ex:(x.map V.int).length=n:=by rw[bI,hx.1]
  have hxj:=hx.at (by lia) j;refine⟨_,rfl,a,_,rfl,.inl (.of ga),(((x.map V.int).length:Nat):Int),rfl,by lia,by rw[ex];lia,tG (n:=(x.map V.int).length) (lo:=0) (cp:=[some (.int (j:Int)),some (.ref b),some (.int p),some (.ref a)]) (λi H' zs=>zs=((mn p j h x).take i).map V.int) (by rw[ex];lia) rfl (λi H' zs e=>by rw[e,bI];exact si _ _) ?_ ?_⟩
  ·rintro i H1 zs hi sm rfl;rw[ex]at hi;rw[nc];have Ai:i<x.length:=by rw[hx.1];exact hi
   have NW:i<h.length:=by rw[hh.1];exact hi
   refine jq ⟨_,rfl,_,rfl,a,_,(i:Int),_,rfl,rfl,.of (sm _ _ ga),cm (qi Ai),_,rfl,_,rfl,a,_,(j:Int),_,rfl,rfl,.of (sm _ _ ga),cm (qi (by rw[hx.1];exact hj)),_,rfl,_,rfl,b,_,(i:Int),_,rfl,rfl,.of (sm _ _ gb),cm (qi NW),_,_,rfl,rfl,.inl ⟨by lia,by lia⟩,_,_,rfl,rfl,_,rfl,_,_,rfl,rfl,(by show(0:Int)<p;lia),⟨[_],rfl,rfl⟩,sm,?_⟩;have e3:(mn p j h x)[i]?=some ((x.getD i 0-x.getD j 0*h.getD i 0)%p):=by
    unfold mn gj;rw[List.getElem?_zipWith,xP Ai,xP NW];show some ((x.getD i 0 + -(x.getD j 0)*h.getD i 0)%p)=_;rw[Int.neg_mul,← Int.sub_eq_add_neg]
   rw[gH,e3];simp
  ·rintro H1 zs sm rfl lq nJ;rw[ex,mZ (by unfold mn gj;rw[List.length_zipWith,hx.1,hh.1];lia)];exact k lq _ (sm.trans (.upd nJ)) (vB sm nJ) aY
theorem ZI:(["k","at","left"]:List Str).Nodup:=by decide +kernel
theorem ZJ:(["k","at","head","p"]:List Str).Nodup:=by decide +kernel
theorem ZK:(["number","p","turn"]:List Str).Nodup:=by decide +kernel
theorem NX:(["row","at","head","p"]:List Str).Nodup:=by decide +kernel
theorem NY{H:Hp}{la lh:Addr}{LS:List V}{L:LL}{n k:Nat}{h:List Int}{N:Addr→Prop}{Q:VK}{te:TE}(p2:2≤p)(dh:p≤97)(hn:n≤900)(hk:k<n)(g:H la=some (.lst LS))(hL:LR N H LS L)(hR:cz p n L)(gh:H lh=some (.lst (h.map V.int)))(hh:Rw p n h)(hz:LS.length≤1000)
  (FG:∀(x:Addr)(H1:Hp)(R:VK),Hk K [.int p,.ref x,.ref lh,.int (k:Int)] H1 R (λ_ _ _=>False)→te [some (.ref x),some (.int (k:Int)),some (.ref lh),some (.int p)] H1 R)
  (done:∀H' MS,aO H H'→LR (λa=>H a=none) H' MS (L.map (mn p k h))→∀l,H' l=none→Q (.ref l) (upd H' l (.lst MS))) :
  ∃W:Nat→Nat→St→Hp→List V→Prop,(∃m,W 0 m (List.replicate 1 none++[some (.int (k:Int)),some (.ref lh),some (.int p)]) H [])∧jO (nY K la) (br 0) g6 te Q W:=by
 refine qd (xs:=LS) (cp:=[some (.int (k:Int)),some (.ref lh),some (.int p)]) (λi H' zs=>LR (λa=>H a=none) H' zs ((L.take i).map (mn p k h))) (.of g) (pR (Ac hz)) LR.nil
  (λi H' zs h=>by rw[h.1,bI];exact si _ _) ?_ ?_
 ·rintro i x H' zs iQ sm h';obtain⟨a,r,rfl,hr,_,ga⟩:=hL.get iQ;have FN:=hR r (gT hr);refine jq (FG a H' _ ⟨p,a,lh,r,h,n,k,(k:Int),rfl,rfl,p2,dh,hn,hk,sm _ _ ga,sm _ _ gh,FN,hh,λl H2 s2 ZL gl=>?_⟩);refine⟨⟨[_],rfl,rfl⟩,sm.trans s2,?_⟩;rw[gH,hr];show LR _ H2 _ ((L.take i++[r]).map (mn p k h));rw[cS];exact(h'.mono s2).snoc (vB sm ZL) gl
 ·rintro H' zs sm h' l hl;rw[hL.1,lV]at h';exact done H' zs sm h' l hl
def Hl(K:Frag):Sp:=λvs H Q _=>∃(p:Int)(a:Addr)(b:Bool)(XS:List V)(rs:LL)(n:Nat)(m:Int),vs=[.int p,.ref a,.int m]∧m=n∧p∈cW∧Sq b K H a XS∧bN K H XS (rs.map cy)∧rs.length≤1000∧n≤900∧cz p n rs∧
 ∀t H' DS,aO H H'→bh K H' t DS→bN K H' DS ((dt p rs).map cy)→Q (.ref t) H'
noncomputable abbrev ue:List Str:=["p","rows","width","left","done","at","some","head","turn"]
theorem pI:c8 ["p","rows","width","left","done","at","some","head","turn"] ["p","rows","width"] (bG pq):=dz rfl rfl rfl (by decide +kernel) rfl
theorem ZM{f fL:Addr}{mv:FuncData}(F:cD K "_law_reduced" "_law_reduced" pq f fd)(T:Txt mg)
  (GL:bz P w K mg base bx 1 fL mv ["p","row","head","at"] (Hk K)) (kL:Kp K fL) (bL:Binds K mv ["p","row","head","at"] []) (mL:Mg mg "_law_less" fL) :
  bz P w K mg base bx 2 f fd ["p","rows","width"] (Hl K):=by
 refine F.ok pI (λvs H Q E h=>?_) (λbZ A outer s H vs Q E hr h=>?_)
 ·obtain⟨p,a,b,XS,rs,n,m,rfl,_⟩:=h;rfl
 ·obtain⟨p,a,b,XS,rs,n,m,rfl,rfl,pp,hq,hA,hz,hn,hR,q⟩:=h;obtain⟨p2,dh⟩:=iD p pp;have p0:0<p:=by lia
  have nI:(1000:Nat)≤sizeLine:=by decide
  have ZN:=gz hA;refine⟨_,bo (cg (i:=3) pI.nd rfl (Or.inr rfl) (gW (N:=["row"]) (own:=1) (caps:=[]) rfl (Nu K rfl b (pv 1)) (show dg ue (bG pq) ["row"] 1 [] _ from .mk' (by decide +kernel)) (λ_ _ _ _ _=>cG (i:=0) NV rfl (.inl rfl)) (λ_ _ _ _ _=>fj) (λ_ _ _ _ _=>iX (EO K rfl) rfl T.list ER (aN (pv 0) aU)))) (bo (cg (i:=4) pI.nd rfl (.inl rfl) (gK aU)) (bo (nk nQ rfl (l5 rfl T.range (aN (pv 2) aU)) (cG (i:=5) pI.nd rfl (Or.inr rfl)) (bo (me (i:=6) (N:=["k","at","left"]) (own:=1) (caps:=[5,3]) rfl pI.nd rfl rfl (l5 rfl T.range (aN (gv (kc K rfl) rfl T.len kd (aN (pv 3) aU)) aU)) (show dg ue (bG pq) ["k","at","left"] 1 [5,3] _ from .mk' (by decide +kernel)) (λ_ _ _ _ _=>cG (i:=0) ZI rfl (.inl rfl)) (λ_ _ _ _ _=>tE (df zN (bH (dB K rfl) (bH (dB K rfl) (pv 2) (pv 0) (λ_ _=>rfl)) (pv 1) (λ_ _=>rfl)) aW (de _))) (λ_ _ _ _ _=>pv 0)) (bV (dR (df sV (gv (kc K rfl) rfl T.len kd (aN (pv 6) aU)) aW (de _)) (bo (cg (i:=7) pI.nd rfl (Or.inr rfl) (jz jH Dt Du Aa (pv 3) (aN (bH (dB K rfl) (pv 6) aW (λ_ _=>rfl)) aU))) (bo (cg (i:=8) pI.nd rfl (Or.inr rfl) (bH (dB K rfl) (gW (N:=["k","at","head","p"]) (own:=1) (caps:=[5,7,0]) rfl (RG rfl T.range (aN aW (aN (pv 0) aU))) (show dg ue (bG pq) ["k","at","head","p"] 1 [5,7,0] _ from .mk' (by decide +kernel)) (λ_ _ _ _ _=>cG (i:=0) ZJ rfl (.inl rfl)) (λ_ _ _ _ _=>tE (df gJ (bc fH (bc l6 (pv 0) (bH (dB K rfl) (pv 2) (pv 1) (λ_ _=>rfl))) (pv 3)) aW (de _))) (λ_ _ _ _ _=>pv 0)) aW (λ_ _=>rfl))) (bo (cg (i:=7) pI.nd rfl (Or.inr rfl) (gW (N:=["number","p","turn"]) (own:=1) (caps:=[0,8]) rfl (jo K rfl (pv 7)) (show dg ue (bG pq) ["number","p","turn"] 1 [0,8] _ from .mk' (by decide +kernel)) (λ_ _ _ _ _=>cG (i:=0) ZK rfl (.inl rfl)) (λ_ _ _ _ _=>fj) (λ_ _ _ _ _=>bc fH (bc l6 (pv 0) (pv 2)) (pv 1)))) (bo (cg (i:=3) pI.nd rfl (Or.inr rfl) (gW (N:=["row","at","head","p"]) (own:=1) (caps:=[5,7,0]) rfl (jo K rfl (pv 3)) (show dg ue (bG pq) ["row","at","head","p"] 1 [5,7,0] _ from .mk' (by decide +kernel)) (λ_ _ _ _ _=>cG (i:=0) NX rfl (.inl rfl)) (λ_ _ _ _ _=>fj) (λ_ _ _ _ _=>cQ GL hr rfl mL kL bL .nil cR (aN (pv 3) (aN (pv 0) (aN (pv 2) (aN (pv 1) aU))))))) (bV (cg (i:=4) pI.nd rfl (.inl rfl) (bc o9 (gW (N:=["row","at","head","p"]) (own:=1) (caps:=[5,7,0]) rfl (jo K rfl (pv 4)) (show dg ue (bG pq) ["row","at","head","p"] 1 [5,7,0] _ from .mk' (by decide +kernel)) (λ_ _ _ _ _=>cG (i:=0) NX rfl (.inl rfl)) (λ_ _ _ _ _=>fj) (λ_ _ _ _ _=>cQ GL hr rfl mL kL bL .nil cR (aN (pv 3) (aN (pv 0) (aN (pv 2) (aN (pv 1) aU)))))) (gK (aN (pv 7) aU)))))))))
     e8)))) (bV (cO (iX (mi K rfl) rfl T.tuple mj (aN (gW (N:=["row"]) (own:=1) (caps:=[]) rfl (jo K rfl (pv 4)) (show dg ue (bG pq) ["row"] 1 [] _ from .mk' (by decide +kernel)) (λ_ _ _ _ _=>cG (i:=0) NV rfl (.inl rfl)) (λ_ _ _ _ _=>fj) (λ_ _ _ _ _=>iX (mi K rfl) rfl T.tuple mj (aN (pv 0) aU))) aU)))))),?_⟩
  refine⟨_,rfl,a,rfl,⟨_,hq⟩,Nv (b:=b) (cp:=[]) (λi H' zs=>LR (λ_=>True) H' zs (rs.take i)) hq (by lia) LR.nil (λi H' zs h=>by rw[h.1];exact si _ _) ?_ ?_⟩
  ·rintro i x H1 zs hx sm h1;obtain⟨r,ra,jV,rfl,du⟩:=ox hA hx;refine jq ⟨_,rfl,ra,_,rfl,.inr (sm.bu du),λl hl=>⟨⟨[_],rfl,rfl⟩,sm.trans (.upd hl),?_⟩⟩;rw[gH,jV];exact(h1.mono (.upd hl)).snoc trivial aY
  rintro H1 LS lJ lH ll pJ;rw[ZN,lV]at lH;refine⟨by decide,λld tO=>?_⟩;have yF:ld≠ll:=λz=>by rw[z,aY]at tO;cases tO
  have ot:aO H (upd (upd H1 ll (.lst LS)) ld (.lst [])):=(lJ.trans (.upd pJ)).trans (.upd tO);refine⟨_,rfl,(n:Int),rfl,by lia,by lia,sT (n:=n) (λk σ H'=>aO H H'∧∃(ll ld:Addr)(LS DS:List V)(L D:LL)(s5 s6 s7 s8:Option V),σ=[some (.int p),some (.ref a),some (.int (n:Int)),some (.ref ll),some (.ref ld),s5,s6,s7,s8]∧H ll=none∧ld≠ll∧H' ll=some (.lst LS)∧LR (·≠ll) H' LS L∧H' ld=some (.lst DS)∧LR (·≠ll) H' DS D∧jr p n rs k (D,L)∧L.length≤1000) ⟨ot,ll,ld,LS,[],rs,[],_,_,_,_,rfl,vB lJ pJ,yF,aO.upd tO _ _ aY,(lH.fresh pJ).mono (.upd tO),aY,LR.nil,.start hR,hz⟩ ?_ ?_⟩
  ·rintro k σ H2 hk ⟨sm,ll,ld,LS,DS,L,D,s5,s6,s7,s8,rfl,Hm,yF,gL,hL,gD,hD,RO,NZ⟩;rw[nc];have Hn:cz p n L:=RO.r;have N0:cz p n D:=RO.d;have rN:=hL.1;have N1:=hD.1;have ZO:=RO.len (pR hk);refine⟨_,rfl,ll,_,rfl,.inl (.of gL),(LS.length:Int),rfl,by lia,by lia,tG (n:=LS.length) (lo:=0) (cp:=[some (.int (k:Int)),some (.ref ll)]) (λj H' zs=>zs=((List.range j).filter λu=>(L.map λr=>r.getD k 0).getD u 0≠0).map λ(u:Nat)=>V.int u) (by lia) rfl (λj H' zs e=>by rw[e,bI];exact gp (Dv _ _) (by rw[kH];exact cC _)) ?_ ?_⟩
   ·rintro j H' zs hj i6 rfl;rw[nc];have Ho:j<L.length:=by lia
    obtain⟨ra,du,_,gr⟩:=hL.at (cM Ho);have ZP:k<(L[j]).length:=by rw[(Hn _ (jG Ho)).1];exact hk
    have ec:(L.map λr=>r.getD k 0).getD j 0=(L[j]).getD k 0:=by rw[cL,eU,cM Ho];rfl
    refine⟨_,rfl,_,rfl,ll,_,(j:Int),.ref ra,rfl,rfl,.of (i6 _ _ gL),cm du,_,rfl,ra,_,(k:Int),_,rfl,rfl,.of (i6 _ _ gr),cm (qi ZP),rfl,_,rfl,xQ (λdM=>?_) (λheq=>?_)⟩
    ·have xU:(L.map λr=>r.getD k 0).getD j 0≠0:=λz=>dM (ao V.int (ec▸z));refine⟨_,rfl,⟨[_],rfl,rfl⟩,i6,?_⟩;rw[sj,uJ,zt (by simpa using xU),uK,cS];rfl
    ·have xV:(L.map λr=>r.getD k 0).getD j 0=0:=ec.trans (V.int.inj heq);refine⟨⟨[_],rfl,rfl⟩,i6,?_⟩;rw[sj,uJ,Ds (by simpa using xV),uK,ij]
   rintro H3 zs oy ez ls ZQ;have ez:zs=(pf (L.map λr=>r.getD k 0)).map λ(u:Nat)=>V.int u:=by
    unfold pf;rw[bI,← rN];exact ez
   have kg:aO H2 (upd H3 ls (.lst zs)):=oy.trans (.upd ZQ);have g4:(upd H3 ls (.lst zs)) ls=some (.lst zs):=aY;generalize upd H3 ls (.lst zs)=H4 at kg g4 ⊢;subst ez;have Hq:=kg _ _ gL;have Ag:=kg _ _ gD;have Hr:=hL.mono kg;have N2:=hD.mono kg;refine⟨_,rfl,ls,_,rfl,.inl (.of g4),_,_,rfl,rfl,_,rfl,lC (λhc=>?_) (λhc=>?_)⟩
   ·cases iN:pf (L.map λr=>r.getD k 0) with
    |nil=>
     rw[iN]at hc;exact absurd (aJ hc) (by simp)
    |cons i tl=>
     obtain⟨c1,c2,c3⟩:=UY iN;rw[bI]at c1;have hi:=cM c1;have ec:∀{j:Nat}{r:List Int},L[j]?=some r→(L.map λr=>r.getD k 0).getD j 0=r.getD k 0:=λe=>by rw[cL,eU,e];rfl
     rw[ec hi]at c2;have hf:∀j r,j<i→L[j]?=some r→r.getD k 0=0:=λj r hj e=>by rw[← ec e];exact c3 j hj
     have nG:Rw p n L[i]:=Hn _ (jG c1);have Ce:=RO.head pp hk hi c2 hf;obtain⟨ha,gk,ZR,gh⟩:=Hr.at hi;generalize L[i]=h at hi c2 nG Ce gh;rw[iN]at g4;refine⟨_,rfl,.inl ⟨rfl,_,cV.of Hq⟩,_,rfl,ls,_,0,.int (i:Int),rfl,rfl,.of g4,cm (j:=0) rfl,ll,LS,(i:Int),i,.ref ha,rfl,rfl,Hq,by lia,by lia,?_,gk,?_⟩
     ·unfold seqIndex?;simp;lia
     have rk:aO H (upd H4 ll (.lst (LS.eraseIdx i))):=(sm.trans kg).write Hm;have gA:(upd H4 ll (.lst (LS.eraseIdx i))) ll=some (.lst (LS.eraseIdx i)):=aY;have Cf:(upd H4 ll (.lst (LS.eraseIdx i))) ha=some (.lst (h.map V.int)):=by rw[cF ZR];exact gh
     have N3:LR (·≠ll) (upd H4 ll (.lst (LS.eraseIdx i))) (LS.eraseIdx i) (L.eraseIdx i):=(Hr.erase i).wr;have N4:LR (·≠ll) (upd H4 ll (.lst (LS.eraseIdx i))) DS D:=N2.wr;have Hs:(upd H4 ll (.lst (LS.eraseIdx i))) ld=some (.lst DS):=by rw[cF yF];exact Ag
     generalize upd H4 ll (.lst (LS.eraseIdx i))=H5 at rk gA Cf N3 N4 Hs ⊢;have ZT:k<h.length:=by rw[nG.1];exact hk
     have ZU:=nG.at p0 k;have xh:=xx (n:=h.getD k 0) pp (by lia) ZU.2;refine⟨_,rfl,1,p,rfl,⟨by decide,by decide,by lia,by lia⟩,tG (n:=(p-1).toNat) (lo:=1) (cp:=[some (.int (k:Int)),some (.ref ha),some (.int p)]) (λj H' zs=>zs=((List.range j).filter λ(u:Nat)=>(1+(u:Int))*h.getD k 0%p=1).map λ(u:Nat)=>V.int (1+(u:Int))) (by lia) rfl (λj H' zs e=>by rw[e,bI];exact gp (Dv _ _) (by rw[kH];exact cC _)) ?_ ?_⟩
     ·rintro j H' zs hj i6 rfl;refine⟨_,rfl,_,rfl,_,rfl,ha,_,(k:Int),_,rfl,rfl,.of (i6 _ _ Cf),cm (qi ZT),_,_,rfl,rfl,.inl ⟨by lia,by lia⟩,_,rfl,_,_,rfl,rfl,(by show(0:Int)<p;lia),rfl,_,rfl,lC (λheq=>?_) (λdM=>?_)⟩
      ·have xV:(1+(j:Int))*h.getD k 0%p=1:=V.int.inj (aJ heq);refine⟨_,rfl,⟨[_],rfl,rfl⟩,i6,?_⟩;rw[sj,uJ,zt (by simpa using xV),uK,cS];rfl
      ·have xU:¬(1+(j:Int))*h.getD k 0%p=1:=λz=>dM (aG (ao V.int z));refine⟨⟨[_],rfl,rfl⟩,i6,?_⟩;rw[sj,uJ,Ds (by simpa using xU),uK,ij]
     rintro H8 zs qm N5 lc yd;have N6:(eF p (h.getD k 0)-1).toNat∈(List.range (p-1).toNat).filter λ(u:Nat)=>(1+(u:Int))*h.getD k 0%p=1:=by
      refine mY.mpr ⟨oS.mpr (by lia),?_⟩
      have:(1:Int)+((eF p (h.getD k 0)-1).toNat:Int)=eF p (h.getD k 0):=by lia
      simp only[this,aI];exact xh.2.2
     cases tM:(List.range (p-1).toNat).filter λ(u:Nat)=>(1+(u:Int))*h.getD k 0%p=1 with
     |nil=>rw[tM]at N6;cases N6
     |cons u us=>
      have tR:u∈(List.range (p-1).toNat).filter λ(u:Nat)=>(1+(u:Int))*h.getD k 0%p=1:=by rw[tM];exact dj
      have yG:=mY.mp tR;have N7:(1+(u:Int))*h.getD k 0%p=1:=by simpa using yG.2
      have hu4:=oS.mp yG.1;rw[tM]at N5;have qo:aO H5 (upd H8 lc (.lst zs)):=qm.trans (.upd yd);have g9:(upd H8 lc (.lst zs)) lc=some (.lst zs):=aY;generalize upd H8 lc (.lst zs)=H9 at qo g9 ⊢;subst N5;refine⟨lc,_,0,.int (1+(u:Int)),rfl,rfl,.of g9,cm (j:=0) rfl,?_⟩;have N8:1≤1+(u:Int):=by lia
      have N9:1+(u:Int)<p:=by lia
      generalize 1+(u:Int)=cu at N7 N8 N9 ⊢;have ZV:=V9 pp nG c2 N8 N9 N7;refine⟨_,rfl,ha,rfl,⟨_,.of (qo _ _ Cf)⟩,qd (cp:=[some (.int p),some (.int cu)]) (λj H' zs=>zs=((h.take j).map λy=>y*cu%p).map V.int) (.of (qo _ _ Cf)) (by rw[bI,nG.1];lia) rfl (λj H' zs e=>by rw[e,bI,bI];exact si _ _) ?_ ?_⟩
      ·rintro j y H' zs hy i6 rfl;rw[eU]at hy;cases f1:h[j]? with
       |none=>rw[f1]at hy;cases hy
       |some y'=>
        rw[f1]at hy;cases hy;refine jq ⟨_,rfl,_,rfl,_,_,rfl,rfl,.inr ⟨by lia,by lia⟩,_,rfl,_,_,rfl,rfl,(by show(0:Int)<p;lia),⟨[_],rfl,rfl⟩,i6,?_⟩;rw[gH,f1];simp
      rintro HA zs ZW rfl lh Bl;rw[bI,lV,ZV];have i5:=xB (place:=k) p0 nG;have nH:aO H5 (upd HA lh (.lst ((dC p n h k).map V.int))):=(qo.trans ZW).trans (.upd Bl);have gC:(upd HA lh (.lst ((dC p n h k).map V.int))) lh=some (.lst ((dC p n h k).map V.int)):=aY;generalize upd HA lh (.lst ((dC p n h k).map V.int))=HC at nH gC ⊢;generalize dC p n h k=hd at i5 gC Ce;have Oa:∀{M:LL},cz p n M→M.map (dS p hd k)=M.map (mn p k hd):=λhM=>List.map_congr_left λr hr=>(V7 p0 i5 (hM r hr)).symm;have Ob:cz p n (L.eraseIdx i):=λr hr=>Hn r (List.mem_of_mem_eraseIdx hr);rw[Oa N0,Oa Ob]at Ce;refine⟨_,rfl,ll,rfl,⟨_,.of (nH _ _ gA)⟩,NY p2 dh hn hk (nH _ _ gA) (N3.mono nH) Ob gC i5 (by rw[List.length_eraseIdx];split<;>lia) (λx H1 R z=>⟨_,rfl,_,rfl,_,rfl,_,rfl,z⟩) ?_⟩
      rintro HD MS yH hM lm qZ;have yI:aO H5 (upd HD lm (.lst MS)):=(nH.trans yH).trans (.upd qZ);have gE:(upd HD lm (.lst MS)) lm=some (.lst MS):=aY;have Ht:(upd HD lm (.lst MS)) lh=some (.lst (hd.map V.int)):=aO.upd qZ _ _ (yH _ _ gC);have Oc:LR (·≠lm) (upd HD lm (.lst MS)) MS ((L.eraseIdx i).map (mn p k hd)):=hM.fresh qZ;have ZX:H lm=none:=vB ((rk.trans nH).trans yH) qZ;have ZY:lh≠lm:=λz=>by
       have:=yH _ _ gC
       rw[z,qZ]at this;cases this
      have abU:∀{x:Addr}{o:HO},H5 x=some o→x≠lm:=λe z=>by
       have:=(nH.trans yH) _ _ e
       rw[z,qZ]at this;cases this
      generalize upd HD lm (.lst MS)=HE at yI gE Ht Oc ⊢;refine⟨_,rfl,ld,rfl,⟨_,.of (yI _ _ Hs)⟩,NY p2 dh hn hk (yI _ _ Hs) (N4.mono yI) N0 Ht i5 (by lia) (λx H1 R z=>⟨_,rfl,_,rfl,_,rfl,_,rfl,z⟩) ?_⟩;rintro HF NS Od hN l1 h1;have ZZ:=hN.1;rw[bI]at ZZ;refine⟨_,rfl,(by show 1≤sizeLine;lia),λl2 h2=>⟨l1,l2,NS,[.ref lh],rfl,rfl,aO.upd h2 _ _ aY,aY,by show NS.length+1≤sizeLine;lia,λl3 h3=>?_⟩⟩;have Ci:aO HE (upd (upd (upd HF l1 (.lst NS)) l2 (.lst [.ref lh])) l3 (.lst (NS++[.ref lh]))):=(Od.trans (.upd h1)).trans ((aO.upd h2).trans (.upd h3));have Z0:=yI.trans Ci;have Z1:l3≠lm:=λz=>by
       have:=((Od.trans (aO.upd h1 (o:=.lst NS))).trans (aO.upd h2 (o:=.lst [.ref lh]))) _ _ gE
       rw[z]at h3;rw[h3]at this;cases this
      have Z2:LR (·≠lm) HF NS (D.map (mn p k hd)):=⟨hN.1,λi v r e1 e2=>by
       obtain⟨x,e,hx,gx⟩:=hN.2 i v r e1 e2;have nx:x≠lm:=λz=>by rw[z,gE]at hx;cases hx
       exact⟨x,e,nx,gx⟩⟩
      refine⟨rk.trans Z0,lm,l3,MS,NS++[.ref lh],_,_,_,_,_,_,rfl,ZX,Z1,Ci _ _ gE,Oc.mono Ci,aY,?_,Ce,by rw[bI,List.length_eraseIdx];split<;>lia⟩
      exact(Z2.mono ((aO.upd h1).trans ((aO.upd h2).trans (.upd h3)))).snoc ZY (Ci _ _ Ht)
   ·have Z3:pf (L.map λr=>r.getD k 0)=[]:=by
     cases iN:pf (L.map λr=>r.getD k 0) with
     |nil=>rfl
     |cons i tl=>rw[iN]at hc;exact absurd (aG (by simp)) hc
    refine⟨sm.trans kg,ll,ld,LS,DS,L,D,_,_,_,_,rfl,Hm,yF,Hq,Hr,Ag,N2,RO.skip λr hr=>?_,NZ⟩;obtain⟨j,hj,rfl⟩:=uI.mp hr
    have:=UX Z3 j (by rw[bI];exact hj)
    rwa[cL,eU,cM hj]at this
  ·rintro σ H2 ⟨sm,ll,ld,LS,DS,L,D,s5,s6,s7,s8,rfl,Hm,yF,gL,hL,gD,hD,RO,NZ⟩;have eD:=RO.done pp hR;have ZO:=RO.len (cC n);have N1:=hD.1;refine⟨_,rfl,ld,rfl,⟨_,.of gD⟩,qd (cp:=[]) (λi H' zs=>bN K H' zs ((D.take i).map cy)) (.of gD) (by lia) .nil (λi H' zs h=>by rw[gz h];exact si _ _) ?_ ?_⟩
   ·rintro i x H3 zs hx oy h3;obtain⟨ra,r,rfl,lK,_,gr⟩:=hD.get hx;refine jq ⟨_,rfl,ra,_,rfl,.inl ⟨.of (oy _ _ gr),λt ht=>⟨⟨[_],rfl,rfl⟩,oy.trans (.upd ht),?_⟩⟩⟩;rw[gH,lK];show bN K _ _ ((D.take i++[r]).map cy);rw[cS];exact(h3.mono (.upd ht)).append (.cons (jn (.of aY)) .nil)
   ·rintro H3 TS oy h3 lt c7;rw[N1,lV,eD]at h3;refine⟨lt,_,rfl,.inl ⟨.of aY,λt ht=>q t _ TS ((sm.trans oy).trans ((aO.upd c7).trans (.upd ht))) (.of aY) (h3.mono ((aO.upd c7).trans (.upd ht)))⟩⟩
section
variable{p:Int}{f:Fn}
theorem jT:Sp p (RS []) f↔∀j,p∣f j:=by
 constructor
 ·intro h j;exact Gw (λr hr=>absurd hr (by simp)) h
 ·intro h;refine .cN .zero λj=>?_
  have:=Int.dvd_neg.mpr (h j)
  show p∣0-f j;rwa[show(0:Int)-f j=-f j by lia]
theorem lI{r:List Int}{L:LL}:Sp p (RS (r::L)) f↔∃c:Int,Sp p (RS L) (λj=>f j-c*fn r j):=by
 constructor
 ·intro h;obtain⟨u,v,hu,hv,e⟩:=(Gs (L:=[r]) (L':=L)).mp h;have h1:∃c:Int,eN p (λj=>c*fn r j) u:=by
   clear e hv h;induction hu with
   |zero=>exact⟨0,λj=>⟨0,by simp⟩⟩
   | @add v q c _ hq ih=>
    obtain⟨c0,h0⟩:=ih;obtain⟨q,hq,rfl⟩:=hq;rw[dX.mp hq];refine⟨c0+c,λj=>?_⟩
    have:=h0 j
    dsimp only at this ⊢;rwa[show(c0+c)*fn r j-(v j+c*fn r j)=c0*fn r j-v j by rw[Int.add_mul];lia]
   |cN _ e ih=>
    obtain⟨c0,h0⟩:=ih;exact⟨c0,h0.trans e⟩
  obtain⟨c,hc⟩:=h1;refine⟨c,.cN hv λj=>?_⟩
  have:=pT (e j) (hc j)
  dsimp only at this ⊢;rwa[show u j+v j-f j+(c*fn r j-u j)=v j-(f j-c*fn r j) by lia]at this
 ·rintro⟨c,h⟩;have h1:Sp p (RS (r::L)) (λj=>f j-c*fn r j):=pk (λq hq=>qg (gq _ hq)) h;exact(h1.add c ⟨r,dj,rfl⟩).of_eq λj=>by lia
def Nil(p:Int)(f:Fn)(n:Nat):Prop:=∀j,n≤j→p∣f j
theorem Hu:Sp p (RS [[1,1]]) f↔p∣f 1-f 0∧Nil p f 2:=by
 rw[lI];constructor
 ·rintro⟨c,h⟩;have h:=jT.mp h;have h0:=h 0;have h1:=h 1;simp only[fn,zu,zv]at h0 h1;refine⟨?_,λj hj=>?_⟩
  ·have:=kG h1 h0
   rwa[show f 1-c*1-(f 0-c*1)=f 1-f 0 by lia]at this
  ·have:=h j
   have e:fn [1,1] j=0:=by unfold fn;rw[cL,jw (by simpa using hj)];rfl
   rw[e]at this;simpa using this
 ·rintro⟨h,hn⟩;refine⟨f 0,jT.mpr λj=>?_⟩
  match j with
  |0=>simp[fn]
  |1=>simpa[fn]using h
  |j+2=>simpa[fn]using hn (j+2) (by lia)
theorem Z4{n:Int}:Sp p (RS [[1,n]]) f↔p∣f 1-n*f 0∧Nil p f 2:=by
 rw[lI];constructor
 ·rintro⟨c,h⟩;have h:=jT.mp h;have h0:=h 0;have h1:=h 1;simp only[fn,zu,zv]at h0 h1;refine⟨?_,λj hj=>?_⟩
  ·have:=kG h1 (wN (b:=n) h0)
   rwa[show f 1-c*n-n*(f 0-c*1)=f 1-n*f 0 by rw[Int.mul_sub,Int.mul_one,nP n c];lia]at this
  ·have:=h j
   have e:fn [1,n] j=0:=by unfold fn;rw[cL,jw (by simpa using hj)];rfl
   rw[e]at this;simpa using this
 ·rintro⟨h,hn⟩;refine⟨f 0,jT.mpr λj=>?_⟩
  match j with
  |0=>simp[fn]
  |1=>simpa[fn,nP]using h
  |j+2=>simpa[fn]using hn (j+2) (by lia)
theorem Z5:Sp p (RS [[1]]) f↔Nil p f 1:=by
 rw[lI];constructor
 ·rintro⟨c,h⟩ j hj
  have:=jT.mp h j
  have e:fn [1] j=0:=by unfold fn;rw[cL,jw (by simpa using hj)];rfl
  rw[e]at this;simpa using this
 ·intro hn;refine⟨f 0,jT.mpr λj=>?_⟩
  match j with
  |0=>simp[fn]
  |j+1=>simpa[fn]using hn (j+1) (by lia)
theorem Z6:Sp p (RS [[1,1,1]]) f↔p∣f 1-f 0∧p∣f 2-f 0∧Nil p f 3:=by
 rw[lI];constructor
 ·rintro⟨c,h⟩;have h:=jT.mp h;have h0:=h 0;have h1:=h 1;have h2:=h 2;simp only[fn,zu,zv]at h0 h1 h2;refine⟨?_,?_,λj hj=>?_⟩
  ·have:=kG h1 h0
   rwa[show f 1-c*1-(f 0-c*1)=f 1-f 0 by lia]at this
  ·have:=kG h2 h0
   rwa[show f 2-c*1-(f 0-c*1)=f 2-f 0 by lia]at this
  ·have:=h j
   have e:fn [1,1,1] j=0:=by unfold fn;rw[cL,jw (by simpa using hj)];rfl
   rw[e]at this;simpa using this
 ·rintro⟨h1,h2,hn⟩;refine⟨f 0,jT.mpr λj=>?_⟩
  match j with
  |0=>simp[fn]
  |1=>simpa[fn]using h1
  |2=>simpa[fn]using h2
  |j+3=>simpa[fn]using hn (j+3) (by lia)
theorem Z7:Sp p (RS [[1,0,1],[0,1,1]]) f↔p∣f 2-(f 0+f 1)∧Nil p f 3:=by
 rw[lI];constructor
 ·rintro⟨c,h⟩;obtain⟨d,h⟩:=lI.mp h;have h:=jT.mp h;have h0:=h 0;have h1:=h 1;have h2:=h 2;simp only[fn,zu,zv]at h0 h1 h2;refine⟨?_,λj hj=>?_⟩
  ·have:=kG (kG h2 h0) h1
   rwa[show f 2-c*1-d*1-(f 0-c*1-d*0)-(f 1-c*0-d*1)=f 2-(f 0+f 1) by lia]at this
  ·have:=h j
   have e1:fn [1,0,1] j=0:=by unfold fn;rw[cL,jw (by simpa using hj)];rfl
   have e2:fn [0,1,1] j=0:=by unfold fn;rw[cL,jw (by simpa using hj)];rfl
   rw[e1,e2]at this;simpa using this
 ·rintro⟨h,hn⟩;refine⟨f 0,lI.mpr ⟨f 1,jT.mpr λj=>?_⟩⟩
  match j with
  |0=>simp[fn]
  |1=>simp[fn]
  |2=>
   simp only[fn,zu,zv];rwa[show f 2-f 0*1-f 1*1=f 2-(f 0+f 1) by lia]
  |j+3=>simpa[fn]using hn (j+3) (by lia)
theorem Z8:Sp p (RS [[1,0,0,1],[0,1,1,0]]) f↔p∣f 3-f 0∧p∣f 2-f 1∧Nil p f 4:=by
 rw[lI];constructor
 ·rintro⟨c,h⟩;obtain⟨d,h⟩:=lI.mp h;have h:=jT.mp h;have h0:=h 0;have h1:=h 1;have h2:=h 2;have h3:=h 3;simp only[fn,zu,zv]at h0 h1 h2 h3;refine⟨?_,?_,λj hj=>?_⟩
  ·have:=kG h3 h0
   rwa[show f 3-c*1-d*0-(f 0-c*1-d*0)=f 3-f 0 by lia]at this
  ·have:=kG h2 h1
   rwa[show f 2-c*0-d*1-(f 1-c*0-d*1)=f 2-f 1 by lia]at this
  ·have:=h j
   have e1:fn [1,0,0,1] j=0:=by unfold fn;rw[cL,jw (by simpa using hj)];rfl
   have e2:fn [0,1,1,0] j=0:=by unfold fn;rw[cL,jw (by simpa using hj)];rfl
   rw[e1,e2]at this;simpa using this
 ·rintro⟨h3,h2,hn⟩;refine⟨f 0,lI.mpr ⟨f 1,jT.mpr λj=>?_⟩⟩
  match j with
  |0=>simp[fn]
  |1=>simp[fn]
  |2=>simpa[fn]using h2
  |3=>simpa[fn]using h3
  |j+4=>simpa[fn]using hn (j+4) (by lia)
end
noncomputable def sh(n:Nat)(f:Fn):Fn:=λj=>f (n+j)
def TR(p:Int):Drw→Fn→Fn→Fn→Fn→Prop
 | .box n l r aV,x,k,y,a=>if n=Str.ofString "late" then p∣y 0-k 0∧p∣a 0-x 0 else Sp p (RS aV) (λj=>if j<l then x j else if j<l+r then y (j-l)else 0)
 | .times n,x,_,y,_=>p∣y 0-n*x 0
 | .back d,x,k,y,a=>TR p d y k x a
 | .dD d e,x,k,y,a=>TR p d x k y a∧TR p e (sh d.aM x) (sh d.aL k) (sh d.aQ y) (sh d.aL a)
 | .bt d e,x,k,y,a=>∃m,TR p d x k m a∧TR p e m (sh d.aL k) y (sh d.aL a)
section
variable{p:Int}
theorem qz{e b:Int}(h:p∣a)(k:p∣b)(E:e=a+b):p∣e:=by rw[E];exact pT h k
theorem iM{e b:Int}(h:p∣a)(k:p∣b)(E:e=a-b):p∣e:=by rw[E];exact kG h k
theorem cT{b:Int}(E:a=b):p∣a-b:=⟨0,by rw[E];lia⟩
theorem Hv{b:Int}(h:p∣a-b):p∣b-a:=by
 have:=Int.dvd_neg.mpr h
 rwa[show -(a-b)=b-a by lia]at this
def Cg(p:Int)(n:Nat)(f g:Fn):Prop:=∀j,j<n→p∣f j-g j
theorem Cg.refl(n:Nat)(f:Fn):Cg p n f f:=λj _=>cT rfl
theorem Cg.symm{n:Nat}(h:Cg p n f g):Cg p n g f:=λj hj=>Hv (h j hj)
theorem Cg.sh{n m:Nat}{f g:Fn}(h:Cg p (n+m) f g):Cg p m (S21.sh n f) (S21.sh n g):=λj hj=>h (n+j) (by lia)
theorem Cg.le{n:Nat}(h:Cg p n f g)(hm:m≤n):Cg p m f g:=λj hj=>h j (by lia)
theorem TR.cN:∀{d:Drw}{x x' k k' y y' a a':Fn},d.dU p→Cg p d.aM x x'→Cg p d.aL k k'→Cg p d.aQ y y'→Cg p d.aL a a'→TR p d x k y a→TR p d x' k' y' a'
 | .box n l r aV,x,x',k,k',y,y',a,a',hd,hx,hk,hy,ha,h=>by
  rcases hd with hd|⟨rfl,rfl,rfl⟩
  ·unfold TR at h ⊢;rw[ah (rH _ hd)]at h ⊢;refine .cN h λj=>?_;by_cases h1:j<l
   ·rw[ae h1,ae h1];exact hx j h1
   ·rw[ah h1,ah h1];by_cases h2:j<l+r
    ·rw[ae h2,ae h2];exact hy (j-l) (by show j-l<r;lia)
    ·rw[ah h2,ah h2];exact cT rfl
  ·unfold TR at h ⊢;rw[ae rfl]at h ⊢;have hx:=hx 0 (by show 0<1;decide);have hk:=hk 0 (by show 0<1;decide);have hy:=hy 0 (by show 0<1;decide);have ha:=ha 0 (by show 0<1;decide);exact⟨qz (iM h.1 hy rfl) hk (by lia),qz (iM h.2 ha rfl) hx (by lia)⟩
 | .times n,x,x',k,k',y,y',a,a',hd,hx,hk,hy,ha,h=>by
  have hx:=hx 0 (by show 0<1;decide);have hy:=hy 0 (by show 0<1;decide);have h:p∣y 0-n*x 0:=h;show p∣y' 0-n*x' 0;have hx:=wN (b:=n) hx;exact qz (iM h hy rfl) hx (by rw[Int.mul_sub];lia)
 | .back d,x,x',k,k',y,y',a,a',hd,hx,hk,hy,ha,h=>TR.cN (d:=d) hd hy hk hx ha h
 | .dD d e,x,x',k,k',y,y',a,a',hd,hx,hk,hy,ha,h=>⟨TR.cN (d:=d) hd.1 (hx.le (pS ..)) (hk.le (pS ..)) (hy.le (pS ..)) (ha.le (pS ..)) h.1,TR.cN (d:=e) hd.2 (Cg.sh hx) (Cg.sh hk) (Cg.sh hy) (Cg.sh ha) h.2⟩
 | .bt d e,x,x',k,k',y,y',a,a',hd,hx,hk,hy,ha,h=>by
  obtain⟨m,h1,h2⟩:=h;exact⟨m,TR.cN (d:=d) hd.1 hx (hk.le (pS ..)) (.refl _ _) (ha.le (pS ..)) h1,TR.cN (d:=e) hd.2.1 (.refl _ _) (Cg.sh hk) hy (Cg.sh ha) h2⟩
theorem Oe{la ra lb rb:Nat}:eN p (λj=>bK (i8 la ra lb rb) u j+bK (i9 la ra lb) v j) f ↔
  (∀j,j<la→p∣u j-f j)∧(∀j,j<lb→p∣v j-f (la+j))∧(∀j,j<ra→p∣u (la+j)-f (la+lb+j))∧(∀j,j<rb→p∣v (lb+j)-f (la+lb+(ra+j)))∧∀s,p∣u (la+ra+s)+v (lb+rb+s)-f (la+lb+(ra+rb)+s):=by
 have e1:∀j,j<la→bK (i8 la ra lb rb) u j+bK (i9 la ra lb) v j=u j:=λj hj=>by
  unfold bK i8 i9;simp only[hj,if_true];lia
 have e2:∀j,j<lb→bK (i8 la ra lb rb) u (la+j)+bK (i9 la ra lb) v (la+j)=v j:=λj hj=>by
  unfold bK i8 i9;simp only[show ¬la+j<la by lia,show la+j<la+lb by lia,if_true,if_false,show la+j-la=j by lia];lia
 have e3:∀j,j<ra→bK (i8 la ra lb rb) u (la+lb+j)+bK (i9 la ra lb) v (la+lb+j)=u (la+j):=λj hj=>by
  unfold bK i8 i9;simp only[show ¬la+lb+j<la by lia,show ¬la+lb+j<la+lb by lia,show la+lb+j<la+lb+ra by lia,if_true,if_false,show la+lb+j-lb=la+j by lia];lia
 have e4:∀j,j<rb→bK (i8 la ra lb rb) u (la+lb+(ra+j))+bK (i9 la ra lb) v (la+lb+(ra+j))=v (lb+j):=λj hj=>by
  unfold bK i8 i9;simp only[show ¬la+lb+(ra+j)<la by lia,show ¬la+lb+(ra+j)<la+lb by lia,show ¬la+lb+(ra+j)<la+lb+ra by lia,show la+lb+(ra+j)<la+lb+ra+rb by lia,if_true,if_false,show la+lb+(ra+j)-la-ra=lb+j by lia];lia
 have e5:∀s,bK (i8 la ra lb rb) u (la+lb+(ra+rb)+s)+bK (i9 la ra lb) v (la+lb+(ra+rb)+s)=u (la+ra+s)+v (lb+rb+s):=λs=>by
  unfold bK i8 i9;simp only[show ¬la+lb+(ra+rb)+s<la by lia,show ¬la+lb+(ra+rb)+s<la+lb by lia,show ¬la+lb+(ra+rb)+s<la+lb+ra by lia,show ¬la+lb+(ra+rb)+s<la+lb+ra+rb by lia,if_false,show la+lb+(ra+rb)+s-la-ra=lb+rb+s by lia,show la+lb+(ra+rb)+s-lb-rb=la+ra+s by lia];lia
 constructor
 ·intro h;refine⟨λj hj=>?_,λj hj=>?_,λj hj=>?_,λj hj=>?_,λs=>?_⟩
  ·have:=h j;dsimp only at this;rwa[e1 j hj]at this
  ·have:=h (la+j);dsimp only at this;rwa[e2 j hj]at this
  ·have:=h (la+lb+j);dsimp only at this;rwa[e3 j hj]at this
  ·have:=h (la+lb+(ra+j));dsimp only at this;rwa[e4 j hj]at this
  ·have:=h (la+lb+(ra+rb)+s);dsimp only at this;rwa[e5 s]at this
 ·rintro⟨h1,h2,h3,h4,h5⟩ j;dsimp only;by_cases k1:j<la
  ·rw[e1 j k1];exact h1 j k1
  by_cases k2:j<la+lb
  ·obtain⟨i,rfl⟩:∃i,j=la+i:=⟨j-la,by lia⟩;rw[e2 i (by lia)];exact h2 i (by lia)
  by_cases k3:j<la+lb+ra
  ·obtain⟨i,rfl⟩:∃i,j=la+lb+i:=⟨j-(la+lb),by lia⟩;rw[e3 i (by lia)];exact h3 i (by lia)
  by_cases k4:j<la+lb+(ra+rb)
  ·obtain⟨i,rfl⟩:∃i,j=la+lb+(ra+i):=⟨j-(la+lb+ra),by lia⟩;rw[e4 i (by lia)];exact h4 i (by lia)
  ·obtain⟨i,rfl⟩:∃i,j=la+lb+(ra+rb)+i:=⟨j-(la+lb+(ra+rb)),by lia⟩;rw[e5 i];exact h5 i
theorem Of{l r':Nat}:eN p (λj=>bK (iz l m r') u (m+j)+bK (iA l m) v (m+j)) f ↔
  (∀j,j<l→p∣u j-f j)∧(∀j,j<r'→p∣v (m+j)-f (l+j))∧∀s,p∣u (l+m+s)+v (m+r'+s)-f (l+r'+s):=by
 have e1:∀j,j<l→bK (iz l m r') u (m+j)+bK (iA l m) v (m+j)=u j:=λj hj=>by
  unfold bK iz iA;simp only[show ¬m+j<m by lia,show m+j<m+l by lia,if_true,if_false,show m+j-m=j by lia];lia
 have e2:∀j,j<r'→bK (iz l m r') u (m+(l+j))+bK (iA l m) v (m+(l+j))=v (m+j):=λj hj=>by
  unfold bK iz iA;simp only[show ¬m+(l+j)<m by lia,show ¬m+(l+j)<m+l by lia,show m+(l+j)<m+l+r' by lia,if_true,if_false,show m+(l+j)-l=m+j by lia];lia
 have e3:∀s,bK (iz l m r') u (m+(l+r'+s))+bK (iA l m) v (m+(l+r'+s))=u (l+m+s)+v (m+r'+s):=λs=>by
  unfold bK iz iA;simp only[show ¬m+(l+r'+s)<m by lia,show ¬m+(l+r'+s)<m+l by lia,show ¬m+(l+r'+s)<m+l+r' by lia,if_false,show m+(l+r'+s)-l=m+r'+s by lia,show m+(l+r'+s)-r'=l+m+s by lia];lia
 constructor
 ·intro h;refine⟨λj hj=>?_,λj hj=>?_,λs=>?_⟩
  ·have:=h j;dsimp only at this;rwa[e1 j hj]at this
  ·have:=h (l+j);dsimp only at this;rwa[e2 j hj]at this
  ·have:=h (l+r'+s);dsimp only at this;rwa[e3 s]at this
 ·rintro⟨h1,h2,h3⟩ j;dsimp only;by_cases k1:j<l
  ·rw[e1 j k1];exact h1 j k1
  by_cases k2:j<l+r'
  ·obtain⟨i,rfl⟩:∃i,j=l+i:=⟨j-l,by lia⟩;rw[e2 i (by lia)];exact h2 i (by lia)
  ·obtain⟨i,rfl⟩:∃i,j=l+r'+i:=⟨j-(l+r'),by lia⟩;rw[e3 i];exact h3 i
end
section
variable{p:Int}
def Out(p:Int)(b w c n:Nat)(f:Fn):Prop:=∀s,¬(c≤s∧s<c+n)→¬(w+c≤s∧s<w+c+n)→p∣f (b+s)
def jd(w c n s:Nat):Prop:=(c≤s∧s<c+n)∨(w+c≤s∧s<w+c+n)
instance (w c n s:Nat):Decidable (jd w c n s):=by unfold jd;infer_instance
theorem Og(row:List Int)(k j:Nat):fn (row++List.replicate k 0) j=fn row j:=by
 unfold fn;rw[cL,cL];by_cases h:j<row.length
 ·rw[ip h]
 ·rw[iK (by lia),jw (l:=row) (by lia),wL];split<;>rfl
theorem Oh{aV:LL}{k:Nat}:Sp p (RS (aV.map (·++List.replicate k 0))) f↔Sp p (RS aV) f:=by
 constructor
 ·refine pk λr hr=>?_;obtain⟨y,hy,rfl⟩:=eA.mp hr;exact(qg hy).of_eq λj=>(Og y k j).symm
 ·refine pk λr hr=>?_;exact(qg (eA.mpr ⟨r,hr,rfl⟩)).of_eq λj=>Og r k j
theorem Z9{aV:LL}{l r:Nat}(hl:∀q∈aV,q.length=l+r):Sp p (RS aV) f↔Sp p (RS aV) (λj=>if j<l then f j else if j<l+r then sh l f (j-l)else 0)∧∀s,p∣f (l+r+s):=by
 have e:∀(_:∀s,p∣f (l+r+s)),eN p f (λj=>if j<l then f j else if j<l+r then sh l f (j-l)else 0):=λh j=>by
  dsimp only;by_cases h1:j<l
  ·rw[ae h1];exact cT rfl
  ·rw[ah h1];by_cases h2:j<l+r
   ·rw[ae h2];unfold sh;rw[show l+(j-l)=j by lia];exact cT rfl
   ·rw[ah h2]
    have:=h (j-(l+r))
    rw[show l+r+(j-(l+r))=j by lia]at this;rwa[show f j-0=f j by lia]
 constructor
 ·intro h;have z:∀s,p∣f (l+r+s):=λs=>Gw (λq hq=>by rw[cL,jw (by rw[hl q hq];lia)];rfl) h;exact⟨.cN h (e z),z⟩
 ·rintro⟨h,z⟩;exact .cN h (e z).symm
theorem Cj{n i:Nat}(h:i<n):fn (dW n i) j=if j=i then 1 else 0:=by
 unfold fn dW;rw[cL];by_cases h1:j<i
 ·rw[ip (by simpa using h1),wL,ae h1,ah (by lia)];rfl
 ·rw[iK (by simpa using h1),eV];by_cases h2:j=i
  ·subst h2;rw[Nat.sub_self,ae rfl];rfl
  ·rw[ah h2];obtain⟨k,hk⟩:∃k,j-i=k+1:=⟨j-i-1,by lia⟩;rw[hk,iK (by simp)];show(List.replicate (n-i-1) (0:Int))[k+1-1]?.getD 0=0;rw[wL];split<;>rfl
theorem Oi(a b:Int)(r:List Int)(j:Nat):fn ([a,b]++r) (2+j)=fn r j:=by
 unfold fn;rw[qL];rfl
theorem aaa{w:Nat}(hc:c+1≤w):Sp p (RS [[1,0]++dW (2*w) (w+c),[0,1]++dW (2*w) c]) f↔(p∣f 1-f (2+c)∧p∣f (2+w+c)-f 0)∧Out p 2 w c 1 f:=by
 rw[lI];have key:∀a b s,fn ([1,0]++dW (2*w) (w+c)) (2+s)*a+fn ([0,1]++dW (2*w) c) (2+s)*b=(if s=w+c then a else 0)+if s=c then b else 0:=λa b s=>by
  rw[Oi,Oi,Cj (by lia),Cj (by lia)];split<;>split<;>lia
 have k0:fn ([1,0]++dW (2*w) (w+c)) 0=1∧fn ([1,0]++dW (2*w) (w+c)) 1=0∧fn ([0,1]++dW (2*w) c) 0=0∧fn ([0,1]++dW (2*w) c) 1=1:=⟨rfl,rfl,rfl,rfl⟩;generalize fn ([1,0]++dW (2*w) (w+c))=g at key k0 ⊢;generalize hh:fn ([0,1]++dW (2*w) c)=h at key k0;constructor
 ·rintro⟨a,h1⟩;rw[lI,hh]at h1;obtain⟨b,h1⟩:=h1;have h1:=jT.mp h1;have z0:=h1 0;have z1:=h1 1;have zs:∀s,p∣f (2+s)-((if s=w+c then a else 0)+if s=c then b else 0):=λs=>by
   have:=h1 (2+s)
   rw[← key a b s];rwa[show f (2+s)-a*g (2+s)-b*h (2+s)=f (2+s)-(g (2+s)*a+h (2+s)*b) by rw[nP a,nP b];lia]at this
  rw[k0.1,k0.2.2.1]at z0;rw[k0.2.1,k0.2.2.2]at z1;refine⟨⟨?_,?_⟩,λs hs1 nj=>?_⟩
  ·have:=zs c
   rw[ah (by lia),ae rfl]at this;exact iM z1 this (by lia)
  ·have:=zs (w+c)
   rw[ae rfl,ah (by lia)]at this;rw[show 2+(w+c)=2+w+c by lia]at this;exact iM this z0 (by lia)
  ·have:=zs s
   rw[ah (by lia),ah (by lia)]at this;rwa[show f (2+s)-(0+0)=f (2+s) by lia]at this
 ·rintro⟨⟨h1,h2⟩,h3⟩;refine⟨f 0,?_⟩;rw[lI,hh];refine⟨f 1,jT.mpr λj=>?_⟩
  match j with
  |0=>rw[k0.1,k0.2.2.1];exact⟨0,by lia⟩
  |1=>rw[k0.2.1,k0.2.2.2];exact⟨0,by lia⟩
  |j+2=>
   rw[qL j 2];have e:f (2+j)-f 0*g (2+j)-f 1*h (2+j)=f (2+j)-(g (2+j)*f 0+h (2+j)*f 1):=by rw[nP (f 0),nP (f 1)];lia
   rw[e,key];by_cases e1:j=w+c
   ·subst e1;rw[ae rfl,ah (by lia),show 2+(w+c)=2+w+c by lia];rwa[Int.add_zero]
   ·rw[ah e1];by_cases e2:j=c
    ·subst e2;rw[ae rfl];exact iM (cT (rfl:f 1=f 1)) h1 (by lia)
    ·rw[ah e2]
     have:=h3 j (by lia) (by lia)
     rwa[show f (2+j)-(0+0)=f (2+j) by lia]
end
section
variable{p:Int}
theorem Oj{ba bb w na nb:Nat}(h:∀s,p∣u (ba+s)+v (bb+s)-f (b+s))(hu:Out p ba w c na u)(hv:Out p bb w (c+na) nb v)(hw:c+(na+nb)≤w) :
  Out p b w c (na+nb) f∧(∀s,jd w c na s→p∣u (ba+s)-f (b+s))∧∀s,jd w (c+na) nb s→p∣v (bb+s)-f (b+s):=by
 refine⟨λs h1 h2=>?_,λs hs=>?_,λs hs=>?_⟩
 ·exact iM (qz (hu s (by lia) (by lia)) (hv s (by lia) (by lia)) rfl) (h s) (by lia)
 ·unfold jd at hs;exact iM (h s) (hv s (by lia) (by lia)) (by lia)
 ·unfold jd at hs;exact iM (h s) (hu s (by lia) (by lia)) (by lia)
noncomputable def part(bp b w c n:Nat)(g f:Fn):Fn:=λj=>if j<bp then g j else if jd w c n (j-bp)then f (b+(j-bp))else 0
theorem rO{w n:Nat}(h:j<bp):part bp b w c n g f j=g j:=ae h
theorem wc{w n:Nat}{s:Nat}(h:jd w c n s):part bp b w c n g f (bp+s)=f (b+s):=by
 unfold part;rw[ah (by lia),show bp+s-bp=s by lia,ae h]
theorem Ck{w n:Nat}{s:Nat}(h:¬jd w c n s):part bp b w c n g f (bp+s)=0:=by
 unfold part;rw[ah (by lia),show bp+s-bp=s by lia,ah h]
theorem Cm{w n:Nat}:Out p bp w c n (part bp b w c n g f):=λs h1 h2=>by
 rw[Ck (by unfold jd;lia)];exact⟨0,by lia⟩
theorem Ol{ba bb w na nb:Nat}{g':Fn}(hf:Out p b w c (na+nb) f)(hw:c+(na+nb)≤w)(s:Nat):p∣part ba b w c na g f (ba+s)+part bb b w (c+na) nb g' f (bb+s)-f (b+s):=by
 by_cases h1:jd w c na s
 ·have h2:¬jd w (c+na) nb s:=by unfold jd at h1 ⊢;lia
  rw[wc h1,Ck h2];exact⟨0,by lia⟩
 ·rw[Ck h1];by_cases h2:jd w (c+na) nb s
  ·rw[wc h2];exact⟨0,by lia⟩
  ·rw[Ck h2];unfold jd at h1 h2
   have:=hf s (by lia) (by lia)
   have:=Int.dvd_neg.mpr this
   rwa[show 0+0-f (b+s)=- f (b+s) by lia]
theorem pK{w:Nat}:∀{d:Drw}{c:Nat},d.dU p→c+d.aL≤w→∀f,jC p w c d f↔TR p d f (sh (d.aM+d.aQ+c) f) (sh d.aM f) (sh (d.aM+d.aQ+w+c) f)∧Out p (d.aM+d.aQ) w c d.aL f
 | .box n l r aV,c,hd,hc=>λf=>by
  rcases hd with hd|⟨rfl,rfl,rfl⟩
  ·have nb:=rH _ hd;obtain⟨_,_,_,h4⟩:=BO _ hd;have en:(Drw.box n l r aV).aL=0:=ah nb;rw[en];show Sp p (RS ((Drw.box n l r aV).dG p w c)) f↔_;unfold Drw.dG TR;rw[ah nb,ah nb,Oh,Z9 (l:=l) (r:=r) λq hq=>(h4 q hq).1];constructor
   ·rintro⟨h,z⟩;exact⟨h,λs _ _=>z s⟩
   ·rintro⟨h,z⟩;exact⟨h,λs=>z s (by lia) (by lia)⟩
  ·have hc:c+1≤w:=hc;show Sp p (RS ((Drw.box _ 1 1 aV).dG p w c)) f↔_;unfold Drw.dG TR;rw[ae rfl,ae rfl,aaa hc];exact Iff.rfl
 | .times n,c,_,hc=>λf=>by
  show Sp p (RS ([[1,n]].map (·++List.replicate (2*w) 0))) f↔_;rw[Oh,Z4];constructor
  ·rintro⟨h,z⟩;exact⟨h,λs _ _=>z (2+s) (by lia)⟩
  ·rintro⟨h,z⟩;refine⟨h,λj hj=>?_⟩
   have:=z (j-2) (by show ¬(c≤_∧_<c+0);lia) (by show ¬(_∧_<w+c+0);lia)
   have e:(Drw.times n).aM+(Drw.times n).aQ+(j-2)=j:=by show 1+1+(j-2)=j;lia
   rwa[e]at this
 | .back d,c,hd,hc=>λf=>by
  have hc:c+d.aL≤w:=hc;show jC p w c d (bK (jY d.aQ d.aM) f)↔TR p d (sh d.aQ f) (sh (d.aQ+d.aM+c) f) f (sh (d.aQ+d.aM+w+c) f)∧Out p (d.aQ+d.aM) w c d.aL f;have e1:∀j,j<d.aM→bK (jY d.aQ d.aM) f j=f (d.aQ+j):=λj hj=>by
   unfold bK jY;simp only[hj,if_true];lia
  have e2:∀j,j<d.aQ→bK (jY d.aQ d.aM) f (d.aM+j)=f j:=λj hj=>by
   unfold bK jY;simp only[show ¬d.aM+j<d.aM by lia,show d.aM+j<d.aM+d.aQ by lia,if_true,if_false,show d.aM+j-d.aM=j by lia];lia
  have e3:∀s,bK (jY d.aQ d.aM) f (d.aM+d.aQ+s)=f (d.aQ+d.aM+s):=λs=>by
   unfold bK jY;simp only[show ¬d.aM+d.aQ+s<d.aM by lia,show ¬d.aM+d.aQ+s<d.aM+d.aQ by lia,if_false];rw[qL d.aM];lia
  rw[pK (d:=d) hd hc];generalize bK (jY d.aQ d.aM) f=g at e1 e2 e3 ⊢;have c1:Cg p d.aM g (sh d.aQ f):=λj hj=>cT (e1 j hj);have c2:Cg p d.aL (sh (d.aM+d.aQ+c) g) (sh (d.aQ+d.aM+c) f):=λj hj=>cT (by unfold sh;have:=e3 (c+j);rw[← kK,← kK]at this;exact this);have c3:Cg p d.aQ (sh d.aM g) f:=λj hj=>cT (e2 j hj);have c4:Cg p d.aL (sh (d.aM+d.aQ+w+c) g) (sh (d.aQ+d.aM+w+c) f):=λj hj=>cT (by unfold sh;have:=e3 (w+c+j);rw[← kK,← kK,← kK,← kK]at this;exact this);constructor
  ·rintro⟨h,z⟩;exact⟨TR.cN hd c1 c2 c3 c4 h,λs h1 h2=>by rw[← e3 s];exact z s h1 h2⟩
  ·rintro⟨h,z⟩;exact⟨TR.cN hd c1.symm c2.symm c3.symm c4.symm h,λs h1 h2=>by rw[e3 s];exact z s h1 h2⟩
 | .dD a b,c,hd,hc=>λf=>by
  have hc:c+(a.aL+b.aL)≤w:=hc;show(∃u v,jC p w c a u∧jC p w (c+a.aL) b v∧_)↔(TR p a f (sh (a.aM+b.aM+(a.aQ+b.aQ)+c) f) (sh (a.aM+b.aM) f) (sh (a.aM+b.aM+(a.aQ+b.aQ)+w+c) f)∧
   TR p b (sh a.aM f) (sh a.aL (sh (a.aM+b.aM+(a.aQ+b.aQ)+c) f)) (sh a.aQ (sh (a.aM+b.aM) f)) (sh a.aL (sh (a.aM+b.aM+(a.aQ+b.aQ)+w+c) f)))∧Out p (a.aM+b.aM+(a.aQ+b.aQ)) w c (a.aL+b.aL) f
  constructor
  ·rintro⟨u,v,hu,hv,e⟩;obtain⟨b1,b2,b3,b4,b5⟩:=Oe.mp e;obtain⟨tu,ou⟩:=(pK (d:=a) hd.1 (by lia) u).mp hu;obtain⟨tv,ov⟩:=(pK (d:=b) hd.2 (by lia) v).mp hv;obtain⟨o1,o2,o3⟩:=Oj b5 ou ov hc;refine⟨⟨TR.cN hd.1 b1 (λj hj=>?_) b3 (λj hj=>?_) tu,TR.cN hd.2 b2 (λj hj=>?_) (λj hj=>?_) (λj hj=>?_) tv⟩,o1⟩
   ·have:=o2 (c+j) (.inl (by lia))
    unfold sh;rwa[← kK,← kK]at this
   ·have:=o2 (w+c+j) (.inr (by lia))
    unfold sh;rwa[show a.aM+a.aQ+(w+c+j)=a.aM+a.aQ+w+c+j by lia,show a.aM+b.aM+(a.aQ+b.aQ)+(w+c+j)=a.aM+b.aM+(a.aQ+b.aQ)+w+c+j by lia]at this
   ·have:=o3 (c+a.aL+j) (.inl (by lia))
    unfold sh;rwa[show b.aM+b.aQ+(c+a.aL+j)=b.aM+b.aQ+(c+a.aL)+j by lia,show a.aM+b.aM+(a.aQ+b.aQ)+(c+a.aL+j)=a.aM+b.aM+(a.aQ+b.aQ)+c+(a.aL+j) by lia]at this
   ·have:=b4 j hj
    unfold sh;exact this
   ·have:=o3 (w+(c+a.aL)+j) (.inr (by lia))
    unfold sh;rwa[show b.aM+b.aQ+(w+(c+a.aL)+j)=b.aM+b.aQ+w+(c+a.aL)+j by lia,show a.aM+b.aM+(a.aQ+b.aQ)+(w+(c+a.aL)+j)=a.aM+b.aM+(a.aQ+b.aQ)+w+c+(a.aL+j) by lia]at this
  ·rintro⟨⟨ta,tb⟩,o⟩;generalize hB:a.aM+b.aM+(a.aQ+b.aQ)=B at ta tb o;have u1:∀j,j<a.aM→part (a.aM+a.aQ) B w c a.aL (λj=>if j<a.aM then f j else f (a.aM+b.aM+(j-a.aM))) f j=f j:=λj hj=>by
    rw[rO (by lia),ae hj]
   have u2:∀j,j<a.aQ→part (a.aM+a.aQ) B w c a.aL (λj=>if j<a.aM then f j else f (a.aM+b.aM+(j-a.aM))) f (a.aM+j)=f (a.aM+b.aM+j):=λj hj=>by
    rw[rO (by lia),ah (by lia),show a.aM+j-a.aM=j by lia]
   have v1:∀j,j<b.aM→part (b.aM+b.aQ) B w (c+a.aL) b.aL (λj=>if j<b.aM then f (a.aM+j)else f (a.aM+b.aM+(a.aQ+(j-b.aM)))) f j=f (a.aM+j):=λj hj=>by
    rw[rO (by lia),ae hj]
   have v2:∀j,j<b.aQ→part (b.aM+b.aQ) B w (c+a.aL) b.aL (λj=>if j<b.aM then f (a.aM+j)else f (a.aM+b.aM+(a.aQ+(j-b.aM)))) f (b.aM+j)=f (a.aM+b.aM+(a.aQ+j)):=λj hj=>by
    rw[rO (by lia),ah (by lia),show b.aM+j-b.aM=j by lia]
   have u3:∀s,jd w c a.aL s→part (a.aM+a.aQ) B w c a.aL (λj=>if j<a.aM then f j else f (a.aM+b.aM+(j-a.aM))) f (a.aM+a.aQ+s)=f (B+s):=λs hs=>wc hs
   have v3:∀s,jd w (c+a.aL) b.aL s→part (b.aM+b.aQ) B w (c+a.aL) b.aL (λj=>if j<b.aM then f (a.aM+j)else f (a.aM+b.aM+(a.aQ+(j-b.aM)))) f (b.aM+b.aQ+s)=f (B+s):=λs hs=>wc hs
   have ou:Out p (a.aM+a.aQ) w c a.aL (part (a.aM+a.aQ) B w c a.aL (λj=>if j<a.aM then f j else f (a.aM+b.aM+(j-a.aM))) f):=Cm
   have ov:Out p (b.aM+b.aQ) w (c+a.aL) b.aL (part (b.aM+b.aQ) B w (c+a.aL) b.aL (λj=>if j<b.aM then f (a.aM+j)else f (a.aM+b.aM+(a.aQ+(j-b.aM)))) f):=Cm
   have sm:∀s,p∣_+_-f (B+s):=Ol (ba:=a.aM+a.aQ) (bb:=b.aM+b.aQ) (g:=λj=>if j<a.aM then f j else f (a.aM+b.aM+(j-a.aM))) (g':=λj=>if j<b.aM then f (a.aM+j)else f (a.aM+b.aM+(a.aQ+(j-b.aM)))) o hc
   generalize part (a.aM+a.aQ) B w c a.aL (λj=>if j<a.aM then f j else f (a.aM+b.aM+(j-a.aM))) f=u at u1 u2 u3 ou sm
   generalize part (b.aM+b.aQ) B w (c+a.aL) b.aL (λj=>if j<b.aM then f (a.aM+j)else f (a.aM+b.aM+(a.aQ+(j-b.aM)))) f=v at v1 v2 v3 ov sm
   refine⟨u,v,(pK (d:=a) hd.1 (by lia) u).mpr ⟨TR.cN hd.1 (λj hj=>cT (u1 j hj).symm) (λj hj=>cT ?_) (λj hj=>cT (u2 j hj).symm) (λj hj=>cT ?_) ta,ou⟩,(pK (d:=b) hd.2 (by lia) v).mpr ⟨TR.cN hd.2 (λj hj=>cT (v1 j hj).symm) (λj hj=>cT ?_) (λj hj=>cT (v2 j hj).symm) (λj hj=>cT ?_) tb,ov⟩,
    Oe.mpr ⟨λj hj=>cT (u1 j hj),λj hj=>cT (v1 j hj),λj hj=>cT (u2 j hj),λj hj=>cT (v2 j hj),λs=>by rw[hB];exact sm s⟩⟩
   ·have:=u3 (c+j) (.inl (by lia))
    unfold sh;rw[← kK,← kK]at this;exact this.symm
   ·have:=u3 (w+c+j) (.inr (by lia))
    unfold sh;rw[show a.aM+a.aQ+(w+c+j)=a.aM+a.aQ+w+c+j by lia,show B+(w+c+j)=B+w+c+j by lia]at this;exact this.symm
   ·have:=v3 (c+a.aL+j) (.inl (by lia))
    unfold sh;rw[show b.aM+b.aQ+(c+a.aL+j)=b.aM+b.aQ+(c+a.aL)+j by lia,show B+(c+a.aL+j)=B+c+(a.aL+j) by lia]at this;exact this.symm
   ·have:=v3 (w+(c+a.aL)+j) (.inr (by lia))
    unfold sh;rw[show b.aM+b.aQ+(w+(c+a.aL)+j)=b.aM+b.aQ+w+(c+a.aL)+j by lia,show B+(w+(c+a.aL)+j)=B+w+c+(a.aL+j) by lia]at this;exact this.symm
 | .bt a b,c,hd,hc=>λf=>by
  have hc:c+(a.aL+b.aL)≤w:=hc;have hm:a.aQ=b.aM:=hd.2.2;show(∃u v,jC p w c a u∧jC p w (c+a.aL) b v∧(∀j,j<a.aQ→p∣u (a.aM+j)-v j)∧_)↔(∃m,TR p a f (sh (a.aM+b.aQ+c) f) m (sh (a.aM+b.aQ+w+c) f)∧
   TR p b m (sh a.aL (sh (a.aM+b.aQ+c) f)) (sh a.aM f) (sh a.aL (sh (a.aM+b.aQ+w+c) f)))∧Out p (a.aM+b.aQ) w c (a.aL+b.aL) f
  constructor
  ·rintro⟨u,v,hu,hv,e0,e⟩;obtain⟨b1,b2,b3⟩:=Of.mp e;obtain⟨tu,ou⟩:=(pK (d:=a) hd.1 (by lia) u).mp hu;obtain⟨tv,ov⟩:=(pK (d:=b) hd.2.1 (by lia) v).mp hv;obtain⟨o1,o2,o3⟩:=Oj (ba:=a.aM+a.aQ) (bb:=b.aM+b.aQ) (λs=>by rw[← hm];exact b3 s) ou ov hc;refine⟨⟨v,TR.cN hd.1 b1 (λj hj=>?_) e0 (λj hj=>?_) tu,TR.cN hd.2.1 (.refl _ _) (λj hj=>?_) (λj hj=>?_) (λj hj=>?_) tv⟩,o1⟩
   ·have:=o2 (c+j) (.inl (by lia))
    unfold sh;rwa[← kK,← kK]at this
   ·have:=o2 (w+c+j) (.inr (by lia))
    unfold sh;rwa[show a.aM+a.aQ+(w+c+j)=a.aM+a.aQ+w+c+j by lia,show a.aM+b.aQ+(w+c+j)=a.aM+b.aQ+w+c+j by lia]at this
   ·have:=o3 (c+a.aL+j) (.inl (by lia))
    unfold sh;rwa[show b.aM+b.aQ+(c+a.aL+j)=b.aM+b.aQ+(c+a.aL)+j by lia,show a.aM+b.aQ+(c+a.aL+j)=a.aM+b.aQ+c+(a.aL+j) by lia]at this
   ·have:=b2 j hj
    unfold sh;rwa[hm]at this
   ·have:=o3 (w+(c+a.aL)+j) (.inr (by lia))
    unfold sh;rwa[show b.aM+b.aQ+(w+(c+a.aL)+j)=b.aM+b.aQ+w+(c+a.aL)+j by lia,show a.aM+b.aQ+(w+(c+a.aL)+j)=a.aM+b.aQ+w+c+(a.aL+j) by lia]at this
  ·rintro⟨⟨m,ta,tb⟩,o⟩;have u1:∀j,j<a.aM→part (a.aM+a.aQ) (a.aM+b.aQ) w c a.aL (λj=>if j<a.aM then f j else m (j-a.aM)) f j=f j:=λj hj=>by
    rw[rO (by lia),ae hj]
   have u2:∀j,j<a.aQ→part (a.aM+a.aQ) (a.aM+b.aQ) w c a.aL (λj=>if j<a.aM then f j else m (j-a.aM)) f (a.aM+j)=m j:=λj hj=>by
    rw[rO (by lia),ah (by lia),show a.aM+j-a.aM=j by lia]
   have v1:∀j,j<b.aM→part (b.aM+b.aQ) (a.aM+b.aQ) w (c+a.aL) b.aL (λj=>if j<b.aM then m j else f (a.aM+(j-b.aM))) f j=m j:=λj hj=>by
    rw[rO (by lia),ae hj]
   have v2:∀j,j<b.aQ→part (b.aM+b.aQ) (a.aM+b.aQ) w (c+a.aL) b.aL (λj=>if j<b.aM then m j else f (a.aM+(j-b.aM))) f (b.aM+j)=f (a.aM+j):=λj hj=>by
    rw[rO (by lia),ah (by lia),show b.aM+j-b.aM=j by lia]
   have u3:∀s,jd w c a.aL s→part (a.aM+a.aQ) (a.aM+b.aQ) w c a.aL (λj=>if j<a.aM then f j else m (j-a.aM)) f (a.aM+a.aQ+s)=f (a.aM+b.aQ+s):=λs hs=>wc hs
   have v3:∀s,jd w (c+a.aL) b.aL s→part (b.aM+b.aQ) (a.aM+b.aQ) w (c+a.aL) b.aL (λj=>if j<b.aM then m j else f (a.aM+(j-b.aM))) f (b.aM+b.aQ+s)=f (a.aM+b.aQ+s):=λs hs=>wc hs
   have ou:Out p (a.aM+a.aQ) w c a.aL (part (a.aM+a.aQ) (a.aM+b.aQ) w c a.aL (λj=>if j<a.aM then f j else m (j-a.aM)) f):=Cm
   have ov:Out p (b.aM+b.aQ) w (c+a.aL) b.aL (part (b.aM+b.aQ) (a.aM+b.aQ) w (c+a.aL) b.aL (λj=>if j<b.aM then m j else f (a.aM+(j-b.aM))) f):=Cm
   have sm:∀s,p∣_+_-f (a.aM+b.aQ+s):=Ol (ba:=a.aM+a.aQ) (bb:=b.aM+b.aQ) (g:=λj=>if j<a.aM then f j else m (j-a.aM)) (g':=λj=>if j<b.aM then m j else f (a.aM+(j-b.aM))) o hc
   generalize part (a.aM+a.aQ) (a.aM+b.aQ) w c a.aL (λj=>if j<a.aM then f j else m (j-a.aM)) f=u at u1 u2 u3 ou sm
   generalize part (b.aM+b.aQ) (a.aM+b.aQ) w (c+a.aL) b.aL (λj=>if j<b.aM then m j else f (a.aM+(j-b.aM))) f=v at v1 v2 v3 ov sm
   refine⟨u,v,(pK (d:=a) hd.1 (by lia) u).mpr ⟨TR.cN hd.1 (λj hj=>cT (u1 j hj).symm) (λj hj=>cT ?_) (λj hj=>cT (u2 j hj).symm) (λj hj=>cT ?_) ta,ou⟩,(pK (d:=b) hd.2.1 (by lia) v).mpr ⟨TR.cN hd.2.1 (λj hj=>cT (v1 j hj).symm) (λj hj=>cT ?_) (λj hj=>cT (v2 j hj).symm) (λj hj=>cT ?_) tb,ov⟩,
    λj hj=>cT (by rw[u2 j hj,v1 j (by lia)]),Of.mpr ⟨λj hj=>cT (u1 j hj),λj hj=>cT (by rw[hm];exact v2 j hj),λs=>by have:=sm s;rw[← hm]at this;exact this⟩⟩
   ·have:=u3 (c+j) (.inl (by lia))
    unfold sh;rw[← kK,← kK]at this;exact this.symm
   ·have:=u3 (w+c+j) (.inr (by lia))
    unfold sh;rw[show a.aM+a.aQ+(w+c+j)=a.aM+a.aQ+w+c+j by lia,show a.aM+b.aQ+(w+c+j)=a.aM+b.aQ+w+c+j by lia]at this;exact this.symm
   ·have:=v3 (c+a.aL+j) (.inl (by lia))
    unfold sh;rw[show b.aM+b.aQ+(c+a.aL+j)=b.aM+b.aQ+(c+a.aL)+j by lia,show a.aM+b.aQ+(c+a.aL+j)=a.aM+b.aQ+c+(a.aL+j) by lia]at this;exact this.symm
   ·have:=v3 (w+(c+a.aL)+j) (.inr (by lia))
    unfold sh;rw[show b.aM+b.aQ+(w+(c+a.aL)+j)=b.aM+b.aQ+w+(c+a.aL)+j by lia,show a.aM+b.aQ+(w+(c+a.aL)+j)=a.aM+b.aQ+w+c+(a.aL+j) by lia]at this;exact this.symm
end
section
variable{p:Int}
abbrev iI:=List Int→List Int→List Int×List Int
structure je(p:Int)(d:Drw)(F:iI):Prop where
 wf:d.dU p
 len:∀g k,g.length=d.aM→k.length=d.aL→(F g k).1.length=d.aQ∧(F g k).2.length=d.aL
 tr:∀g k,g.length=d.aM→k.length=d.aL→∀y a,TR p d (fn g) (fn k) y a↔Cg p d.aQ y (fn (F g k).1)∧Cg p d.aL a (fn (F g k).2)
theorem ko{r:List Int}(h:j<r.length):fn (r++s) j=fn r j:=by
 unfold fn;rw[cL,cL,ip h]
theorem Hw{r:List Int}{n:Nat}(h:r.length=n):sh n (fn (r++s))=fn s:=by
 funext j
 unfold sh fn;rw[cL,cL,iK (by lia),show n+j-r.length=j by lia]
theorem jD{r:List Int}{n:Nat}(h:j<n):fn (r.take n) j=fn r j:=by
 unfold fn;rw[cL,cL,List.getElem?_take_of_lt h]
theorem qA(r:List Int)(n:Nat):sh n (fn r)=fn (r.drop n):=by
 funext j
 unfold sh fn;rw[cL,cL,List.getElem?_drop]
theorem Hy{n:Nat}{r:List Int}(h:r.length=n):Cg p (n+m) y (fn (r++s))↔Cg p n y (fn r)∧Cg p m (sh n y) (fn s):=by
 constructor
 ·intro z;refine⟨λj hj=>?_,?_⟩
  ·have:=z j (by lia)
   rwa[ko (by lia)]at this
  ·have:=Cg.sh z
   rwa[Hw h]at this
 ·rintro⟨z1,z2⟩ j hj;by_cases hn:j<n
  ·rw[ko (by lia)];exact z1 j hn
  ·have:=z2 (j-n) (by lia)
   rw[← Hw (s:=s) h]at this;unfold sh at this;rwa[show n+(j-n)=j by lia]at this
theorem Cg.trans{n:Nat}{h:Fn}(a:Cg p n f g)(b:Cg p n g h):Cg p n f h:=λj hj=>qz (a j hj) (b j hj) (by lia)
noncomputable def pL(la na:Nat)(F G:iI):iI:=λg k=>((F (g.take la) (k.take na)).1++(G (g.drop la) (k.drop na)).1,(F (g.take la) (k.take na)).2++(G (g.drop la) (k.drop na)).2)
noncomputable def rP(na:Nat)(F G:iI):iI:=λg k=>((G (F g (k.take na)).1 (k.drop na)).1,(F g (k.take na)).2++(G (F g (k.take na)).1 (k.drop na)).2)
theorem je.bes{a b:Drw}{F G:iI}(ha:je p a F)(hb:je p b G):je p (.dD a b) (pL a.aM a.aL F G):=by
 have sub:∀g k:List Int,g.length=a.aM+b.aM→k.length=a.aL+b.aL→((g.take a.aM).length=a.aM∧(k.take a.aL).length=a.aL)∧(g.drop a.aM).length=b.aM∧(k.drop a.aL).length=b.aL:=λg k hg hk=>by
  simp only[da,ff];lia
 refine⟨⟨ha.wf,hb.wf⟩,λg k hg hk=>?_,λg k hg hk y a'=>?_⟩
 ·obtain⟨⟨s1,s2⟩,s3,s4⟩:=sub g k hg hk;obtain⟨l1,l2⟩:=ha.len _ _ s1 s2;obtain⟨l3,l4⟩:=hb.len _ _ s3 s4;unfold pL;exact⟨by rw[cq,l1,l3];rfl,by rw[cq,l2,l4];rfl⟩
 ·obtain⟨⟨s1,s2⟩,s3,s4⟩:=sub g k hg hk;obtain⟨l1,l2⟩:=ha.len _ _ s1 s2;show TR p a (fn g) (fn k) y a'∧TR p b (sh a.aM (fn g)) (sh a.aL (fn k)) (sh a.aQ y) (sh a.aL a')↔Cg p (a.aQ+b.aQ) y (fn (_++_))∧Cg p (a.aL+b.aL) a' (fn (_++_));rw[Hy l1,Hy l2,qA,qA,hb.tr _ _ s3 s4];have e:TR p a (fn g) (fn k) y a'↔TR p a (fn (g.take a.aM)) (fn (k.take a.aL)) y a':=by
   have c1:Cg p a.aM (fn g) (fn (g.take a.aM)):=λj hj=>cT (jD hj).symm;have c2:Cg p a.aL (fn k) (fn (k.take a.aL)):=λj hj=>cT (jD hj).symm;exact⟨TR.cN ha.wf c1 c2 (.refl _ _) (.refl _ _),TR.cN ha.wf c1.symm c2.symm (.refl _ _) (.refl _ _)⟩
  rw[e,ha.tr _ _ s1 s2];constructor
  ·rintro⟨⟨h1,h2⟩,h3,h4⟩;exact⟨⟨h1,h3⟩,h2,h4⟩
  ·rintro⟨⟨h1,h3⟩,h2,h4⟩;exact⟨⟨h1,h2⟩,h3,h4⟩
theorem je.bt{a b:Drw}{F G:iI}(hm:a.aQ=b.aM)(ha:je p a F)(hb:je p b G):je p (.bt a b) (rP a.aL F G):=by
 have sub:∀k:List Int,k.length=a.aL+b.aL→(k.take a.aL).length=a.aL∧(k.drop a.aL).length=b.aL:=λk hk=>by
  simp only[da,ff];lia
 refine⟨⟨ha.wf,hb.wf,hm⟩,λg k hg hk=>?_,λg k hg hk y a'=>?_⟩
 ·obtain⟨s2,s4⟩:=sub k hk;obtain⟨l1,l2⟩:=ha.len _ _ hg s2;obtain⟨l3,l4⟩:=hb.len _ _ (l1.trans hm) s4;unfold rP;exact⟨l3,by rw[cq,l2,l4];rfl⟩
 ·obtain⟨s2,s4⟩:=sub k hk;obtain⟨l1,l2⟩:=ha.len g _ hg s2;show(∃m,TR p a (fn g) (fn k) m a'∧TR p b m (sh a.aL (fn k)) y (sh a.aL a'))↔Cg p b.aQ y (fn _)∧Cg p (a.aL+b.aL) a' (fn (_++_));rw[Hy l2,qA];have c2:Cg p a.aL (fn k) (fn (k.take a.aL)):=λj hj=>cT (jD hj).symm;constructor
  ·rintro⟨m,h1,h2⟩;obtain⟨h3,h4⟩:=(ha.tr g _ hg s2 m a').mp (TR.cN ha.wf (.refl _ _) c2 (.refl _ _) (.refl _ _) h1);obtain⟨h5,h6⟩:=(hb.tr _ _ (l1.trans hm) s4 y _).mp (TR.cN hb.wf (hm▸h3) (.refl _ _) (.refl _ _) (.refl _ _) h2);exact⟨h5,h4,h6⟩
  ·rintro⟨h5,h4,h6⟩;exact⟨fn (F g (k.take a.aL)).1,TR.cN ha.wf (.refl _ _) c2.symm (.refl _ _) (.refl _ _) ((ha.tr g _ hg s2 _ a').mpr ⟨.refl _ _,h4⟩),(hb.tr _ _ (l1.trans hm) s4 y _).mpr ⟨h5,h6⟩⟩
end
inductive Bx where
 |add|swap|copy|times (n:Int)|dq|id|none|fin
namespace Bx
noncomputable def ck:Bx→Drw
 |add=>.box "add" 2 1 [[1,0,1],[0,1,1]]
 |swap=>.box "swap" 2 2 [[1,0,0,1],[0,1,1,0]]
 |copy=>.box "copy" 1 2 [[1,1,1]]
 |times n=>.times n
 |dq=>.box "late" 1 1 []
 |id=>.box "id" 1 1 [[1,1]]
 |none=>.box "none" 0 1 []
 |fin=>.box "end" 1 0 [[1]]
noncomputable def run(p:Int):Bx→iI
 |add=>λg _=>([(fn g 0+fn g 1)%p],[])
 |swap=>λg _=>([fn g 1,fn g 0],[])
 |copy=>λg _=>([fn g 0,fn g 0],[])
 |times n=>λg _=>([fn g 0*n%p],[])
 |dq=>λg k=>([fn k 0],[fn g 0])
 |id=>λg _=>([fn g 0],[])
 |none=>λ_ _=>([0],[])
 |fin=>λ_ _=>([],[])
def wf(p:Int):Bx→Prop
 |times n=>0≤n∧n<p
 |_=>True
end Bx
section
variable{p:Int}
theorem pM{z:Fn}:Cg p 0 y z:=λj hj=>absurd hj (Nat.not_lt_zero j)
theorem wd{u:Int}:Cg p 1 y (fn [u])↔p∣y 0-u:=by
 constructor
 ·intro h;exact h 0 (by decide)
 ·intro h j hj;obtain rfl:j=0:=by lia
  exact h
theorem Om{u v:Int}:Cg p 2 y (fn [u,v])↔p∣y 0-u∧p∣y 1-v:=by
 constructor
 ·intro h;exact⟨h 0 (by decide),h 1 (by decide)⟩
 ·rintro⟨h,h'⟩ j hj
  match j,hj with
  |0,_=>exact h
  |1,_=>exact h'
  |j+2,hj=>lia
theorem rQ{n:Str}{l r:Nat}{aV:LL}{x k a:Fn}(h:(n,l,r,aV)∈gB):TR p (.box n l r aV) x k y a↔Sp p (RS aV) (λj=>if j<l then x j else if j<l+r then y (j-l)else 0):=by
 unfold TR;rw[ah (rH _ h)]
theorem nK{n:Str}{l r:Nat}{aV:LL}(h:(n,l,r,aV)∈gB):(Drw.box n l r aV).aL=0:=ah (rH _ h)
theorem uf{n:Nat}(h:∀j,n≤j→f j=0):Nil p f n:=λj hj=>by rw[h j hj];exact⟨0,by lia⟩
theorem Oo(a b:Int):p∣a-b%p↔p∣a-b:=by
 have h:=pe p b;constructor
 ·intro z;exact qz z h (by lia)
 ·intro z;exact iM z h (by lia)
theorem yJ(b:Bx)(hb:b.wf p):je p b.ck (b.run p):=by
 cases b with
 |add=>
  have m:(("add":Str),2,1,[[1,0,1],[0,1,1]])∈gB:=by decide +kernel
  refine⟨.inl m,λg k _ _=>⟨rfl,(nK m).symm⟩,λg k _ _ y a=>?_⟩;show TR p (.box _ _ _ _) _ _ _ _↔Cg p 1 y (fn [_])∧Cg p (Drw.box _ _ _ _).aL a (fn []);rw[rQ m,nK m,Z7,wd,Oo];exact⟨λh=>⟨h.1,pM⟩,λh=>⟨h.1,uf λj hj=>by rw[ah (by lia),ah (by lia)]⟩⟩
 |swap=>
  have m:(("swap":Str),2,2,[[1,0,0,1],[0,1,1,0]])∈gB:=by decide +kernel
  refine⟨.inl m,λg k _ _=>⟨rfl,(nK m).symm⟩,λg k _ _ y a=>?_⟩;show TR p (.box _ _ _ _) _ _ _ _↔Cg p 2 y (fn [_,_])∧Cg p (Drw.box _ _ _ _).aL a (fn []);rw[rQ m,nK m,Z8,Om];exact⟨λh=>⟨⟨h.2.1,h.1⟩,pM⟩,λh=>⟨h.1.2,h.1.1,uf λj hj=>by rw[ah (by lia),ah (by lia)]⟩⟩
 |copy=>
  have m:(("copy":Str),1,2,[[1,1,1]])∈gB:=by decide +kernel
  refine⟨.inl m,λg k _ _=>⟨rfl,(nK m).symm⟩,λg k _ _ y a=>?_⟩;show TR p (.box _ _ _ _) _ _ _ _↔Cg p 2 y (fn [_,_])∧Cg p (Drw.box _ _ _ _).aL a (fn []);rw[rQ m,nK m,Z6,Om];exact⟨λh=>⟨⟨h.1,h.2.1⟩,pM⟩,λh=>⟨h.1.1,h.1.2,uf λj hj=>by rw[ah (by lia),ah (by lia)]⟩⟩
 |times n=>
  refine⟨hb,λg k _ _=>⟨rfl,rfl⟩,λg k _ _ y a=>?_⟩;show p∣y 0-n*fn g 0↔Cg p 1 y (fn [_])∧Cg p 0 a (fn []);rw[wd,Oo,nP];exact⟨λh=>⟨h,pM⟩,λh=>h.1⟩
 |dq=>
  refine⟨.inr ⟨rfl,rfl,rfl⟩,λg k _ _=>⟨rfl,rfl⟩,λg k _ _ y a=>?_⟩;show(if _ then _ else _)↔Cg p 1 y (fn [_])∧Cg p 1 a (fn [_])
  rw[ae rfl,wd,wd]
 |id=>
  have m:(("id":Str),1,1,[[1,1]])∈gB:=by decide +kernel
  refine⟨.inl m,λg k _ _=>⟨rfl,(nK m).symm⟩,λg k _ _ y a=>?_⟩;show TR p (.box _ _ _ _) _ _ _ _↔Cg p 1 y (fn [_])∧Cg p (Drw.box _ _ _ _).aL a (fn []);rw[rQ m,nK m,Hu,wd];exact⟨λh=>⟨h.1,pM⟩,λh=>⟨h.1,uf λj hj=>by rw[ah (by lia),ah (by lia)]⟩⟩
 |none=>
  have m:(("none":Str),0,1,[])∈gB:=by decide +kernel
  refine⟨.inl m,λg k _ _=>⟨rfl,(nK m).symm⟩,λg k _ _ y a=>?_⟩;show TR p (.box _ _ _ _) _ _ _ _↔Cg p 1 y (fn [_])∧Cg p (Drw.box _ _ _ _).aL a (fn []);rw[rQ m,nK m,jT,wd,sk];refine⟨λh=>⟨h 0,pM⟩,λh j=>?_⟩;by_cases hj:j<1
  ·obtain rfl:j=0:=by lia
   exact h.1
  ·rw[ah (by lia),ah (by lia)];exact⟨0,by lia⟩
 |fin=>
  have m:(("end":Str),1,0,[[1]])∈gB:=by decide +kernel
  refine⟨.inl m,λg k _ _=>⟨rfl,(nK m).symm⟩,λg k _ _ y a=>?_⟩;show TR p (.box _ _ _ _) _ _ _ _↔Cg p 0 y (fn [])∧Cg p (Drw.box _ _ _ _).aL a (fn []);rw[rQ m,nK m,Z5];exact⟨λ_=>⟨pM,pM⟩,λ_=>uf λj hj=>by rw[ah (by lia),ah (by lia)]⟩
end
end S21
namespace S21
open PySem L2 Bw
variable{F:iI}{W d:Drw}{a x y:Fn}{g:List Int}{i:Nat}
noncomputable abbrev Bx.l(b:Bx):Nat:=b.ck.aM
noncomputable abbrev Bx.r(b:Bx):Nat:=b.ck.aQ
noncomputable abbrev Bx.n(b:Bx):Nat:=b.ck.aL
noncomputable def cn:List Bx→Drw
 | []=>Bx.id.ck
 | [b]=>b.ck
 |b::c::bs=>.dD b.ck (cn (c::bs))
noncomputable def gR(p:Int):List Bx→iI
 | []=>Bx.id.run p
 | [b]=>b.run p
 |b::c::bs=>pL b.l b.n (b.run p) (gR p (c::bs))
noncomputable def fY:List (List Bx)→Drw
 | []=>Bx.id.ck
 | [x]=>cn x
 |x::y::xs=>.bt (cn x) (fY (y::xs))
noncomputable def jE(p:Int):List (List Bx)→iI
 | []=>Bx.id.run p
 | [x]=>gR p x
 |x::y::xs=>rP (cn x).aL (gR p x) (jE p (y::xs))
def Met:List (List Bx)→Prop
 |x::y::xs=>(cn x).aQ=(cn y).aM∧Met (y::xs)
 |_=>True
theorem Oq:∀(x:List Bx)(xs:List (List Bx)),(fY (x::xs)).aM=(cn x).aM
 |x,[]=>rfl
 |x,y::ys=>rfl
section
variable{p:Int}
theorem we:∀{bs:List Bx},(∀b∈bs,b.wf p)→je p (cn bs) (gR p bs)
 | [],_=>yJ .id trivial
 | [b],h=>yJ b (h b dj)
 |b::c::bs,h=>je.bes (yJ b (h b dj)) (we λx hx=>h x (gq _ hx))
theorem Ot:∀{ls:List (List Bx)},(∀bs∈ls,∀b∈bs,b.wf p)→Met ls→je p (fY ls) (jE p ls)
 | [],_,_=>yJ .id trivial
 | [x],h,_=>we (h x dj)
 |x::y::xs,h,m=>je.bt (by rw[Oq];exact m.1) (we (h x dj)) (Ot (λz hz=>h z (gq _ hz)) m.2)
noncomputable abbrev kq:Drw:=.box "cup" 0 2 [[1,1]]
noncomputable def cA:Nat→List Bx:=λn=>List.replicate n .id
noncomputable def rR(l r:Nat)(W:Drw):Drw:=.bt (.dD kq (cn (cA l))) (.bt (.dD Bx.id.ck W) (.dD (.back kq) (cn (cA r))))
noncomputable def yM(F:iI):iI:=λg k=>((F (k.getLastD 0::g) k).1.drop 1,(F (k.getLastD 0::g) k).2)
theorem aab{k:Fn}:TR p kq x k y a↔p∣y 1-y 0:=by
 have m:(("cup":Str),0,2,[[1,1]])∈gB:=by decide +kernel
 rw[rQ m,Hu];exact⟨λh=>h.1,λh=>⟨h,uf λj hj=>by rw[ah (by lia),ah (by lia)]⟩⟩
theorem nL:∀n,1≤n→(cn (cA n)).ee=(n,n)∧(cn (cA n)).aL=0
 |0,h=>by lia
 |1,_=>⟨rfl,by decide +kernel⟩
 |n+2,_=>by
  have ih:=nL (n+1) (by lia);show((1+(cn (cA (n+1))).ee.1,1+(cn (cA (n+1))).ee.2):Nat×Nat)=_∧Bx.id.ck.aL+(cn (cA (n+1))).aL=0;rw[ih.1,ih.2];exact⟨by rw[show 1+(n+1)=n+2 by lia],by decide +kernel⟩
theorem Ou:∀n (g:List Int),1≤n→g.length=n→(gR p (cA n) g []).1=g
 |0,_,h,_=>by lia
 |1,g,_,hg=>by
  match g,hg with
  | [x],_=>rfl
 |n+2,g,_,hg=>by
  match g,hg with
  |x::g,hg=>
   have hg:g.length=n+1:=by simpa using hg
   have ih:=Ou (n+1) g (by lia) hg;have e:(([]:List Int).drop (Bx.n .id))=[]:=List.drop_nil;show[x]++(gR p (cA (n+1)) g (([]:List Int).drop (Bx.n .id))).1=_;rw[e,ih];rfl
theorem Ov{n:Nat}(h:1≤n){k:Fn}:TR p (cn (cA n)) x k y a↔Cg p n y x:=by
 have wf:∀b∈cA n,b.wf p:=λb hb=>by rw[wQ hb];trivial
 obtain⟨e1,e2⟩:=nL n h;have el:(cn (cA n)).aM=n:=ao Prod.fst e1;have er:(cn (cA n)).aQ=n:=ao Prod.snd e1;have ok:=we wf;have hg:((List.range n).map x).length=n:=by rw[bI,kH]
 have t:=ok.tr ((List.range n).map x) [] (by rw[el];exact hg) (by rw[e2];rfl) y a;rw[Ou n _ h hg,e2,er]at t;have fx:Cg p n (fn ((List.range n).map x)) x:=λj hj=>cT (by
  unfold fn;rw[cL,eU,List.getElem?_range hj];rfl)
 have c1:Cg p (cn (cA n)).aM (fn ((List.range n).map x)) x:=by rw[el];exact fx
 have c2:∀u v:Fn,Cg p (cn (cA n)).aL u v:=λu v=>by rw[e2];exact pM
 constructor
 ·intro z;exact(t.mp (TR.cN ok.wf c1.symm (c2 _ _) (.refl _ _) (c2 _ _) z)).1.trans fx
 ·intro z;exact TR.cN ok.wf c1 (c2 _ _) (.refl _ _) (c2 _ _) (t.mpr ⟨z.trans fx.symm,pM⟩)
end
section
variable{p:Int}
theorem sh0(f:Fn):sh 0 f=f:=by funext j;unfold sh;rw[Nat.zero_add]
theorem Ow:kq.aL=0:=by decide +kernel
theorem Ox:Bx.id.ck.aL=0:=by decide +kernel
theorem aac{k:Fn}:TR p Bx.id.ck x k y a↔p∣y 0-x 0:=by
 have m:(("id":Str),1,1,[[1,1]])∈gB:=by decide +kernel
 show TR p (.box _ _ _ _) _ _ _ _↔_;rw[rQ m,Hu];exact⟨λh=>h.1,λh=>⟨h,uf λj hj=>by rw[ah (by lia),ah (by lia)]⟩⟩
theorem aad{l r:Nat}(hl:1≤l)(hr:1≤r){k:Fn}:TR p (rR l r W) x k y a ↔
  ∃m1,(p∣m1 1-m1 0∧Cg p l (sh 2 m1) x)∧∃m2,(p∣m2 0-m1 0∧TR p W (sh 1 m1) k (sh 1 m2) a)∧p∣m2 1-m2 0∧Cg p r y (sh 2 m2):=by
 have i1:=(nL l hl).2;have z1:(Drw.dD kq (cn (cA l))).aL=0:=by show kq.aL+(cn (cA l)).aL=0;rw[Ow,i1]
 show(∃m1,(TR p kq x k m1 a∧TR p (cn (cA l)) (sh 0 x) (sh kq.aL k) (sh 2 m1) (sh kq.aL a))∧
  ∃m2,(TR p Bx.id.ck m1 (sh _ k) m2 (sh _ a)∧TR p W (sh 1 m1) (sh Bx.id.ck.aL (sh (Drw.dD kq (cn (cA l))).aL k)) (sh 1 m2) (sh Bx.id.ck.aL (sh (Drw.dD kq (cn (cA l))).aL a)))∧(TR p kq y _ m2 _∧TR p (cn (cA r)) (sh 2 m2) _ (sh 0 y) _))↔_
 rw[z1,Ox];simp only[sh0,aab,Ov hl,Ov hr,aac]
theorem Oy{l r:Nat}(hl:1≤l)(hr:1≤r):(rR l r W).aL=W.aL:=by
 show kq.aL+(cn (cA l)).aL+(Bx.id.ck.aL+W.aL+(kq.aL+(cn (cA r)).aL))=_;rw[Ow,Ox,(nL l hl).2,(nL r hr).2];lia
theorem Oz{l r:Nat}(hl:1≤l)(hr:1≤r):(rR l r W).aM=l∧(rR l r W).aQ=r:=by
 constructor
 ·show 0+(cn (cA l)).ee.1=l;rw[(nL l hl).1];show 0+l=l;lia
 ·show 0+(cn (cA r)).ee.2=r;rw[(nL r hr).1];show 0+r=r;lia
theorem aae{l r n:Nat}(hl:1≤l)(hr:1≤r)(ok:je p W F)(wl:W.aM=l+1)(wr:W.aQ=r+1)(wn:W.aL=n)
  (h0:∀s g k,g.length=l→k.length=n→fn (F (s::g) k).1 0=k.getLastD 0):je p (rR l r W) (yM F):=by
 obtain⟨sl,sr⟩:=Oz (W:=W) hl hr;have sn:=Oy (W:=W) hl hr;have cw:∀m,1≤m→(cn (cA m)).dU p:=λm hm=>(we λb hb=>by rw[wQ hb];trivial).wf;have cu:kq.dU p:=.inl (by decide +kernel);refine⟨⟨⟨cu,cw l hl⟩,⟨⟨(yJ .id trivial).wf,ok.wf⟩,⟨cu,cw r hr⟩,?_⟩,?_⟩,λg k hg hk=>?_,λg k hg hk y a=>?_⟩
 ·show 1+W.aQ=2+(cn (cA r)).ee.1;rw[(nL r hr).1,wr];show _=2+r;lia
 ·show 2+(cn (cA l)).ee.2=1+W.aM;rw[(nL l hl).1,wl];show 2+l=_;lia
 ·rw[sl]at hg;rw[sn]at hk;obtain⟨l1,l2⟩:=ok.len (k.getLastD 0::g) k (by rw[wl,eW,hg]) hk;rw[sr,sn];unfold yM;exact⟨by rw[ff,l1,wr];lia,l2⟩
 ·rw[sl]at hg;rw[sn]at hk;have gl:∀s:Int,(s::g).length=W.aM:=λs=>by rw[wl,eW,hg]
  rw[sr,sn,aad hl hr];unfold yM;generalize hs:k.getLastD 0=s;obtain⟨l1,l2⟩:=ok.len (s::g) k (gl s) hk;have cx:∀(m1:Fn)(t:Int),p∣m1 1-t→Cg p l (sh 2 m1) (fn g)→Cg p W.aM (sh 1 m1) (fn (t::g)):=λm1 t h1 h2=>by
   rw[wl];intro j hj
   match j,hj with
   |0,_=>exact h1
   |j+1,hj=>
    have:=h2 j (by lia)
    unfold sh at this ⊢;rw[show 1+(j+1)=2+j by lia];exact this
  constructor
  ·rintro⟨m1,⟨h1,h2⟩,m2,⟨h3,h4⟩,h5,h6⟩;obtain⟨t1,_⟩:=(ok.tr _ _ (gl (m1 1)) hk _ _).mp (TR.cN ok.wf (cx m1 (m1 1) (cT rfl) h2) (.refl _ _) (.refl _ _) (.refl _ _) h4);have t2:=t1 0 (by rw[wr];lia);rw[h0 _ g k hg (hk.trans wn),hs]at t2;have t2:p∣m2 1-s:=t2;have t3:p∣m1 1-s:=qz (iM (qz h1 (Hv h3) rfl) h5 rfl) t2 (by lia);obtain⟨t4,t5⟩:=(ok.tr _ _ (gl s) hk _ _).mp (TR.cN ok.wf (cx m1 s t3 h2) (.refl _ _) (.refl _ _) (.refl _ _) h4);refine⟨λj hj=>?_,t5⟩;have t6:=t4 (1+j) (by rw[wr];lia);have t7:=h6 j hj;rw[← qA];unfold sh at t6 t7 ⊢;rw[show 1+(1+j)=2+j by lia]at t6;exact qz t7 t6 (by lia)
  ·rintro⟨t1,t2⟩;have t0:=h0 s g k hg (hk.trans wn);rw[hs]at t0;refine⟨fn (s::s::g),⟨cT rfl,λj hj=>cT (by unfold sh fn;rw[qL];rfl)⟩,fn (s::(F (s::g) k).1),⟨cT rfl,?_⟩,?_,λj hj=>?_⟩
   ·have e1:sh 1 (fn (s::s::g))=fn (s::g):=by funext j;unfold sh fn;rw[qL];rfl
    have e2:sh 1 (fn (s::(F (s::g) k).1))=fn (F (s::g) k).1:=by funext j;unfold sh fn;rw[qL];rfl
    rw[e1,e2];exact(ok.tr _ _ (gl s) hk _ _).mpr ⟨.refl _ _,t2⟩
   ·exact cT t0
   ·have:=t1 j hj
    rw[← qA]at this;have e:sh 2 (fn (s::(F (s::g) k).1)) j=sh 1 (fn (F (s::g) k).1) j:=by unfold sh fn;rw[show 2+j=1+j+1 by lia];rfl
    rw[e];exact this
end
section
variable{p:Int}
noncomputable def ug(l r w j:Nat):Option (Int×Nat):=if j<l then some (1,j)else if j<l+w then some (1,j+r)else if j<l+w+r then some (1,j-w)else some (1,j)
theorem aaf{l r w:Nat}{row:List Int}(h:row.length=l+r+2*w)(j:Nat):fn (ia l r w row) j=bK (ug l r w) (fn row) j:=by
 unfold ia;have e1:(row.take l).length=l:=by rw[da];lia
 have e2:((row.drop (l+r)).take w).length=w:=by rw[da,ff];lia
 have e3:((row.drop l).take r).length=r:=by rw[da,ff];lia
 have g:∀(a b:List Int)(j:Nat),a.length≤j→fn (a++b) j=fn b (j-a.length):=λa b j hj=>by
  unfold fn;rw[cL,cL,iK hj]
 have dr:∀(n j:Nat),fn (row.drop n) j=fn row (n+j):=λn j=>(congrFun (qA row n) j).symm;unfold bK ug;by_cases h1:j<l
 ·simp only[h1,if_true,gi];rw[dQ,dQ,ko (by rw[e1];exact h1),jD h1]
 ·by_cases h2:j<l+w
  ·simp only[h1,h2,if_true,if_false,gi];rw[dQ,dQ,g _ _ j (by lia),e1,ko (by rw[e2];lia),jD (by lia),dr,show l+r+(j-l)=j+r by lia]
  ·by_cases h3:j<l+w+r
   ·simp only[h1,h2,h3,if_true,if_false,gi];rw[dQ,dQ,g _ _ j (by lia),e1,g _ _ _ (by lia),e2,ko (by rw[e3];lia),jD (by lia),dr,show l+(j-l-w)=j-w by lia]
   ·simp only[h1,h2,h3,if_false,gi];rw[dQ,dQ,g _ _ j (by lia),e1,g _ _ _ (by lia),e2,g _ _ _ (by lia),e3,dr,show l+r+w+(j-l-w-r)=j by lia]
noncomputable def ju(l r w:Nat)(f:Fn):Fn:=λj=>if j<l then f j else if j<l+r then f (j+w)else if j<l+r+w then f (j-r)else f j
theorem aag{l r w:Nat}(f:Fn)(j:Nat):bK (ug l r w) (ju l r w f) j=f j:=by
 unfold bK ug ju;by_cases h1:j<l
 ·simp only[h1,if_true,gi]
 ·by_cases h2:j<l+w
  ·simp only[h1,h2,if_true,if_false,gi,show ¬j+r<l by lia,show ¬j+r<l+r by lia,show j+r<l+r+w by lia,show j+r-r=j by lia]
  ·by_cases h3:j<l+w+r
   ·simp only[h1,h2,h3,if_true,if_false,gi,show ¬j-w<l by lia,show j-w<l+r by lia,show j-w+w=j by lia]
   ·simp only[h1,h2,h3,if_false,gi,show ¬j<l+r by lia,show ¬j<l+r+w by lia]
theorem aah{l r w:Nat}(f:Fn)(j:Nat):ju l r w (bK (ug l r w) f) j=f j:=by
 unfold bK ug ju;by_cases h1:j<l
 ·simp only[h1,if_true,gi]
 ·by_cases h2:j<l+r
  ·simp only[h1,h2,if_true,if_false,gi,show ¬j+w<l by lia,show ¬j+w<l+w by lia,show j+w<l+w+r by lia,show j+w-w=j by lia]
  ·by_cases h3:j<l+r+w
   ·simp only[h1,h2,h3,if_true,if_false,gi,show ¬j-r<l by lia,show j-r<l+w by lia,show j-r+r=j by lia]
   ·simp only[h1,h2,h3,if_false,gi,show ¬j<l+w by lia,show ¬j<l+w+r by lia]
theorem aai{l r w:Nat}{u v:Fn}(h:eN p u v):eN p (ju l r w u) (ju l r w v):=λj=>by
 unfold ju;split
 ·exact h _
 ·split
  ·exact h _
  ·split
   ·exact h _
   ·exact h _
theorem aaj{l r w:Nat}{aV:LL}{f:Fn}(h:cz p (l+r+2*w) aV):Sp p (RS (aV.map (ia l r w))) f↔Sp p (RS aV) (ju l r w f):=by
 rw[oH (s:=ug l r w) (λq hq=>lO (aaf (h q hq).1))];constructor
 ·rintro⟨u,hu,e⟩;exact .cN hu ((lO λj=>(aah u j).symm).trans (aai e))
 ·intro h;exact⟨_,h,lO (aag f)⟩
theorem Cn(pp:p∈cW)(hd:d.dU p)(hs:d.sm)(hw:d.aL≤40){f:Fn}:Sp p (RS ((d.dG p d.aL 0).map (ia d.aM d.aQ d.aL))) f ↔
  TR p d f (sh d.aM f) (sh (d.aM+d.aL) f) (sh (d.aM+d.aL+d.aQ) f)∧∀s,p∣f (d.aM+d.aL+d.aQ+d.aL+s):=by
 obtain⟨_,_,_,hR⟩:=Drw.iU pp hw (d:=d) (c:=0) hd hs (by lia);rw[aaj hR,pE pp hw hd hs (by lia),pK hd (by lia)];have c1:Cg p d.aM (ju d.aM d.aQ d.aL f) f:=λj hj=>cT (by unfold ju;rw[ae hj]);have c2:Cg p d.aL (sh (d.aM+d.aQ+0) (ju d.aM d.aQ d.aL f)) (sh d.aM f):=λj hj=>cT (by
  unfold sh ju;rw[ah (by lia),ah (by lia),ae (by lia),show d.aM+d.aQ+0+j-d.aQ=d.aM+j by lia])
 have c3:Cg p d.aQ (sh d.aM (ju d.aM d.aQ d.aL f)) (sh (d.aM+d.aL) f):=λj hj=>cT (by
  unfold sh ju;rw[ah (by lia),ae (by lia),show d.aM+j+d.aL=d.aM+d.aL+j by lia])
 have c4:Cg p d.aL (sh (d.aM+d.aQ+d.aL+0) (ju d.aM d.aQ d.aL f)) (sh (d.aM+d.aL+d.aQ) f):=λj hj=>cT (by
  unfold sh ju;rw[ah (by lia),ah (by lia),ah (by lia),show d.aM+d.aQ+d.aL+0+j=d.aM+d.aL+d.aQ+j by lia])
 have e5:∀s,ju d.aM d.aQ d.aL f (d.aM+d.aQ+(2*d.aL+s))=f (d.aM+d.aL+d.aQ+d.aL+s):=λs=>by
  unfold ju;rw[ah (by lia),ah (by lia),ah (by lia),show d.aM+d.aQ+(2*d.aL+s)=d.aM+d.aL+d.aQ+d.aL+s by lia]
 constructor
 ·rintro⟨h,o⟩;exact⟨TR.cN hd c1 c2 c3 c4 h,λs=>by rw[← e5 s];exact o _ (by lia) (by lia)⟩
 ·rintro⟨h,o⟩;refine⟨TR.cN hd c1.symm c2.symm c3.symm c4.symm h,λs h1 h2=>?_⟩;obtain⟨t,rfl⟩:∃t,s=2*d.aL+t:=⟨s-2*d.aL,by lia⟩;rw[e5 t];exact o t
theorem OA{R:Fn→Prop}{L:LL}{n:Nat}(pos:Nat→Nat)(jS:∀r∈L,Sp p R (fn r))(det:∀f,Sp p R f→(∀i,i<n→p∣f (pos i))→∀j,p∣f j)(hl:L.length=n)
  (hu:∀(i j:Nat)(h:i<L.length),j<n→fn L[i] (pos j)=if i=j then 1 else 0) {f:Fn} (hf:Sp p R f):Sp p (RS L) f:=by
 have step:∀m,m≤n→∃g,Sp p (RS L) g∧Sp p R (λj=>f j-g j)∧∀i,i<m→p∣f (pos i)-g (pos i):=λm=>by
  induction m with
  |zero=>exact λ_=>⟨λ_=>0,.zero,hf.of_eq λj=>by lia,λi hi=>absurd hi (Nat.not_lt_zero i)⟩
  |succ m ih=>
   intro hm;obtain⟨g,g1,g2,g3⟩:=ih (by lia);have Az:m<L.length:=by lia
   refine⟨λj=>g j+(f (pos m)-g (pos m))*fn L[m] j,g1.add _ ⟨L[m],jG Az,rfl⟩,?_,λi hi=>?_⟩
   ·exact(Sp.plus (-(f (pos m)-g (pos m))) g2 (jS _ (jG Az))).of_eq λj=>by rw[Int.neg_mul];lia
   ·show p∣f (pos i)-(g (pos i)+(f (pos m)-g (pos m))*fn L[m] (pos i));rw[hu m i Az (by lia)];by_cases e:m=i
    ·subst e;rw[ae rfl];exact⟨0,by lia⟩
    ·rw[ah e]
     have:=g3 i (by lia)
     rwa[Int.mul_zero,Int.add_zero]
 obtain⟨g,g1,g2,g3⟩:=step n (cC n);exact .cN g1 λj=>Hv (det _ g2 g3 j)
end
section
variable{p:Int}
def fe(p:Int)(xs:List Int):Prop:=∀x∈xs,0≤x∧x<p
def lR(p:Int)(F:iI):Prop:=∀g k,fe p g→fe p k→fe p (F g k).1∧fe p (F g k).2
noncomputable def dN(l w i:Nat):List Int:=(dW (l+w) i).take l
noncomputable def di(l w i:Nat):List Int:=(dW (l+w) i).drop l
noncomputable def mG(l w:Nat)(F:iI)(i:Nat):List Int:=dN l w i++di l w i++(F (dN l w i) (di l w i)).1++(F (dN l w i) (di l w i)).2
noncomputable def mH(l w:Nat)(F:iI)(i:Nat):List Int:=(F (dN l w i) (di l w i)).1++di l w i++dN l w i++(F (dN l w i) (di l w i)).2
noncomputable def qB(l w:Nat)(F:iI):LL:=(List.range (l+w)).map (mG l w F)
noncomputable def qC(l w:Nat)(F:iI):LL:=(List.range (l+w)).map (mH l w F)
theorem qD{l w:Nat}(h:i<l+w):(dN l w i).length=l∧(di l w i).length=w:=by
 have e:=(vU (p:=2) (by decide) h).1;unfold dN di;rw[da,ff,e];lia
theorem Co(p2:2≤p){l w:Nat}(h:i<l+w):fe p (dN l w i)∧fe p (di l w i):=by
 have e:=(vU p2 h).2;exact⟨λx hx=>e x (kI hx),λx hx=>e x (ng hx)⟩
theorem OB{l w:Nat}(h:i<l+w):(∀j,j<l→fn (dN l w i) j=if i=j then 1 else 0)∧∀j,fn (di l w i) j=if i=l+j then 1 else 0:=by
 constructor
 ·intro j hj;unfold dN;rw[jD hj,Cj h];by_cases e:j=i
  ·rw[ae e,ae e.symm]
  ·rw[ah e,ah λz=>e z.symm]
 ·intro j;unfold di;rw[← qA];show fn (dW (l+w) i) (l+j)=_;rw[Cj h];by_cases e:l+j=i
  ·rw[ae e,ae e.symm]
  ·rw[ah e,ah λz=>e z.symm]
theorem qE{a b:List Int}{n:Nat}(h:a.length=n)(j:Nat):fn (a++b) (n+j)=fn b j:=congrFun (Hw (s:=b) h) j
theorem OC{a:List Int}{n:Nat}(h:a.length=n)(s:Nat):fn a (n+s)=0:=by
 unfold fn;rw[cL,jw (by lia)];rfl
theorem TR.zero(pp:p∈cW){d:Drw}(hd:d.dU p)(hs:d.sm)(hw:d.aL≤40):TR p d (λ_=>0) (λ_=>0) (λ_=>0) (λ_=>0):=
 ((Cn pp hd hs hw).mp .zero).1
theorem OD(pp:p∈cW)(ok:je p d F)(hs:d.sm)(hw:d.aL≤40){k:Fn}(hx:Cg p d.aM x λ_=>0)(hk:Cg p d.aL k λ_=>0)(h:TR p d x k y a):(Cg p d.aQ y λ_=>0)∧Cg p d.aL a λ_=>0:=by
 have z:=TR.zero pp ok.wf hs hw;have l1:(List.replicate d.aM (0:Int)).length=d.aM:=eV;have l2:(List.replicate d.aL (0:Int)).length=d.aL:=eV;have e:∀n,(λ_=>(0:Int))=fn (List.replicate n 0):=λn=>by
  funext j
  unfold fn;rw[cL,wL];split<;>rfl
 obtain⟨z1,z2⟩:=(ok.tr _ _ l1 l2 _ _).mp (TR.cN ok.wf (by rw[e d.aM];exact .refl _ _) (by rw[e d.aL];exact .refl _ _) (.refl _ _) (.refl _ _) z);obtain⟨h1,h2⟩:=(ok.tr _ _ l1 l2 _ _).mp (TR.cN ok.wf (by rw[← e d.aM];exact hx) (by rw[← e d.aL];exact hk) (.refl _ _) (.refl _ _) h);exact⟨h1.trans z1.symm,h2.trans z2.symm⟩
theorem nM{a b:List Int}(h:fe p a)(k:fe p b):fe p (a++b):=λx hx=>(eT.mp hx).elim (h x) (k x)
theorem aak(pp:p∈cW)(ok:je p d F)(rg:lR p F)(hs:d.sm)(hw:d.aL≤40) :
  dt p ((d.dG p d.aL 0).map (ia d.aM d.aQ d.aL))=dt p (qB d.aM d.aL F)∧cz p (d.aM+d.aQ+2*d.aL) (qB d.aM d.aL F):=by
 obtain⟨p2,_⟩:=iD p pp;obtain⟨_,_,_,hR⟩:=Drw.iU pp hw (d:=d) (c:=0) ok.wf hs (by lia);have fk:cz p (d.aM+d.aQ+2*d.aL) ((d.dG p d.aL 0).map (ia d.aM d.aQ d.aL)):=λx hx=>by
  obtain⟨y,hy,rfl⟩:=eA.mp hx;exact B3 (hR y hy)
 have row:∀i,i<d.aM+d.aL→Rw p (d.aM+d.aQ+2*d.aL) (mG d.aM d.aL F i):=λi hi=>by
  obtain⟨x1,x2⟩:=qD hi;obtain⟨y1,y2⟩:=ok.len _ _ x1 x2;obtain⟨n1,n2⟩:=Co p2 hi;obtain⟨n3,n4⟩:=rg _ _ n1 n2;unfold mG;refine⟨?_,nM (nM (nM n1 n2) n3) n4⟩;simp only[cq,x1,x2,y1,y2];lia
 have hL:cz p (d.aM+d.aQ+2*d.aL) (qB d.aM d.aL F):=λx hx=>by
  obtain⟨i,hi,rfl⟩:=eA.mp hx;exact row i (oS.mp hi)
 have jS:∀r∈qB d.aM d.aL F,Sp p (RS ((d.dG p d.aL 0).map (ia d.aM d.aQ d.aL))) (fn r):=λr hr=>by
  obtain⟨i,hi,rfl⟩:=eA.mp hr;have hi:=oS.mp hi;obtain⟨x1,x2⟩:=qD hi;obtain⟨y1,y2⟩:=ok.len _ _ x1 x2;have e1:(dN d.aM d.aL i++di d.aM d.aL i).length=d.aM+d.aL:=by rw[cq,x1,x2]
  have e2:(dN d.aM d.aL i++di d.aM d.aL i++(F (dN d.aM d.aL i) (di d.aM d.aL i)).1).length=d.aM+d.aL+d.aQ:=by rw[cq,e1,y1]
  have t:=(ok.tr _ _ x1 x2 _ _).mpr ⟨.refl _ _,.refl _ _⟩;refine(Cn pp ok.wf hs hw).mpr ⟨TR.cN ok.wf (λj hj=>cT ?_) (λj hj=>cT ?_) (λj hj=>cT ?_) (λj hj=>cT ?_) t,λs=>?_⟩
  ·unfold mG;rw[dQ,dQ,ko (by lia)]
  ·unfold mG sh;rw[dQ,dQ,qE x1,ko (by lia)]
  ·unfold mG sh;rw[dQ (dN d.aM d.aL i++di d.aM d.aL i),qE e1,ko (by lia)]
  ·unfold mG sh;rw[qE e2]
  ·rw[OC (by unfold mG;rw[cq,e2,y2])];exact⟨0,by lia⟩
 refine⟨Lf pp fk hL (λr hr=>OA (n:=d.aM+d.aL) id jS (λf hf hz j=>?_) ?_ (λi j h hj=>?_) (qg hr)) jS,hL⟩
 ·obtain⟨t,o⟩:=(Cn pp ok.wf hs hw).mp hf;obtain⟨q1,q2⟩:=OD pp ok hs hw (λj hj=>by rw[sk];exact hz j (by lia)) (λj hj=>by rw[sk];exact hz (d.aM+j) (by lia)) t;by_cases j1:j<d.aM+d.aL
  ·exact hz j j1
  by_cases j2:j<d.aM+d.aL+d.aQ
  ·have:=q1 (j-(d.aM+d.aL)) (by lia)
   unfold sh at this;rwa[sk,show d.aM+d.aL+(j-(d.aM+d.aL))=j by lia]at this
  by_cases j3:j<d.aM+d.aL+d.aQ+d.aL
  ·have:=q2 (j-(d.aM+d.aL+d.aQ)) (by lia)
   unfold sh at this;rwa[sk,show d.aM+d.aL+d.aQ+(j-(d.aM+d.aL+d.aQ))=j by lia]at this
  ·have:=o (j-(d.aM+d.aL+d.aQ+d.aL))
   rwa[show d.aM+d.aL+d.aQ+d.aL+(j-(d.aM+d.aL+d.aQ+d.aL))=j by lia]at this
 ·unfold qB;rw[bI,kH]
 ·have hi:i<d.aM+d.aL:=by unfold qB at h;rwa[bI,kH]at h
  have e0:(qB d.aM d.aL F)[i]?=some (mG d.aM d.aL F i):=by unfold qB;rw[eU,List.getElem?_range hi];rfl
  have e:(qB d.aM d.aL F)[i]=mG d.aM d.aL F i:=cY ((cM h).symm.trans e0);obtain⟨x1,x2⟩:=qD hi;obtain⟨u1,u2⟩:=OB hi;rw[e];unfold mG;show fn _ j=_;by_cases j1:j<d.aM
  ·rw[dQ,dQ,ko (by lia),u1 j j1]
  ·obtain⟨m,rfl⟩:∃m,j=d.aM+m:=⟨j-d.aM,by lia⟩;rw[dQ,dQ,qE x1,ko (by lia),u2 m]
theorem aal(pp:p∈cW)(ok:je p d F)(rg:lR p F)(hs:d.sm)(hw:d.aL≤40) :
  dt p (((Drw.back d).dG p d.aL 0).map (ia d.aQ d.aM d.aL))=dt p (qC d.aM d.aL F)∧cz p (d.aM+d.aQ+2*d.aL) (qC d.aM d.aL F):=by
 obtain⟨p2,_⟩:=iD p pp;have OE:∀f,Sp p (RS (((Drw.back d).dG p d.aL 0).map (ia d.aQ d.aM d.aL))) f↔TR p d (sh (d.aQ+d.aL) f) (sh d.aQ f) f (sh (d.aQ+d.aL+d.aM) f)∧∀s,p∣f (d.aQ+d.aL+d.aM+d.aL+s):=λf=>Cn pp (d:=.back d) ok.wf hs hw;obtain⟨_,_,_,hR⟩:=Drw.iU pp hw (d:=.back d) (c:=0) ok.wf hs (by show 0+d.aL≤d.aL;lia);have hR:cz p (d.aQ+d.aM+2*d.aL) ((Drw.back d).dG p d.aL 0):=hR;have fk:cz p (d.aM+d.aQ+2*d.aL) (((Drw.back d).dG p d.aL 0).map (ia d.aQ d.aM d.aL)):=λx hx=>by
  obtain⟨y,hy,rfl⟩:=eA.mp hx;rw[qL d.aM];exact B3 (hR y hy)
 have row:∀i,i<d.aM+d.aL→Rw p (d.aM+d.aQ+2*d.aL) (mH d.aM d.aL F i):=λi hi=>by
  obtain⟨x1,x2⟩:=qD hi;obtain⟨y1,y2⟩:=ok.len _ _ x1 x2;obtain⟨n1,n2⟩:=Co p2 hi;obtain⟨n3,n4⟩:=rg _ _ n1 n2;unfold mH;refine⟨?_,nM (nM (nM n3 n2) n1) n4⟩;simp only[cq,x1,x2,y1,y2];lia
 have hL:cz p (d.aM+d.aQ+2*d.aL) (qC d.aM d.aL F):=λx hx=>by
  obtain⟨i,hi,rfl⟩:=eA.mp hx;exact row i (oS.mp hi)
 have jS:∀r∈qC d.aM d.aL F,Sp p (RS (((Drw.back d).dG p d.aL 0).map (ia d.aQ d.aM d.aL))) (fn r):=λr hr=>by
  obtain⟨i,hi,rfl⟩:=eA.mp hr;have hi:=oS.mp hi;obtain⟨x1,x2⟩:=qD hi;obtain⟨y1,y2⟩:=ok.len _ _ x1 x2;have e1:((F (dN d.aM d.aL i) (di d.aM d.aL i)).1++di d.aM d.aL i).length=d.aQ+d.aL:=by rw[cq,y1,x2]
  have e2:((F (dN d.aM d.aL i) (di d.aM d.aL i)).1++di d.aM d.aL i++dN d.aM d.aL i).length=d.aQ+d.aL+d.aM:=by rw[cq,e1,x1]
  have t:=(ok.tr _ _ x1 x2 _ _).mpr ⟨.refl _ _,.refl _ _⟩;refine(OE _).mpr ⟨TR.cN ok.wf (λj hj=>cT ?_) (λj hj=>cT ?_) (λj hj=>cT ?_) (λj hj=>cT ?_) t,λs=>?_⟩
  ·unfold mH sh;rw[dQ ((F (dN d.aM d.aL i) (di d.aM d.aL i)).1++di d.aM d.aL i),qE e1,ko (by lia)]
  ·unfold mH sh;rw[dQ,dQ,qE y1,ko (by lia)]
  ·unfold mH;rw[dQ,dQ,ko (by lia)]
  ·unfold mH sh;rw[qE e2]
  ·rw[OC (by unfold mH;rw[cq,e2,y2])];exact⟨0,by lia⟩
 refine⟨Lf pp fk hL (λr hr=>OA (n:=d.aM+d.aL) (λi=>if i<d.aM then d.aQ+d.aL+i else d.aQ+(i-d.aM)) jS (λf hf hz j=>?_) ?_ (λi j h hj=>?_) (qg hr)) jS,hL⟩
 ·obtain⟨t,o⟩:=(OE _).mp hf;have zx:∀j,j<d.aM→p∣f (d.aQ+d.aL+j):=λj hj=>by
   have:=hz j (by lia)
   rwa[ae hj]at this
  have zk:∀j,j<d.aL→p∣f (d.aQ+j):=λj hj=>by
   have:=hz (d.aM+j) (by lia)
   rwa[ah (by lia),show d.aM+j-d.aM=j by lia]at this
  obtain⟨q1,q2⟩:=OD pp ok hs hw (λj hj=>by rw[sk];exact zx j hj) (λj hj=>by rw[sk];exact zk j hj) t;by_cases j1:j<d.aQ
  ·have:=q1 j j1
   rwa[sk]at this
  by_cases j2:j<d.aQ+d.aL
  ·have:=zk (j-d.aQ) (by lia)
   rwa[show d.aQ+(j-d.aQ)=j by lia]at this
  by_cases j3:j<d.aQ+d.aL+d.aM
  ·have:=zx (j-(d.aQ+d.aL)) (by lia)
   rwa[show d.aQ+d.aL+(j-(d.aQ+d.aL))=j by lia]at this
  by_cases j4:j<d.aQ+d.aL+d.aM+d.aL
  ·have:=q2 (j-(d.aQ+d.aL+d.aM)) (by lia)
   unfold sh at this;rwa[sk,show d.aQ+d.aL+d.aM+(j-(d.aQ+d.aL+d.aM))=j by lia]at this
  ·have:=o (j-(d.aQ+d.aL+d.aM+d.aL))
   rwa[show d.aQ+d.aL+d.aM+d.aL+(j-(d.aQ+d.aL+d.aM+d.aL))=j by lia]at this
 ·unfold qC;rw[bI,kH]
 ·have hi:i<d.aM+d.aL:=by unfold qC at h;rwa[bI,kH]at h
  have e0:(qC d.aM d.aL F)[i]?=some (mH d.aM d.aL F i):=by unfold qC;rw[eU,List.getElem?_range hi];rfl
  have e:(qC d.aM d.aL F)[i]=mH d.aM d.aL F i:=cY ((cM h).symm.trans e0);obtain⟨x1,x2⟩:=qD hi;obtain⟨y1,y2⟩:=ok.len _ _ x1 x2;obtain⟨u1,u2⟩:=OB hi;rw[e];unfold mH;have e1:((F (dN d.aM d.aL i) (di d.aM d.aL i)).1++di d.aM d.aL i).length=d.aQ+d.aL:=by rw[cq,y1,x2]
  by_cases j1:j<d.aM
  ·rw[ae j1,dQ ((F (dN d.aM d.aL i) (di d.aM d.aL i)).1++di d.aM d.aL i),qE e1,ko (by lia),u1 j j1]
  ·obtain⟨m,rfl⟩:∃m,j=d.aM+m:=⟨j-d.aM,by lia⟩;rw[ah j1,show d.aM+m-d.aM=m by lia,dQ,dQ,qE y1,ko (by lia),u2 m]
end
section
variable{p:Int}
theorem uh(p0:0<p)(h:fe p g)(j:Nat):0≤fn g j∧fn g j<p:=by
 unfold fn;rw[cL];by_cases hj:j<g.length
 ·rw[cM hj];exact h _ (jG hj)
 ·rw[jw (by lia)];exact⟨Int.le_refl 0,p0⟩
theorem pN{a:Int}(h:0≤a∧a<p):fe p [a]:=λx hx=>by rw[dX.mp hx];exact h
theorem rS:fe p []:=λx hx=>absurd hx (by simp)
theorem OF{a b:Int}(h:0≤a∧a<p)(k:0≤b∧b<p):fe p [a,b]:=nM (pN h) (pN k)
theorem Hz(p0:0<p)(a:Int):0≤a%p∧a%p<p:=⟨ky _ (by lia),kz _ p0⟩
theorem Cp(p0:0<p)(b:Bx):lR p (b.run p):=λg k hg hk=>by
 cases b with
 |add=>exact⟨pN (Hz p0 _),rS⟩
 |swap=>exact⟨OF (uh p0 hg 1) (uh p0 hg 0),rS⟩
 |copy=>exact⟨OF (uh p0 hg 0) (uh p0 hg 0),rS⟩
 |times n=>exact⟨pN (Hz p0 _),rS⟩
 |dq=>exact⟨pN (uh p0 hk 0),pN (uh p0 hg 0)⟩
 |id=>exact⟨pN (uh p0 hg 0),rS⟩
 |none=>exact⟨pN ⟨Int.le_refl 0,p0⟩,rS⟩
 |fin=>exact⟨rS,rS⟩
theorem Cq(h:fe p g)(n:Nat):fe p (g.take n):=λx hx=>h x (kI hx)
theorem wg(h:fe p g)(n:Nat):fe p (g.drop n):=λx hx=>h x (ng hx)
theorem aam{G:iI}{a n:Nat}(hF:lR p F)(hG:lR p G):lR p (pL a n F G):=λg k hg hk=>by
 obtain⟨h1,h2⟩:=hF _ _ (Cq hg a) (Cq hk n);obtain⟨h3,h4⟩:=hG _ _ (wg hg a) (wg hk n);exact⟨nM h1 h3,nM h2 h4⟩
theorem aan{G:iI}{n:Nat}(hF:lR p F)(hG:lR p G):lR p (rP n F G):=λg k hg hk=>by
 obtain⟨h1,h2⟩:=hF _ _ hg (Cq hk n);obtain⟨h3,h4⟩:=hG _ _ h1 (wg hk n);exact⟨h3,nM h2 h4⟩
theorem Cr(p0:0<p):∀bs:List Bx,lR p (gR p bs)
 | []=>Cp p0 .id
 | [b]=>Cp p0 b
 |b::c::bs=>aam (Cp p0 b) (Cr p0 (c::bs))
theorem OG(p0:0<p):∀ls:List (List Bx),lR p (jE p ls)
 | []=>Cp p0 .id
 | [x]=>Cr p0 x
 |x::y::xs=>aan (Cr p0 x) (OG p0 (y::xs))
theorem OH:∀(l:List Int)(a:Int),l.getLastD a∈a::l
 | [],a=>dj
 |b::l,a=>by rw[List.getLastD_cons];exact gq _ (OH l b)
theorem OI(p0:0<p){k:List Int}(h:fe p k):0≤k.getLastD 0∧k.getLastD 0<p:=by
 rcases eJ.mp (OH k 0)with e|e
 ·rw[e];exact⟨Int.le_refl 0,p0⟩
 ·exact h _ e
theorem aao(p0:0<p)(hF:lR p F):lR p (yM F):=λg k hg hk=>by
 obtain⟨h1,h2⟩:=hF (k.getLastD 0::g) k (nM (pN (OI p0 hk)) hg) hk;exact⟨wg h1 1,h2⟩
end
end S21
namespace L2
open PySem PySem.Spec PyProof.Rows
section
variable{X:Cx}
open Classical in
def HB(K:Frag):R2:=λx y H Q=>∃d es,fQ K H x d∧fQ K H y (.tuple es)∧kqdOk 8 d=true∧kqdOk 8 (.tuple es)=true∧(∀e∈es,kqdOk 8 e=true)∧Q (.bl (es.any λe=>decide (e=d))) H
open Classical in
theorem OJ{d:Dat}(hd:kqdOk 8 d=true):∀{es:List Dat},(∀e∈es,kqdOk 8 e=true)→(PySem.W.kqdPs es).any (λy=>PyData.eqv y (PySem.W.kqdP d))=es.any λe=>decide (e=d)
 | [],_=>rfl
 |e::es,h=>by
  rw[PySem.W.kqdPs,List.any_cons,List.any_cons,EJ (h e dj) hd,OJ hd λx hx=>h x (gq _ hx)]
open Classical in
theorem aap(hu:X.A.units+65<cLine):eX X (compareOp .In) (HB X.K):=by
 intro aK s σ H x y v u Q I rx ry h;obtain⟨d,es,hx,hy,hd,he,hes,q⟩:=h;obtain⟨as,ra⟩:=hx.reads I rx;obtain⟨bs,rb⟩:=hy.reads I ry;rw[PySem.W.kqdP]at rb;have hc:SeqAt.shaped (PyData.tuple (PySem.W.kqdPs es))=true:=by
  have:=tF he
  rwa[PySem.W.kqdP]at this
 refine PySem.SeqAt.in_tuple_reads rb ra (SeqAt.canLay_of_shaped hc) (SeqAt.canLay_of_shaped (tF hd)) (room_in_shaped (tF hd) hu) ?_;rw[OJ hd hes];exact⟨.bl _,H,I,rfl,q⟩
end
end L2
namespace S21
open PySem L2 Bw
noncomputable abbrev Bx.bj(b:Bx):List V:=b.ck.bj
def Ct:Sp:=λvs H Q _=>∃(d p l:Int),vs=[.int d,.int p,.int l]∧0≤d∧d<2147483629∧2≤p∧p≤97∧1≤l∧∀(b:Bx)(a:Addr)(H':Hp),b.wf p→(b.l:Int)≤l→1≤b.l→1≤b.r→aO H H'→H' a=some (.tup b.bj)→Q (.ref a) H'
theorem aaq:c8 ["draw","p","left"] ["draw","p","left"] (bG Fq):=dz rfl rfl rfl (by decide +kernel) rfl
abbrev tW(x:Str):TE:=eC (aX (tC (.str x)) bq)
abbrev yN:TE:=cf (rI (λ_ j=>0<j) λi j=>.int (i%j)) (aR 0) (tC (.int 9))
def yO(K:Frag):TE:=cf (o7 K) (iL (aX (tW "add") (aX (tW "swap") (aX (tW "add") bq)))) yN
def Cu:TE:=eC (aX (tC (.str "times")) (aX (cf (rI (λ_ j=>0<j) λi j=>.int (i%j)) (cf (rI Jq λi j=>.int (i/j)) (aR 0) (tC (.int 9))) (aR 1)) bq))
def wj(K:Frag):TE:=cf (o7 K) (iL (aX (tW "copy") (aX (tW "late") (aX (tW "late") (aX (tW "id") bq))))) (cf (iC λi j=>.int (i-j)) yN (tC (.int 5)))
def OK:TT:=uR (gu (cf (iC λi j=>.bl (decide (j<i))) (aR 2) (tC (.int 1)))) (gu (cf (iC λi j=>.bl (decide (i<j))) yN (tC (.int 3))))
def Cv(K:Frag):TS:=bY (eP OK (dI (yO K)) gs) (bY (eP (gu (cf (iC λi j=>.bl (decide (i<j))) yN (tC (.int 5)))) (dI Cu) gs) (dI (wj K)))
theorem aar{D:Ends}{d p l:Int}{H:Hp}(d0:0≤d)(d1:d<2147483629)(p2:2≤p)(l1:1≤l)
  (q:∀(b:Bx)(a:Addr)(H':Hp),b.wf p→(b.l:Int)≤l→1≤b.l→1≤b.r→aO H H'→H' a=some (.tup b.bj)→D.rt (.ref a) H'):Cv K D [some (.int d),some (.int p),some (.int l)] H:=by
 have r0:0≤d%9:=ky _ (by decide);have r9:d%9<9:=kz _ (by decide);have dE:(bY (eP (gu (cf (iC λi j=>.bl (decide (i<j))) yN (tC (.int 5)))) (dI Cu) gs) (dI (wj K))) D [some (.int d),some (.int p),some (.int l)] H:=by
  refine⟨_,rfl,d,9,rfl,rfl,(by show(0:Int)<9;decide),_,5,rfl,rfl,_,rfl,?_⟩;by_cases h5:d%9<5
  ·rw[aG h5];refine gU ⟨_,rfl,d,9,rfl,rfl,?_,_,rfl,_,p,rfl,rfl,by lia,by show 2≤sizeLine;decide,λa ha=>?_⟩
   ·exact⟨by decide,by lia⟩
   ·exact q (.times (d/9%p)) a _ (Hz (by lia) _) (by show((1:Nat):Int)≤l;lia) (by show 1≤1;decide) (by show 1≤1;decide) (.upd ha) aY
  ·rw[aa h5];refine dY ?_;show wj K _ _ _;unfold wj;refine⟨by show 1≤sizeLine;decide,λa1 g1=>⟨by show 1≤sizeLine;decide,λa2 g2=>⟨by show 1≤sizeLine;decide,λa3 g3=>⟨by show 1≤sizeLine;decide,λa4 g4=>⟨by show 4≤sizeLine;decide,λll hl=>?_⟩⟩⟩⟩⟩;have s1:=aO.upd (o:=.tup [.str "copy"]) g1;have s2:=aO.upd (o:=.tup [.str "late"]) g2;have s3:=aO.upd (o:=.tup [.str "late"]) g3;have s4:=aO.upd (o:=.tup [.str "id"]) g4;have s5:=aO.upd (o:=.lst [.ref a1,.ref a2,.ref a3,.ref a4]) hl;have sA:=s1.trans (s2.trans (s3.trans (s4.trans s5)));refine⟨_,rfl,d,9,rfl,rfl,(by show(0:Int)<9;decide),_,5,rfl,rfl,ll,[.ref a1,.ref a2,.ref a3,.ref a4],d%9-5,?_⟩;have hc:d%9=5∨d%9=6∨d%9=7∨d%9=8:=by lia
   rcases hc with e|e|e|e<;>rw[e]
   ·exact⟨.ref a1,rfl,rfl,.of aY,cm (j:=0) rfl,q .copy a1 _ trivial (by show((1:Nat):Int)≤l;lia) (by decide) (by decide) sA ((s2.trans (s3.trans (s4.trans s5))) _ _ aY)⟩
   ·exact⟨.ref a2,rfl,rfl,.of aY,cm (j:=1) rfl,q .dq a2 _ trivial (by show((1:Nat):Int)≤l;lia) (by decide) (by decide) sA ((s3.trans (s4.trans s5)) _ _ aY)⟩
   ·exact⟨.ref a3,rfl,rfl,.of aY,cm (j:=2) rfl,q .dq a3 _ trivial (by show((1:Nat):Int)≤l;lia) (by decide) (by decide) sA ((s4.trans s5) _ _ aY)⟩
   ·exact⟨.ref a4,rfl,rfl,.of aY,cm (j:=3) rfl,q .id a4 _ trivial (by show((1:Nat):Int)≤l;lia) (by decide) (by decide) sA (s5 _ _ aY)⟩
 unfold Cv;refine⟨_,rfl,l,1,rfl,rfl,_,rfl,?_⟩;by_cases h1:1<l
 ·rw[aG h1];refine gU ⟨_,rfl,d,9,rfl,rfl,(by show(0:Int)<9;decide),_,3,rfl,rfl,_,rfl,?_⟩;by_cases h3:d%9<3
  ·rw[aG h3];refine gU ?_;show yO K _ _ _;unfold yO;refine⟨by show 1≤sizeLine;decide,λa1 g1=>⟨by show 1≤sizeLine;decide,λa2 g2=>⟨by show 1≤sizeLine;decide,λa3 g3=>⟨by show 3≤sizeLine;decide,λll hl=>?_⟩⟩⟩⟩;have s1:=aO.upd (o:=.tup [.str "add"]) g1;have s2:=aO.upd (o:=.tup [.str "swap"]) g2;have s3:=aO.upd (o:=.tup [.str "add"]) g3;have s5:=aO.upd (o:=.lst [.ref a1,.ref a2,.ref a3]) hl;have sA:=s1.trans (s2.trans (s3.trans s5));refine⟨_,rfl,d,9,rfl,rfl,(by show(0:Int)<9;decide),ll,[.ref a1,.ref a2,.ref a3],d%9,?_⟩;have hc:d%9=0∨d%9=1∨d%9=2:=by lia
   rcases hc with e|e|e<;>rw[e]
   ·exact⟨.ref a1,rfl,ao V.int e,.of aY,cm (j:=0) rfl,q .add a1 _ trivial (by show((2:Nat):Int)≤l;lia) (by decide) (by decide) sA ((s2.trans (s3.trans s5)) _ _ aY)⟩
   ·exact⟨.ref a2,rfl,ao V.int e,.of aY,cm (j:=1) rfl,q .swap a2 _ trivial (by show((2:Nat):Int)≤l;lia) (by decide) (by decide) sA ((s3.trans s5) _ _ aY)⟩
   ·exact⟨.ref a3,rfl,ao V.int e,.of aY,cm (j:=2) rfl,q .add a3 _ trivial (by show((2:Nat):Int)≤l;lia) (by decide) (by decide) sA (s5 _ _ aY)⟩
  ·rw[aa h3];exact dY dE
 ·rw[aa h1];exact dY (dY dE)
theorem aas{f:Addr}{fd:FuncData}(F:cD K "_law_box" "_law_box" Fq f fd):bz P w K mg base bx 1 f fd ["draw","p","left"] Ct:=by
 refine F.ok aaq (λvs H Q E h=>?_) (λbZ A outer s H vs Q E hr h=>?_)
 ·obtain⟨d,p,l,rfl,_⟩:=h;rfl
 ·obtain⟨d,p,l,rfl,d0,d1,p2,dh,l1,q⟩:=h;refine⟨Cv K,?_,?_⟩
  ·unfold Cv;refine bo ?_ ?_
   ·refine dR ?_ ?_ e8
    ·unfold OK;exact PW.pt (pY (df sV (pv 2) aW (de _)) (sO (df DW (bc fH (pv 0) aW) aW (de _))))
    ·refine bV ?_;refine cO (te:=yO K) ?_;unfold yO;refine bH (dB K rfl) ?_ (bc fH (pv 0) aW) (λ_ _=>rfl);refine gK ?_;refine aN (cI (aN cP aU)) ?_ ?_
     ·refine aN (cI (aN cP aU)) ?_ ?_
      ·refine aN (cI (aN cP aU)) aU ?_;exact oD
      ·exact oD
     ·exact oD
   refine bo ?_ ?_
   ·refine dR ?_ ?_ e8
    ·exact df DW (bc fH (pv 0) aW) aW (de _)
    ·refine bV ?_;refine cO (te:=Cu) ?_;unfold Cu;refine cI ?_;refine aN cP ?_ ?_
     ·refine aN (bc fH (bc zM (pv 0) aW) (pv 1)) aU ?_;rfl
     ·exact vK
   refine bV ?_;refine cO (te:=wj K) ?_;unfold wj;refine bH (dB K rfl) ?_ (bc jy (bc fH (pv 0) aW) aW) (λ_ _=>rfl);refine gK ?_;refine aN (cI (aN cP aU)) ?_ ?_
   ·refine aN (cI (aN cP aU)) ?_ ?_
    ·refine aN (cI (aN cP aU)) ?_ ?_
     ·refine aN (cI (aN cP aU)) aU ?_;exact oD
     ·exact oD
    ·exact oD
   ·exact oD
  ·exact aar d0 d1 p2 l1 q
end S21
namespace L2
open PySem PySem.Spec PyProof.Rows
def ui(H:Hp)(xs:List V)(Q:VK):Prop:=∀p H',aO H H'→H' p=some (.tup xs)→Q (.ref p) H'
def qF:R2:=λx y H Q=>∃a b xs ys,x=.ref a∧y=.ref b∧H a=some (.tup xs)∧H b=some (.tup ys)∧xs.length+ys.length≤sizeLine∧ui H (xs++ys) Q
theorem oK{X:Cx}:eX X (binaryOp .Add) qF:=by
 rintro aK s σ H x y v u Q I rx ry ⟨a,b,xs,ys,rfl,rfl,ha,hb,hz,q⟩;have OL:bh X.K H a xs:=.of ha;have ny:bh X.K H b ys:=.of hb;by_cases hx:xs=[]
 ·subst hx;cases rx;cases ry;obtain⟨its,r1,⟨⟨c1,d1,t1,s1⟩,o1,e1,n1,f1⟩,_⟩:=I.tuple OL;obtain⟨tq,r2,⟨⟨c2,d2,t2,s2⟩,o2,e2,n2,f2⟩,_⟩:=I.tuple ny;simp only at e1 f1 e2 f2;subst e1 f1 e2 f2;cases r1;refine concat_meets ⟨_,o1,rfl⟩ ⟨_,o2,rfl⟩ noFill_tuple_add seq_tuple_add PySem.F.slot_tuple_add PySem.F.entry_tuple_add (PySem.F.args_tuple_add_2 _ _) (KU a b _ _ _ _ d1 d2 s1 s2 rfl) ⟨o1,o2,?_⟩;exact⟨.ref b,H,I,rfl,q b H (.refl H) hb⟩
 ·refine JK aK s σ H _ _ v u Q I rx ry ⟨a,b,xs,ys,rfl,rfl,OL,ny,hx,hz,λhy=>?_,λ_ p hp=>q p _ (.upd hp) aY⟩;subst hy;exact q a H (.refl H) (by rw[ij];exact ha)
end L2
namespace S21
open PySem L2 Bw
variable{D:Ends}{E:XK}{H H' H1:Hp}{L R i j lp s:Nat}{LS VS e vs xs:List V}{Pt a ac af ag ak al as c f fB fD fL fU lb ll:Addr}{Q:VK}{b:Bx}{es:List (List V)}{fd km gO mv qu:FuncData}{g g0 ns:List Int}{ls:List (List Bx)}{o:HO}{p:Int}{ps:List Str}{s5 s6 s7:Option V}{v:V}{x:Str}{σ:St}
def cU(H:Hp)(VS:List V)(es:List (List V)):Prop:=VS.length=es.length∧∀(i:Nat)(v:V)(e:List V),VS[i]?=some v→es[i]?=some e→∃c:Addr,v=.ref c∧H c=some (.tup e)
theorem cU.mono(h:cU H VS es)(s:aO H H'):cU H' VS es:=⟨h.1,λi v e hv he=>let ⟨c,e1,e2⟩:=h.2 i v e hv he;⟨c,e1,s _ _ e2⟩⟩
theorem cU.snoc(h:cU H VS es)(hc:H c=some (.tup e)):cU H (VS++[.ref c]) (es++[e]):=by
 refine⟨by rw[cq,cq,h.1];rfl,λi v x hv hx=>?_⟩;by_cases hi:i<VS.length
 ·rw[ip hi]at hv;rw[ip (by rw[← h.1];exact hi)]at hx;exact h.2 i v x hv hx
 ·rw[iK (by lia)]at hv;rw[iK (by rw[← h.1];lia),← h.1]at hx;generalize i-VS.length=j at hv hx;cases j with
  |zero=>cases hv;cases hx;exact⟨c,rfl,hc⟩
  |succ j=>cases hv
theorem cU.nil:cU H [] []:=⟨rfl,λi v e hv=>by cases hv⟩
noncomputable def gS(z:Str)(es:List (List V)):List V:=es.flatMap λe=>.str z::e
theorem OM(z:Str)(es:List (List V))(e:List V):gS z (es++[e])=gS z es++[.str z]++e:=by
 unfold gS;rw[List.flatMap_append,List.flatMap_singleton,dQ];rfl
theorem Cw{z:Str}{B:Nat}:∀es:List (List V),(∀e∈es,e.length≤B)→(gS z es).length≤es.length*(B+1)
 | [],_=>nO _
 |e::es,h=>by
  have ih:=Cw (z:=z) es λx hx=>h x (gq _ hx)
  have:=h e dj
  show((.str z::e)++gS z es).length≤(es.length+1)*(B+1);rw[cq,eW,Nat.add_mul,Nat.one_mul];lia
theorem ON(xs:List V)(v:V):iY (xs++[v]) none (some (-1))=xs:=by
 have es:HT.cK (xs++[v]).length (xs++[v]).length (some (-1))=xs.length:=by
  show(if(-1:Int)<0 then(-1+((xs++[v]).length:Int)).toNat else min (-1:Int).toNat (xs++[v]).length)=xs.length
  rw[ae (by decide),cq];show(-1+((xs.length+1:Nat):Int)).toNat=xs.length;lia
 unfold iY;rw[es,HT.zR,List.drop_zero,Nat.sub_zero,List.take_left]
def wk:Sp:=λvs H Q _=>∃(a b:Addr)(VS:List V)(es:List (List V))(d:List V),vs=[.ref a]∧H a=some (.lst (VS++[.ref b]))∧cU H VS es∧H b=some (.tup d)∧es.length≤50∧(∀e∈es,e.length≤50)∧d.length≤50∧ui H (gS "beside" es++d) Q
theorem Cy:c8 ["parts","words","part"] ["parts"] (bG Fs):=dz rfl rfl rfl (by decide +kernel) rfl
theorem aat(F:cD K "_law_beside" "_law_beside" Fs f fd):bz P w K mg base bx 1 f fd ["parts"] wk:=by
 refine F.ok Cy (λvs H Q E h=>?_) (λbZ A outer s H vs Q E hr h=>?_)
 ·obtain⟨a,b,VS,es,d,rfl,_⟩:=h;rfl
 ·obtain⟨a,b,VS,es,d,rfl,ga,hV,hb,le,lw,lw',q⟩:=h;have z:(10000:Nat)≤sizeLine:=by decide
  refine⟨_,bo (cg (i:=1) Cy.nd rfl (.inl rfl) (cI aU)) (bo (nk nQ rfl (jo K rfl (eQ (EN K rfl) (pv 0) fK (dJ (n6 n8 aW)))) (cG (i:=2) Cy.nd rfl (.inl rfl)) (bV (cg (i:=1) Cy.nd rfl (.inl rfl) (bc oK (bc oK (pv 1) (cI (aN cP aU))) (pv 2))))) (bV (cO (bc oK (pv 1) (bH (dB K rfl) (pv 0) (n6 n8 aW) (λ_ _=>rfl)))))),?_⟩;refine⟨by decide,λl0 h0=>?_⟩;have s0:aO H (upd H l0 (.tup [])):=.upd h0;have g0:(upd H l0 (.tup [])) l0=some (.tup (gS "beside" [])):=aY;generalize upd H l0 (.tup [])=H0 at s0 g0 ⊢;refine⟨_,rfl,_,rfl,_,rfl,a,_,rfl,.of (s0 _ _ ga),λl1 h1=>?_⟩;rw[show(-1:Int)=-1 from rfl,ON]
  have s1:aO H (upd H0 l1 (.lst VS)):=s0.trans (.upd h1);have g1:(upd H0 l1 (.lst VS)) l1=some (.lst VS):=aY;have yQ:(upd H0 l1 (.lst VS)) l0=some (.tup (gS "beside" (es.take 0))):=aO.upd h1 _ _ g0;generalize upd H0 l1 (.lst VS)=H1 at s1 g1 yQ ⊢;refine⟨l1,rfl,⟨_,.of g1⟩,zK (xs:=VS) (λi σ H'=>aO H1 H'∧∃lp s2,σ=[some (.ref a),some (.ref lp),s2]∧H' lp=some (.tup (gS "beside" (es.take i)))) ⟨.refl _,l0,none,rfl,yQ⟩ (λi σ H' _ ⟨sm,_⟩=>.of (sm _ _ g1)) ?_ ?_⟩
  ·rintro i x σ H2 hx ⟨sm,lp,s2,rfl,g⟩;have hi:i<es.length:=by
    have:=(gc.mp hx).1
    have:=hV.1
    lia
   obtain⟨e,he⟩:∃e,es[i]?=some e:=⟨_,cM hi⟩;obtain⟨c,rfl,hc⟩:=hV.2 i _ e hx he;have hw:=Cw (z := "beside") (B:=50) (es.take i) λy hy=>lw _ (kI hy);have hw1:=lw e (gT he);have hl:(es.take i).length≤50:=by rw[da];lia
   have hw:(gS "beside" (es.take i)).length≤2550:=by lia
   dsimp only[br];refine⟨_,rfl,by show 1≤sizeLine;lia,λt ht=>⟨_,_,_,_,rfl,rfl,aO.upd ht _ _ g,aY,by show _+1≤sizeLine;lia,λt2 H3 s3 h3=>?_⟩⟩;have yR:=(aO.upd ht).trans s3;refine⟨_,rfl,_,_,_,_,rfl,rfl,h3,(s1.trans (sm.trans yR)) _ _ hc,by rw[cq];show _+1+_≤sizeLine;lia,λt3 H4 s4 h4=>?_⟩;refine⟨sm.trans (yR.trans s4),t3,_,rfl,?_⟩;rw[h4,gH,he];show _=some (HO.tup (gS "beside" (es.take i++[e])));rw[OM]
  rintro σ H2 ⟨sm,lp,s2,rfl,g⟩;rw[hV.1,lV]at g;have hw:=Cw (z := "beside") (B:=50) es lw;have hw:(gS "beside" es).length≤2550:=by lia
  have sc:=s1.trans sm;refine⟨_,rfl,_,rfl,_,rfl,a,_,-1,_,rfl,rfl,.of (sc _ _ ga),zW _ _,lp,b,_,_,rfl,rfl,g,sc _ _ hb,by lia,λc H3 s3 hc=>q c H3 (sc.trans s3) hc⟩
section
variable{p:Int}
abbrev HG:=List Int×List Int×List Int
noncomputable def uj(p:Int)(k:List Int)(s:HG)(b:Bx):HG:=(s.1.drop b.l,s.2.1++(b.run p s.1 (k.drop s.2.1.length)).2,s.2.2++(b.run p s.1 (k.drop s.2.1.length)).1)
theorem HH(b:Bx)(g k:List Int):b.run p (g.take b.l) (k.take b.n)=b.run p g k:=by
 cases b with
 |add=>show([(fn (g.take 2) 0+fn (g.take 2) 1)%p],[])=([_],_);rw[jD (by decide),jD (by decide)]
 |swap=>show([fn (g.take 2) 1,fn (g.take 2) 0],[])=([_,_],_);rw[jD (by decide),jD (by decide)]
 |copy=>show([fn (g.take 1) 0,fn (g.take 1) 0],[])=([_,_],_);rw[jD (by decide)]
 |times n=>show([fn (g.take 1) 0*n%p],[])=([_],_);rw[jD (by decide)]
 |dq=>show([fn (k.take 1) 0],[fn (g.take 1) 0])=([_],[_]);rw[jD (by decide),jD (by decide)]
 |id=>show([fn (g.take 1) 0],[])=([_],_);rw[jD (by decide)]
 |none=>rfl
 |fin=>rfl
theorem yS(b:Bx)(g k:List Int):(b.run p g k).2.length=b.n:=by
 cases b<;>(first|rfl|exact(by decide +kernel))
theorem OO:∀(bs:List Bx)(g k a f:List Int),bs≠[]→(bs.foldl (uj p k) (g,a,f)).2=(a++(gR p bs g (k.drop a.length)).2,f++(gR p bs g (k.drop a.length)).1)
 | [],_,_,_,_,h=>absurd rfl h
 | [b],g,k,a,f,_=>rfl
 |b::c::bs,g,k,a,f,_=>by
  have ih:=OO (c::bs) (g.drop b.l) k (a++(b.run p g (k.drop a.length)).2) (f++(b.run p g (k.drop a.length)).1) (by simp);show((c::bs).foldl (uj p k) (uj p k (g,a,f) b)).2=(a++(pL b.l b.n (b.run p) (gR p (c::bs)) g (k.drop a.length)).2,f++(pL b.l b.n (b.run p) (gR p (c::bs)) g (k.drop a.length)).1);have e:uj p k (g,a,f) b=(g.drop b.l,a++(b.run p g (k.drop a.length)).2,f++(b.run p g (k.drop a.length)).1):=rfl;rw[e,ih];unfold pL;rw[HH,cq,yS,← List.drop_drop,dQ,dQ]
end
def uk(K:Frag):List V→Hp→VK→Prop:=λxs H Q=>∃p ys,xs=[.ref p]∧(cV K H p ys∨bh K H p ys)∧Q (.int ys.length) H
abbrev qG(K:Frag)(x:Str):TT:=gu (cf nq (cf (jM K) (aR 6) (tC (.int 0))) (tC (.str x)))
abbrev wm(K:Frag):TE:=jk K "list" JU (aR 2) (aX (tC (.int 0)) bq)
abbrev yU(K:Frag)(te:TE):TS:=sP (jk K "list" jA (aR 5) (aX te bq))
abbrev Cz(te:TE):TE:=cf (rI (λ_ j=>0<j) λi j=>.int (i%j)) te (aR 0)
def OP(K:Frag):TS:=yU K (Cz (eI (aR 7) (wm K)))
def OQ(K:Frag):TE:=cf o8 (aR 5) (iL (aX (wm K) (aX (aR 7) bq)))
def OR:TE:=cf o8 (aR 5) (iL (aX (aR 7) (aX (aR 7) bq)))
def OS(K:Frag):TS:=yU K (Cz (cf (rI sU λi j=>.int (i*j)) (aR 7) (cf (jM K) (aR 6) (tC (.int 1)))))
def OT(K:Frag):TS:=sP (jk K "list" jA (aR 4) (aX (aR 7) bq))
def OU(K:Frag):TS:=yU K (cf (jM K) (aR 3) (cf (iC λi j=>.int (i-j)) (fI (uk K) (aX (aR 4) bq)) (tC (.int 1))))
def OV(K:Frag):TS:=yU K (aR 7)
def OW(K:Frag):TS:=eP (qG K "add") (OP K) (eP (qG K "swap") (cB (OQ K) (br 5)) (eP (qG K "copy") (cB OR (br 5)) (eP (qG K "times") (OS K) (eP (qG K "late") (bY (OT K) (OU K)) (eP (qG K "id") (OV K) gs)))))
def CA(K:Frag):TS:=bY (eP (qG K "none") (bY (yU K (tC (.int 0))) Jh) gs) (bY (cB (wm K) (br 7)) (OW K))
def CB(K:Frag):TS:=bY (cB (iL bq) (br 5)) (bY (sS (n5 K (aR 1)) (br 6) (CA K)) (dI (aR 5)))
noncomputable abbrev nLb:List Str:=["p","boxes","given","kept","fresh","found","box","number"]
theorem wo:c8 nLb ["p","boxes","given","kept","fresh"] (bG Ft):=dz rfl rfl rfl (by decide +kernel) rfl
noncomputable def gN(bs:List Bx):Nat:=(bs.map Bx.l).sum
noncomputable def dw(bs:List Bx):Nat:=(bs.map Bx.n).sum
theorem wq(bs:List Bx)(b:Bx):gN (bs++[b])=gN bs+b.l:=by unfold gN;rw[cS,List.sum_append];rfl
theorem CC(bs:List Bx)(b:Bx):dw (bs++[b])=dw bs+b.n:=by unfold dw;rw[cS,List.sum_append];rfl
theorem aau(bs:List Bx)(i:Nat):gN (bs.take i)≤gN bs∧dw (bs.take i)≤dw bs:=by
 have e1:gN bs=gN (bs.take i)+gN (bs.drop i):=by
  unfold gN;rw[← List.sum_append,← cS,List.take_append_drop]
 have e2:dw bs=dw (bs.take i)+dw (bs.drop i):=by
  unfold dw;rw[← List.sum_append,← cS,List.take_append_drop]
 lia
noncomputable def iB(p:Int)(k g a:List Int)(bs:List Bx)(i:Nat):HG:=(bs.take i).foldl (uj p k) (g,a,[])
theorem OX{k a:List Int}{bs:List Bx}(h:bs[i]?=some b):iB p k g a bs (i+1)=uj p k (iB p k g a bs i) b:=by
 unfold iB;rw[gH,h,List.foldl_append];rfl
theorem aav(b:Bx)(g k:List Int):(b.run p g k).1.length≤2:=by cases b<;>simp[Bx.run]
theorem OY{p:Int}{k g a:List Int}{bs:List Bx}:∀i,i≤bs.length→(iB p k g a bs i).1=g.drop (gN (bs.take i))∧(iB p k g a bs i).2.1.length=a.length+dw (bs.take i)∧(iB p k g a bs i).2.2.length≤2*i
 |0,_=>⟨rfl,rfl,cC _⟩
 |i+1,hi=>by
  obtain⟨h1,h2,h3⟩:=OY (p:=p) (k:=k) (g:=g) (a:=a) (bs:=bs) i (by lia);have hb:bs[i]?=some bs[i]:=cM (by lia);have et:bs.take (i+1)=bs.take i++[bs[i]]:=by rw[gH,hb];rfl
  rw[OX hb,et,wq,CC];unfold uj;refine⟨?_,?_,?_⟩
  ·show(iB p k g a bs i).1.drop _=_;rw[h1,List.drop_drop]
  ·show(_++_:List Int).length=_;rw[cq,h2,yS];lia
  ·show(_++_:List Int).length≤_
   have:=aav (p:=p) bs[i] (iB p k g a bs i).1 (k.drop (iB p k g a bs i).2.1.length)
   rw[cq];lia
noncomputable abbrev jf(ag af:Addr)(H:Hp):Hp:=del ag (del af H)
def CF(K:Frag):Sp:=λvs H Q _=>∃(p:Int)(ab ag ak af:Addr)(VS:List V)(bs:List Bx)(g k a:List Int),vs=[.int p,.ref ab,.ref ag,.ref ak,.ref af]∧2≤p∧p≤97∧H ab=some (.lst VS)∧cU H VS (bs.map Bx.bj)∧(∀b∈bs,b.wf p)∧
 H ag=some (.lst (g.map V.int))∧bh K H ak (k.map V.int)∧H af=some (.lst (a.map V.int))∧ag≠af∧ab≠ag∧ab≠af∧bs.length≤50∧fe p g∧g.length≤100∧gN bs≤g.length∧a.length+dw bs≤k.length∧k.length≤100∧
 ∀l H',aO (jf ag af H) H'→H l=none→H' af=some (.lst ((iB p k g a bs bs.length).2.1.map V.int))→H' l=some (.lst ((iB p k g a bs bs.length).2.2.map V.int))→Q (.ref l) H'
theorem aO.put{B:Hp}(h:aO B H')(hc:B c=none):aO B (upd H' c o):=λb x e=>by
 have:b≠c:=λz=>by rw[z,hc]at e;cases e
 rw[cF this];exact h b x e
theorem aaw:jf ag af H ag=none:=ae rfl
theorem aax:jf ag af H af=none:=by
 unfold jf del;split
 ·rfl
 ·exact ae rfl
theorem aay(h:H c=none):jf ag af H c=none:=by
 unfold jf del;split
 ·rfl
 ·split
  ·rfl
  ·exact h
theorem yV(h:H c=some o)(h1:c≠ag)(h2:c≠af):jf ag af H c=some o:=by
 unfold jf del;rw[ah h1,ah h2];exact h
theorem wt{b:Addr}(h:H a=some (.lst xs))(k:H b=some o)(n:∀ys,o≠.lst ys):b≠a:=λz=>by
 rw[z,h]at k;exact n _ (cY k).symm
theorem aaz{ys zs:List V}(h1:H ag=some (.lst xs))(h2:H af=some (.lst ys))(h:bh K H c zs):bh K (jf ag af H) c zs:=by
 rcases h with(h|⟨o,h⟩)|h
 ·exact .inl (.inl (yV h (wt h1 h λ_ z=>nomatch z) (wt h2 h λ_ z=>nomatch z)))
 ·exact .inl (.inr ⟨o,yV h (wt h1 h λ_ z=>nomatch z) (wt h2 h λ_ z=>nomatch z)⟩)
 ·exact .inr h
theorem fZ{nm:Str}{ws:List V}{t u:TS}(h6:σ[6]?=some (some (.ref c)))(hc:H c=some (.tup (.str nm::ws)))(n:nm≠x)(h:u D σ H):eP (qG K x) t u D σ H:=
 ⟨_,h6,c,_,0,.str nm,rfl,rfl,.of hc,cm (j:=0) rfl,rfl,_,rfl,lM n h⟩
theorem um{ws:List V}{t u:TS}(h6:σ[6]?=some (some (.ref c)))(hc:H c=some (.tup (.str x::ws)))(h:t D σ H):eP (qG K x) t u D σ H:=
 ⟨_,h6,c,_,0,.str x,rfl,rfl,.of hc,cm (j:=0) rfl,rfl,_,rfl,qp h⟩
theorem nms:("add":Str) ≠ "none"∧("swap":Str) ≠ "none"∧("copy":Str) ≠ "none"∧("times":Str) ≠ "none"∧("late":Str) ≠ "none"∧("id":Str) ≠ "none"∧("end":Str) ≠ "none" ∧
 ("swap":Str) ≠ "add"∧("copy":Str) ≠ "add"∧("times":Str) ≠ "add"∧("late":Str) ≠ "add"∧("id":Str) ≠ "add"∧("end":Str) ≠ "add" ∧
 ("copy":Str) ≠ "swap"∧("times":Str) ≠ "swap"∧("late":Str) ≠ "swap"∧("id":Str) ≠ "swap"∧("end":Str) ≠ "swap" ∧
 ("times":Str) ≠ "copy"∧("late":Str) ≠ "copy"∧("id":Str) ≠ "copy"∧("end":Str) ≠ "copy" ∧
 ("late":Str) ≠ "times"∧("id":Str) ≠ "times"∧("end":Str) ≠ "times"∧("id":Str) ≠ "late"∧("end":Str) ≠ "late"∧("end":Str) ≠ "id":=by decide +kernel
theorem qH{x:Int}{G:List Int}{R:VK}(h2:σ[2]?=some (some (.ref ag)))(hG:H ag=some (.lst ((x::G).map V.int)))(q:R (.int x) (upd H ag (.lst (G.map V.int)))):wm K σ H R:=by
 refine⟨_,h2,.inl ⟨rfl,_,.of hG⟩,ag,_,0,0,.int x,rfl,rfl,hG,by decide,by decide,?_,rfl,q⟩;show seqIndex? 0 (G.map V.int).length.succ=some 0;unfold seqIndex?;simp
structure gm(B:Hp)(ag af lf:Addr)(G A F:List Int)(H:Hp):Prop where
 sm:aO B H
 g:H ag=some (.lst (G.map V.int))
 a:H af=some (.lst (A.map V.int))
 f:H lf=some (.lst (F.map V.int))
 bg:B ag=none
 ba:B af=none
 bf:B lf=none
 n1:ag≠af
 n2:lf≠ag
 n3:lf≠af
section
variable{B H:Hp}{ag af lf:Addr}{G A F:List Int}
theorem gm.setG(h:gm B ag af lf G A F H)(G':List Int):gm B ag af lf G' A F (upd H ag (.lst (G'.map V.int))):=⟨h.sm.put h.bg,aY,by rw[cF h.n1.symm];exact h.a,by rw[cF h.n2];exact h.f,h.bg,h.ba,h.bf,h.n1,h.n2,h.n3⟩
theorem gm.aaA(h:gm B ag af lf G A F H)(A':List Int):gm B ag af lf G A' F (upd H af (.lst (A'.map V.int))):=⟨h.sm.put h.ba,by rw[cF h.n1];exact h.g,aY,by rw[cF h.n3];exact h.f,h.bg,h.ba,h.bf,h.n1,h.n2,h.n3⟩
theorem gm.yX(h:gm B ag af lf G A F H)(F':List Int):gm B ag af lf G A F' (upd H lf (.lst (F'.map V.int))):=⟨h.sm.put h.bf,by rw[cF h.n2.symm];exact h.g,by rw[cF h.n3.symm];exact h.a,aY,h.bg,h.ba,h.bf,h.n1,h.n2,h.n3⟩
theorem gm.new(h:gm B ag af lf G A F H)(hc:H c=none):gm B ag af lf G A F (upd H c o):=⟨h.sm.trans (.upd hc),aO.upd hc _ _ h.g,aO.upd hc _ _ h.a,aO.upd hc _ _ h.f,h.bg,h.ba,h.bf,h.n1,h.n2,h.n3⟩
theorem gm.xu(h:gm B ag af lf G A F H)(hc:H c=none)(F':List Int):gm B ag af c G A F' (upd H c (.lst (F'.map V.int))):=by
 have e:=h.new (o:=.lst (F'.map V.int)) hc;refine⟨e.sm,e.g,e.a,aY,h.bg,h.ba,?_,h.n1,λz=>?_,λz=>?_⟩
 ·cases hB:B c with
  |none=>rfl
  |some o=>have:=h.sm _ _ hB;rw[hc]at this;cases this
 ·rw[z,h.g]at hc;cases hc
 ·rw[z,h.a]at hc;cases hc
end
theorem wu(F:List Int)(y:Int):F.map V.int++[V.int y]=(F++[y]).map V.int:=by rw[cS];rfl
theorem OZ(F:List Int)(y z:Int):F.map V.int++[V.int y,V.int z]=(F++[y,z]).map V.int:=by rw[cS];rfl
theorem aaB{ab lf:Addr}{G A F k:List Int}{B:Hp}(p2:2≤p)(dh:p≤97)(hb:b.wf p)(hc:B c=some (.tup b.bj))(h:gm B ag af lf G A F H)(hk:bh K B ak (k.map V.int))
  (lG:b.l≤G.length) (iG:fe p G) (lk:A.length+b.n≤k.length) (lF:F.length≤200) (lA:A.length≤200)
  (q:∀uo uq H2,gm B ag af uo (G.drop b.l) (A++(b.run p G (k.drop A.length)).2) (F++(b.run p G (k.drop A.length)).1) H2→
   D.nx [some (.int p),some (.ref ab),some (.ref ag),some (.ref ak),some (.ref af),some (.ref uo),some (.ref c),uq] H2∧D.ct [some (.int p),some (.ref ab),some (.ref ag),some (.ref ak),some (.ref af),some (.ref uo),some (.ref c),uq] H2) :
  CA K D [some (.int p),some (.ref ab),some (.ref ag),some (.ref ak),some (.ref af),some (.ref lf),some (.ref c),s7] H:=by
 obtain⟨m1,m2,m3,m4,m5,m6,m7,a1,a2,a3,a4,a5,a6,w1,w2,w3,w4,w5,y1,y2,y3,y4,t1,t2,t3,l1,l2,i1⟩:=nms;have z:(1000:Nat)≤sizeLine:=by decide
 have lz:∀{m:Nat},m≤999→m<sizeLine:=λhm=>by lia
 have yY:(F.map V.int).length≤999:=by rw[bI];lia
 have lA':(A.map V.int).length≤999:=by rw[bI];lia
 have O0:(F.map V.int).length+2≤sizeLine:=by rw[bI];lia
 unfold CA;cases b with
 |none=>
  refine um (ws:=[]) rfl (h.sm _ _ hc) ⟨_,rfl,.inl ⟨rfl,_,.of h.f⟩,lf,_,.int 0,rfl,rfl,h.f,lz yY,?_⟩;rw[wu];refine(q lf s7 _ ?_).2;show gm B ag af lf G (A++[]) (F++[0]) _;rw[ij];exact h.yX _
 |add=>
  match G,lG,h,iG,q with
  |x::y::G',_,h,iG,q=>
   refine fZ (ws:=[]) rfl (h.sm _ _ hc) m1 (qH rfl h.g ?_);have h1:=h.setG (y::G');refine um (ws:=[]) rfl (h1.sm _ _ hc) ?_;have h2:=h1.setG G';refine⟨_,rfl,.inl ⟨rfl,_,.of h1.f⟩,_,rfl,qH rfl h1.g ⟨x,y,rfl,rfl,_,rfl,_,p,rfl,rfl,by lia,lf,_,.int ((x+y)%p),rfl,rfl,h2.f,lz yY,?_⟩⟩;rw[wu];refine(q lf _ _ ?_).1;show gm B ag af lf G' (A++[]) (F++[(x+y)%p]) _;rw[ij];exact h2.yX _
 |swap=>
  match G,lG,h,iG,q with
  |x::y::G',_,h,iG,q=>
   refine fZ (ws:=[]) rfl (h.sm _ _ hc) m2 (qH rfl h.g ?_);have h1:=h.setG (y::G');refine fZ (ws:=[]) rfl (h1.sm _ _ hc) a1 (um (ws:=[]) rfl (h1.sm _ _ hc) ?_);have h2:=h1.setG G';refine⟨_,rfl,qH rfl h1.g ⟨_,rfl,by show 2≤sizeLine;lia,λt ht=>?_⟩⟩;have h3:=h2.new (o:=.lst [.int y,.int x]) ht;refine⟨lf,t,_,_,rfl,rfl,h3.f,aY,O0,λu hu=>?_⟩;rw[OZ];refine(q u _ _ ?_).1;show gm B ag af u G' (A++[]) (F++[y,x]) _;rw[ij];exact h3.xu hu _
 |copy=>
  match G,lG,h,iG,q with
  |x::G',_,h,iG,q=>
   refine fZ (ws:=[]) rfl (h.sm _ _ hc) m3 (qH rfl h.g ?_);have h1:=h.setG G';refine fZ (ws:=[]) rfl (h1.sm _ _ hc) a2 (fZ (ws:=[]) rfl (h1.sm _ _ hc) w1 (um (ws:=[]) rfl (h1.sm _ _ hc) ?_));refine⟨_,rfl,_,rfl,_,rfl,by show 2≤sizeLine;lia,λt ht=>?_⟩;have h3:=h1.new (o:=.lst [.int x,.int x]) ht;refine⟨lf,t,_,_,rfl,rfl,h3.f,aY,O0,λu hu=>?_⟩;rw[OZ];refine(q u _ _ ?_).1;show gm B ag af u G' (A++[]) (F++[x,x]) _;rw[ij];exact h3.xu hu _
 |times n=>
  match G,lG,h,iG,q with
  |x::G',_,h,iG,q=>
   refine fZ (ws:=[.int n]) rfl (h.sm _ _ hc) m4 (qH rfl h.g ?_);have h1:=h.setG G';have hx:=iG x dj;refine fZ (ws:=[.int n]) rfl (h1.sm _ _ hc) a3 (fZ (ws:=[.int n]) rfl (h1.sm _ _ hc) w2 (fZ (ws:=[.int n]) rfl (h1.sm _ _ hc) y1 (um (ws:=[.int n]) rfl (h1.sm _ _ hc) ?_)));refine⟨_,rfl,.inl ⟨rfl,_,.of h1.f⟩,_,rfl,_,rfl,c,_,1,.int n,rfl,rfl,.of (h1.sm _ _ hc),cm (j:=1) rfl,x,n,rfl,rfl,.inl ⟨by lia,by lia⟩,_,rfl,_,p,rfl,rfl,by lia,lf,_,.int (x*n%p),rfl,rfl,h1.f,lz yY,?_⟩;rw[wu];refine(q lf _ _ ?_).1;show gm B ag af lf G' (A++[]) (F++[x*n%p]) _;rw[ij];exact h1.yX _
 |dq=>
  match G,lG,h,iG,q with
  |x::G',_,h,iG,q=>
   have lk:A.length+1≤k.length:=lk;refine fZ (ws:=[]) rfl (h.sm _ _ hc) m5 (qH rfl h.g ?_);have h1:=h.setG G';refine fZ (ws:=[]) rfl (h1.sm _ _ hc) a4 (fZ (ws:=[]) rfl (h1.sm _ _ hc) w3 (fZ (ws:=[]) rfl (h1.sm _ _ hc) y2 (fZ (ws:=[]) rfl (h1.sm _ _ hc) t1 (um (ws:=[]) rfl (h1.sm _ _ hc) ?_))));refine⟨_,rfl,.inl ⟨rfl,_,.of h1.a⟩,_,rfl,af,_,.int x,rfl,rfl,h1.a,lz lA',?_⟩;rw[wu];have h2:=h1.aaA (A++[x]);have ek:(k.map V.int)[A.length]?=some (.int (fn (k.drop A.length) 0)):=by
    rw[eU,cM (by lia),← qA];show some (V.int _)=some (V.int (fn k (A.length+0)));unfold fn;rw[Nat.add_zero,cL,cM (by lia)];rfl
   have el:(((A++[x]).map V.int).length:Int)-1=(A.length:Int):=by rw[bI,cq];show((A.length+1:Nat):Int)-1=_;lia
   refine⟨_,rfl,.inl ⟨rfl,_,.of h2.f⟩,_,rfl,_,rfl,af,_,rfl,.inl (.of h2.a),_,1,rfl,rfl,ak,_,(A.length:Int),.int (fn (k.drop A.length) 0),rfl,ao V.int el,h2.sm.bu hk,cm ek,lf,_,_,rfl,rfl,h2.f,lz yY,?_⟩;rw[wu];refine(q lf _ _ ?_).1;exact h2.yX _
 |id=>
  match G,lG,h,iG,q with
  |x::G',_,h,iG,q=>
   refine fZ (ws:=[]) rfl (h.sm _ _ hc) m6 (qH rfl h.g ?_);have h1:=h.setG G';refine fZ (ws:=[]) rfl (h1.sm _ _ hc) a5 (fZ (ws:=[]) rfl (h1.sm _ _ hc) w4 (fZ (ws:=[]) rfl (h1.sm _ _ hc) y3 (fZ (ws:=[]) rfl (h1.sm _ _ hc) t2 (fZ (ws:=[]) rfl (h1.sm _ _ hc) l1 (um (ws:=[]) rfl (h1.sm _ _ hc) ?_)))));refine⟨_,rfl,.inl ⟨rfl,_,.of h1.f⟩,_,rfl,lf,_,.int x,rfl,rfl,h1.f,lz yY,?_⟩;rw[wu];refine(q lf _ _ ?_).1;show gm B ag af lf G' (A++[]) (F++[x]) _;rw[ij];exact h1.yX _
 |fin=>
  match G,lG,h,iG,q with
  |x::G',_,h,iG,q=>
   refine fZ (ws:=[]) rfl (h.sm _ _ hc) m7 (qH rfl h.g ?_);have h1:=h.setG G';refine fZ (ws:=[]) rfl (h1.sm _ _ hc) a6 (fZ (ws:=[]) rfl (h1.sm _ _ hc) w5 (fZ (ws:=[]) rfl (h1.sm _ _ hc) y4 (fZ (ws:=[]) rfl (h1.sm _ _ hc) t3 (fZ (ws:=[]) rfl (h1.sm _ _ hc) l2 (fZ (ws:=[]) rfl (h1.sm _ _ hc) i1 ?_)))));refine(q lf _ _ ?_).1;show gm B ag af lf G' (A++[]) (F++[]) _;rw[ij,ij];exact h1
theorem aaC(h:jf ag af H c=none)(h1:c≠ag)(h2:c≠af):H c=none:=by
 unfold jf del at h;rw[ah h1,ah h2]at h;exact h
theorem aaD{ab:Addr}{bs:List Bx}{k a:List Int}
  (h:2≤p∧p≤97∧H ab=some (.lst VS)∧cU H VS (bs.map Bx.bj)∧(∀b∈bs,b.wf p)∧
   H ag=some (.lst (g.map V.int))∧bh K H ak (k.map V.int)∧H af=some (.lst (a.map V.int))∧ag≠af∧ab≠ag∧ab≠af∧bs.length≤50∧fe p g∧g.length≤100∧gN bs≤g.length∧a.length+dw bs≤k.length∧k.length≤100∧
   ∀l H',aO (jf ag af H) H'→H l=none→H' af=some (.lst ((iB p k g a bs bs.length).2.1.map V.int))→H' l=some (.lst ((iB p k g a bs bs.length).2.2.map V.int))→D.rt (.ref l) H') :
  CB K D [some (.int p),some (.ref ab),some (.ref ag),some (.ref ak),some (.ref af),none,none,none] H:=by
 obtain⟨p2,dh,hab,hV,pG,ur,wx,CG,n1,n2,n3,lb,ig,lg,lsg,lnk,lk,q⟩:=h;have ln:VS.length=bs.length:=by rw[hV.1,bI]
 have O1:jf ag af H ab=some (.lst VS):=yV hab n2 n3;have hkB:=aaz (K:=K) ur CG wx;unfold CB;refine⟨by decide,λlf pC=>?_⟩;have sB:aO (jf ag af H) (upd H lf (.lst [])):=λb o e=>by
  have e1:=tT e;have e2:=tT e1.2;exact aO.upd pC _ _ e2.2
 have S0:gm (jf ag af H) ag af lf g a [] (upd H lf (.lst [])):=⟨sB,aO.upd pC _ _ ur,aO.upd pC _ _ CG,aY,aaw,aax,aay pC,n1,(λz=>by rw[z,ur]at pC;cases pC),(λz=>by rw[z,CG]at pC;cases pC)⟩;generalize upd H lf (.lst [])=H0 at S0 sB ⊢;refine⟨_,rfl,ab,rfl,⟨_,.of (sB _ _ O1)⟩,zK (xs:=VS) (λi σ H'=>∃lf s6 s7,σ=[some (.int p),some (.ref ab),some (.ref ag),some (.ref ak),some (.ref af),some (.ref lf),s6,s7]∧gm (jf ag af H) ag af lf (iB p k g a bs i).1 (iB p k g a bs i).2.1 (iB p k g a bs i).2.2 H') ⟨lf,none,none,rfl,S0⟩ (λi σ H' _ ⟨lf,s6,s7,_,S⟩=>.of (S.sm _ _ O1)) ?_ ?_⟩
 ·rintro i x σ H' hx ⟨lf,s6,s7,rfl,S⟩;have hi:i<bs.length:=by rw[← ln];exact(gc.mp hx).1
  have hb:bs[i]?=some bs[i]:=cM hi;obtain⟨c,rfl,hc⟩:=hV.2 i _ (bs[i].bj) hx (by rw[eU,hb];rfl);have hcB:jf ag af H c=some (.tup bs[i].bj):=yV hc (wt ur hc λ_ z=>nomatch z) (wt CG hc λ_ z=>nomatch z);obtain⟨i1,i2,i3⟩:=OY (p:=p) (k:=k) (g:=g) (a:=a) (bs:=bs) i (by lia);have et:bs.take (i+1)=bs.take i++[bs[i]]:=by rw[gH,hb];rfl
  have tk:=aau bs (i+1);rw[et,wq,CC]at tk;dsimp only[br];refine aaB p2 dh (pG _ (jG hi)) hcB S hkB ?_ ?_ ?_ ?_ ?_ λuo uq H2 S2=>?_
  ·rw[i1,ff];lia
  ·rw[i1];exact wg ig _
  ·rw[i2];lia
  ·lia
  ·rw[i2];lia
  ·have S3:gm (jf ag af H) ag af uo (iB p k g a bs (i+1)).1 (iB p k g a bs (i+1)).2.1 (iB p k g a bs (i+1)).2.2 H2:=by
    rw[OX hb];exact S2
   exact⟨⟨uo,_,uq,rfl,S3⟩,⟨uo,_,uq,rfl,S3⟩⟩
 ·rintro σ H' ⟨lf,s6,s7,rfl,S⟩;rw[ln]at S;exact⟨_,rfl,q lf H' S.sm (aaC S.bf S.n2 S.n3) S.a S.f⟩
theorem aaE(F:cD K "_law_boxes" "_law_boxes" Ft f fd)(T:Txt mg):bz P w K mg base bx 1 f fd ["p","boxes","given","kept","fresh"] (CF K):=by
 refine F.ok wo (λvs H Q E h=>?_) (λbZ A outer s H vs Q E hr h=>?_)
 ·obtain⟨p,ab,ag,ak,af,VS,bs,g,k,a,rfl,_⟩:=h;rfl
 ·obtain⟨p,ab,ag,ak,af,VS,bs,g,k,a,rfl,h⟩:=h;refine⟨CB K,?_,?_⟩
  ·unfold CB;refine bo ?_ ?_
   ·exact cg (i:=5) (te:=iL bq) wo.nd rfl (.inl rfl) (gK aU)
   refine bo ?_ ?_
   ·refine nk nQ rfl (jo K rfl (pv 1)) (cG (i:=6) wo.nd rfl (.inl rfl)) ?_;unfold CA;refine bo ?_ ?_
    ·refine dR ?_ ?_ e8
     ·exact df gJ (bH (cH K rfl) (pv 6) aW (λ_ _=>rfl)) cP (de _)
     ·refine bo ?_ ?_
      ·exact lZ (te:=jk K "list" jA (aR 5) (aX (tC (.int 0)) bq)) (jz jH nR nS md (pv 5) (aN aW aU))
      ·exact bV Rr
    refine bo ?_ ?_
    ·exact cg (i:=7) (te:=wm K) wo.nd rfl (.inl rfl) (jz jH Dt Du Aa (pv 2) (aN aW aU))
    refine bV ?_;unfold OW;refine dR ?_ ?_ ?_
    ·exact df gJ (bH (cH K rfl) (pv 6) aW (λ_ _=>rfl)) cP (de _)
    ·refine bV ?_;unfold OP;exact lZ (te:=jk K "list" jA (aR 5) (aX (Cz (eI (aR 7) (wm K))) bq)) (jz jH nR nS md (pv 5) (aN (bc fH (bc eK (pv 7) (jz jH Dt Du Aa (pv 2) (aN aW aU))) (pv 0)) aU))
    refine bV ?_;refine dR ?_ ?_ ?_
    ·exact df gJ (bH (cH K rfl) (pv 6) aW (λ_ _=>rfl)) cP (de _)
    ·refine bV ?_;exact cg (i:=5) (te:=OQ K) wo.nd rfl (.inl rfl) (bc o9 (pv 5) (gK (aN (jz jH Dt Du Aa (pv 2) (aN aW aU)) (aN (pv 7) aU))))
    refine bV ?_;refine dR ?_ ?_ ?_
    ·exact df gJ (bH (cH K rfl) (pv 6) aW (λ_ _=>rfl)) cP (de _)
    ·refine bV ?_;exact cg (i:=5) (te:=OR) wo.nd rfl (.inl rfl) (bc o9 (pv 5) (gK (aN (pv 7) (aN (pv 7) aU))))
    refine bV ?_;refine dR ?_ ?_ ?_
    ·exact df gJ (bH (cH K rfl) (pv 6) aW (λ_ _=>rfl)) cP (de _)
    ·refine bV ?_;unfold OS;exact lZ (te:=jk K "list" jA (aR 5) (aX (Cz (cf (rI sU λi j=>.int (i*j)) (aR 7) (cf (jM K) (aR 6) (tC (.int 1))))) bq)) (jz jH nR nS md (pv 5) (aN (bc fH (bc l6 (pv 7) (bH (cH K rfl) (pv 6) aW (λ_ _=>rfl))) (pv 0)) aU))
    refine bV ?_;refine dR ?_ ?_ ?_
    ·exact df gJ (bH (cH K rfl) (pv 6) aW (λ_ _=>rfl)) cP (de _)
    ·refine bo ?_ ?_
     ·unfold OT;exact lZ (te:=jk K "list" jA (aR 4) (aX (aR 7) bq)) (jz jH nR nS md (pv 4) (aN (pv 7) aU))
     refine bV ?_;unfold OU;exact lZ (te:=jk K "list" jA (aR 5) (aX (cf (jM K) (aR 3) (cf (iC λi j=>.int (i-j)) (fI (uk K) (aX (aR 4) bq)) (tC (.int 1)))) bq)) (jz jH nR nS md (pv 5) (aN (bH (cH K rfl) (pv 3) (bc jy (gv (kc K rfl) rfl T.len kd (aN (pv 4) aU)) aW) (λ_ _=>rfl)) aU))
    refine bV ?_;refine dR ?_ ?_ e8
    ·exact df gJ (bH (cH K rfl) (pv 6) aW (λ_ _=>rfl)) cP (de _)
    ·refine bV ?_;unfold OV;exact lZ (te:=jk K "list" jA (aR 5) (aX (aR 7) bq)) (jz jH nR nS md (pv 5) (aN (pv 7) aU))
   refine bV ?_;exact cO (te:=aR 5) (pv 5)
  ·exact aaD h
section
variable{p:Int}
theorem O2:∀(bs:List Bx)(g k:List Int),(gR p bs g k).2.length=(cn bs).aL
 | [],g,k=>yS .id g k
 | [b],g,k=>yS b g k
 |b::c::bs,g,k=>by
  show(_++_:List Int).length=b.ck.aL+(cn (c::bs)).aL;rw[cq,O2 (c::bs),yS]
theorem O3(b:Bx)(g k:List Int){n:Nat}(h:b.n≤n):b.run p g (k.take n)=b.run p g k:=by
 rw[← HH b g (k.take n),List.take_take,wO h,HH]
theorem HI:∀(bs:List Bx)(g k:List Int),gR p bs g (k.take (cn bs).aL)=gR p bs g k
 | [],g,k=>O3 .id g k (cC _)
 | [b],g,k=>O3 b g k (cC _)
 |b::c::bs,g,k=>by
  have ih:=HI (c::bs) (g.drop b.l) (k.drop b.n);have e1:(k.take (b.n+(cn (c::bs)).aL)).take b.n=k.take b.n:=by rw[List.take_take,wO (by lia)]
  have e2:(k.take (b.n+(cn (c::bs)).aL)).drop b.n=(k.drop b.n).take (cn (c::bs)).aL:=by rw[List.drop_take,Nat.add_sub_cancel_left]
  show pL b.l b.n (b.run p) (gR p (c::bs)) g (k.take (b.n+(cn (c::bs)).aL))=pL b.l b.n (b.run p) (gR p (c::bs)) g k;unfold pL;rw[e1,e2,ih]
noncomputable def layB(p:Int)(k:List Int)(s:List Int×List Int)(bs:List Bx):List Int×List Int:=((iB p k s.1 s.2 bs bs.length).2.2,(iB p k s.1 s.2 bs bs.length).2.1)
theorem HJ{bs:List Bx}(h:bs≠[])(g k a:List Int):layB p k (g,a) bs=((gR p bs g (k.drop a.length)).1,a++(gR p bs g (k.drop a.length)).2):=by
 have e:=OO (p:=p) bs g k a [] h;unfold layB iB;rw[lV,e];rfl
theorem O4:∀(ls:List (List Bx))(g k a:List Int),ls≠[]→(∀bs∈ls,bs≠[])→ls.foldl (layB p k) (g,a)=((jE p ls g (k.drop a.length)).1,a++(jE p ls g (k.drop a.length)).2)
 | [],_,_,_,h,_=>absurd rfl h
 | [x],g,k,a,_,hx=>HJ (hx x dj) g k a
 |x::y::xs,g,k,a,_,hx=>by
  show(y::xs).foldl (layB p k) (layB p k (g,a) x)=_;rw[HJ (hx x dj),O4 (y::xs) _ k _ (by simp) λb hb=>hx b (gq _ hb)];show _=((rP (cn x).aL (gR p x) (jE p (y::xs)) g (k.drop a.length)).1,a++(rP (cn x).aL (gR p x) (jE p (y::xs)) g (k.drop a.length)).2);unfold rP;rw[HI,cq,O2,← List.drop_drop,dQ]
theorem aaF{bs:List Bx}{k:List Int}:fn (gR p (.dq::bs) g k).1 0=fn k 0:=by
 cases bs with
 |nil=>rfl
 |cons b bs=>
  show fn ([fn (k.take (Bx.n .dq)) 0]++_) 0=_;have e:fn (k.take (Bx.n .dq)) 0=fn k 0:=jD (by decide);rw[e];rfl
noncomputable def HK(ls:List (List Bx)):Nat:=(ls.map λbs=>(cn bs).aL).sum
theorem aaG(x:List Bx){ys:List (List Bx)}(h:ys≠[])(g k:List Int):jE p (x::ys) g k=rP (cn x).aL (gR p x) (jE p ys) g k∧(fY (x::ys)).aL=(cn x).aL+(fY ys).aL:=by
 cases ys with
 |nil=>exact absurd rfl h
 |cons y ys=>exact⟨rfl,rfl⟩
theorem O5:∀(xs:List (List Bx))(l:List Bx)(g k:List Int),(∃g',(jE p (xs++[l]) g k).1=(gR p l g' (k.drop (HK xs))).1)∧(fY (xs++[l])).aL=HK xs+(cn l).aL
 | [],l,g,k=>⟨⟨g,rfl⟩,(Nat.zero_add _).symm⟩
 |x::xs,l,g,k=>by
  have ne:xs++[l]≠[]:=by simp
  obtain⟨e1,e2⟩:=aaG (p:=p) x ne g k;obtain⟨⟨g',ih⟩,il⟩:=O5 xs l (gR p x g (k.take (cn x).aL)).1 (k.drop (cn x).aL);constructor
  ·refine⟨g',?_⟩;show(jE p (x::(xs++[l])) g k).1=_;rw[e1];show(jE p (xs++[l]) (gR p x g (k.take (cn x).aL)).1 (k.drop (cn x).aL)).1=_;rw[ih,List.drop_drop];rfl
  ·show(fY (x::(xs++[l]))).aL=_;rw[e2,il];show _=(cn x).aL+HK xs+(cn l).aL;lia
theorem HM:∀(k:List Int)(n:Nat)(z:Int),k.length=n+1→k.getLastD z=fn (k.drop n) 0
 | [],n,z,h=>by simp at h
 | [x],n,z,h=>by
  obtain rfl:n=0:=by simpa using h.symm
  rfl
 |x::y::k,n,z,h=>by
  obtain⟨m,rfl⟩:∃m,n=m+1:=⟨n-1,by simp at h;lia⟩;rw[List.getLastD_cons];exact HM (y::k) m x (by simpa using h)
theorem aaH{xs:List (List Bx)}{n:Nat}{k:List Int}(hk:k.length=(fY (xs++[Bx.dq::cA n])).aL)(h1:(cn (Bx.dq::cA n)).aL=1):fn (jE p (xs++[Bx.dq::cA n]) g k).1 0=k.getLastD 0:=by
 obtain⟨⟨g',e⟩,el⟩:=O5 (p:=p) xs (Bx.dq::cA n) g k;rw[e,aaF];rw[el,h1]at hk;exact(HM k _ 0 hk).symm
theorem aaI:∀n,(cn (Bx.dq::cA n)).aL=1∧(cn (Bx.dq::cA n)).ee=(n+1,n+1)
 |0=>⟨by decide +kernel,rfl⟩
 |n+1=>by
  obtain⟨e1,e2⟩:=nL (n+1) (by lia);have l1:Bx.dq.ck.aL=1:=by decide +kernel
  show Bx.dq.ck.aL+(cn (cA (n+1))).aL=1∧((1+(cn (cA (n+1))).ee.1,1+(cn (cA (n+1))).ee.2):Nat×Nat)=_;rw[e1,e2,l1];exact⟨rfl,by rw[show 1+(n+1)=n+1+1 by lia]⟩
end
noncomputable def Bx.dat(b:Bx):Dat:=match b with
 | .add=>.tuple [.str "add"]
 | .swap=>.tuple [.str "swap"]
 | .copy=>.tuple [.str "copy"]
 | .times n=>.tuple [.str "times",.int n]
 | .dq=>.tuple [.str "late"]
 | .id=>.tuple [.str "id"]
 | .none=>.tuple [.str "none"]
 | .fin=>.tuple [.str "end"]
theorem Bx.has(b:Bx)(h:H c=some (.tup b.bj)):fQ K H (.ref c) b.dat:=by
 cases b with
 |times n=>exact .tuple (.of h) (.cons (.str _) (.cons (.int n) .nil))
 |_=>exact .tuple (.of h) (.cons (.str _) .nil)
theorem Bx.uv(b:Bx):kqdOk 8 b.dat=true:=by
 cases b with
 |times n=>simp[Bx.dat,kqdOk];decide +kernel
 |_=>decide +kernel
open Classical in
theorem Bx.aaJ(b:Bx):decide (b.dat=.tuple [.str "late"])=decide (b.n=1):=by
 have aaK:Bx.dq.n=1:=by decide +kernel
 have no:∀b:Bx,b.n=0→b.dat≠.tuple [.str "late"]→decide (b.dat=.tuple [.str "late"])=decide (b.n=1):=λb h1 h2=>by
  rw[aa h2,aa (by lia)]
 have nm:∀x:Str,x ≠ "late"→Dat.tuple [.str x]≠.tuple [.str "late"]:=λx hx e=>by
  injection e with e;injection e with e;injection e with e;exact hx e
 cases b with
 |dq=>rw[aaK];rw[aG rfl,aG (show Bx.dat .dq=.tuple [.str "late"] from rfl)]
 |times n=>exact no (.times n) rfl (λe=>by injection e with e;injection e with _ e;cases e)
 |add=>exact no .add (by decide +kernel) (nm _ (by decide +kernel))
 |swap=>exact no .swap (by decide +kernel) (nm _ (by decide +kernel))
 |copy=>exact no .copy (by decide +kernel) (nm _ (by decide +kernel))
 |id=>exact no .id (by decide +kernel) (nm _ (by decide +kernel))
 |none=>exact no .none (by decide +kernel) (nm _ (by decide +kernel))
 |fin=>exact no .fin (by decide +kernel) (nm _ (by decide +kernel))
theorem Bx.HN(b:Bx):b.n=0∨b.n=1:=by
 cases b with
 |times n=>exact .inl rfl
 |_=>decide +kernel
def HP(K:Frag):TT:=gu (cf (pd K false) (aR 0) (eC (aX (tC (.str "late")) bq)))
open Classical in
theorem O6{bs:List Bx}(hq:H1 a=some (.lst VS))(hV:cU H1 VS (bs.map Bx.bj))(hl:bs.length≤100)
  (done:∀H zs,aO H1 H→zs.length=dw bs→∀q,H q=none→Q (.ref q) (upd H q (.lst zs))) :
  ∃W:Nat→Nat→St→Hp→List V→Prop,(∃m,W 0 m (List.replicate 1 none++[]) H1 [])∧jO (nY K a) (br 0) (HP K) (aR 0) Q W:=by
 have z:(1000:Nat)≤sizeLine:=by decide
 have ln:VS.length=bs.length:=by rw[hV.1,bI]
 have nle:∀i,dw (bs.take i)≤i:=λi=>by
  induction i with
  |zero=>exact cC 0
  |succ i ih=>
   by_cases hi:i<bs.length
   ·have hb:bs[i]?=some bs[i]:=cM hi;rw[gH,hb];show dw (bs.take i++[bs[i]])≤_;rw[CC]
    have:=bs[i].HN
    lia
   ·rw[mZ (by lia)];rw[mZ (by lia)]at ih;lia
 refine qd (xs:=VS) (cp:=[]) (λi H' zs=>zs.length=dw (bs.take i)) (.of hq) (by lia) rfl (λi H' zs h=>by rw[h];exact nle i) ?_ ?_
 ·rintro i x H2 zs hx sm h;have hi:i<bs.length:=by rw[← ln];exact(gc.mp hx).1
  have hb:bs[i]?=some bs[i]:=cM hi;obtain⟨c,rfl,hc⟩:=hV.2 i _ (bs[i].bj) hx (by rw[eU,hb];rfl);have en:dw (bs.take (i+1))=dw (bs.take i)+bs[i].n:=by rw[gH,hb];exact CC _ _
  refine⟨_,rfl,by show 1≤sizeLine;lia,λt ht=>?_⟩;have s1:=aO.upd (o:=.tup [.str "late"]) ht;refine⟨bs[i].dat,.tuple [.str "late"],Bx.has _ ((sm.trans s1) _ _ hc),.tuple (.of aY) (.cons (.str _) .nil),Bx.uv _,Bx.uv .dq,_,rfl,?_⟩;rw[ah (by decide),Bx.aaJ];rcases bs[i].HN with e|e
  ·rw[aa (by lia)];exact dY ⟨⟨[_],rfl,rfl⟩,sm.trans s1,by show zs.length=_;rw[h,en,e];rfl⟩
  ·rw[aG e];exact gU ⟨_,rfl,⟨[_],rfl,rfl⟩,sm.trans s1,by show(zs++[_]).length=_;rw[cq,h,en,e];rfl⟩
 ·rintro H2 zs sm h q hq';rw[ln,lV]at h;exact done H2 zs sm h q hq'
def lS(H:Hp)(LS:List V)(ls:List (List Bx)):Prop:=LS.length=ls.length∧∀(i:Nat)(v:V)(bs:List Bx),LS[i]?=some v→ls[i]?=some bs→∃(c:Addr)(VS:List V),v=.ref c∧H c=some (.lst VS)∧cU H VS (bs.map Bx.bj)
theorem lS.mono{H H':Hp}{LS:List V}{ls:List (List Bx)}(h:lS H LS ls)(s:aO H H'):lS H' LS ls:=⟨h.1,λi v bs h1 h2=>let ⟨c,VS,e1,e2,e3⟩:=h.2 i v bs h1 h2;⟨c,VS,e1,s _ _ e2,e3.mono s⟩⟩
def kr(K:Frag)(H:Hp)(ac:Addr)(l r lp:Nat)(ls:List (List Bx)):Prop:=∃(al:Addr)(LS:List V),bh K H ac [.int (l:Int),.int (r:Int),.int (lp:Int),.ref al]∧H al=some (.lst LS)∧lS H LS ls
theorem kr.mono{H H':Hp}{ac:Addr}{l r lp:Nat}{ls:List (List Bx)}(h:kr K H ac l r lp ls)(s:aO H H'):kr K H' ac l r lp ls:=let ⟨al,LS,h1,h2,h3⟩:=h;⟨al,LS,s.bu h1,s _ _ h2,h3.mono s⟩
noncomputable def c9(ls:List (List Bx)):Nat:=(ls.map dw).sum
def HQ(K:Frag):TE:=fI (uk K) (aX (iP (n5 K (aR 0)) 1 [] (br 0) (HP K) (aR 0)) bq)
def yZ(K:Frag):TE:=iP (n5 K (dm K 0 3)) 1 [] (br 0) g6 (HQ K)
theorem aaL{l r:Nat}(h0:σ[0]?=some (some (.ref ac)))(h:kr K H ac l r lp ls)(hl:ls.length≤100)(hb:∀bs∈ls,bs.length≤100)
  (q:∀t H',aO H H'→H' t=some (.lst ((ls.map dw).map λn=>V.int (n:Nat)))→Q (.ref t) H'):yZ K σ H Q:=by
 obtain⟨al,LS,h1,h2,h3⟩:=h;have z:(1000:Nat)≤sizeLine:=by decide
 have ln:=h3.1;unfold yZ;refine⟨_,h0,ac,_,3,_,rfl,rfl,h1,cm (j:=3) rfl,al,rfl,⟨_,.of h2⟩,?_⟩;rw[show oi 1 [] σ=List.replicate 1 none++[] from rfl]
 refine qd (xs:=LS) (cp:=[]) (λi H' zs=>zs=((ls.take i).map dw).map λn=>V.int (n:Nat)) (.of h2) (by lia) rfl (λi H' zs e=>by rw[e,bI,bI];exact si _ _) ?_ ?_
 ·rintro i x H2 zs hx sm rfl;have hi:i<ls.length:=by rw[← ln];exact(gc.mp hx).1
  have y6:ls[i]?=some ls[i]:=cM hi;obtain⟨c,VS,rfl,hc,hV⟩:=h3.2 i _ _ hx y6;refine jq ?_;unfold HQ fI;refine⟨_,rfl,c,rfl,⟨_,.of (sm _ _ hc)⟩,?_⟩;refine O6 (K:=K) (sm _ _ hc) (hV.mono sm) (hb _ (jG hi)) λH3 ws s3 hw t ht=>?_;refine⟨t,ws,rfl,.inl (.of aY),⟨[_],rfl,rfl⟩,sm.trans (s3.trans (.upd ht)),?_⟩;show _++[V.int (ws.length:Nat)]=_;rw[hw,gH,y6];show _=((ls.take i++[ls[i]]).map dw).map _;rw[cS,cS];rfl
 ·rintro H2 zs sm rfl t ht;rw[ln,lV];exact q t _ (sm.trans (.upd ht)) aY
def O7(K:Frag):List V→Hp→VK→Prop:=λxs H Q=>∃p ns,xs=[.ref p]∧cV K H p (List.map V.int ns)∧Q (.int ns.sum) H
theorem O8:∀xs:List Nat,(xs.map λ(n:Nat)=>(n:Int)).sum=((xs.sum:Nat):Int)
 | []=>rfl
 |x::xs=>by rw[oW,List.sum_cons,List.sum_cons,O8 xs];lia
def CH(K:Frag):Sp:=λvs H Q _=>∃(ac:Addr)(l r lp:Nat)(ls:List (List Bx)),vs=[.ref ac]∧kr K H ac l r lp ls∧ls.length≤100∧(∀bs∈ls,bs.length≤100)∧∀H',aO H H'→Q (.int (c9 ls:Nat)) H'
theorem aaM:c8 ["case"] ["case"] (bG Bc):=dz rfl rfl rfl (by decide +kernel) rfl
theorem aaN:(["boxes"]:List Str).Nodup:=by decide +kernel
theorem O9:(["box"]:List Str).Nodup:=by decide +kernel
theorem Pa(F:cD K "_law_count" "_law_count" Bc f fd)(T:Txt mg):bz P w K mg base bx 1 f fd ["case"] (CH K):=by
 refine F.ok aaM (λvs H Q E h=>?_) (λbZ A outer s H vs Q E hr h=>?_)
 ·obtain⟨ac,l,r,lp,ls,rfl,_⟩:=h;rfl
 ·obtain⟨ac,l,r,lp,ls,rfl,hC,hl,hb,q⟩:=h;refine⟨dI (fI (O7 K) (aX (yZ K) bq)),?_,?_⟩
  ·refine bV ?_;refine cO (te:=fI (O7 K) (aX (yZ K) bq)) ?_;refine gv (Uz K rfl rfl) rfl T.sum UA ?_;refine aN ?_ aU ?_
   ·unfold yZ;refine gW (N:=["boxes"]) (own:=1) (caps:=[]) rfl ?_ ?_ ?_ ?_ ?_
    ·exact jo K rfl (bH (cH K rfl) (pv 0) aW (λ_ _=>rfl))
    ·exact(show dg ["case"] (bG Bc) ["boxes"] 1 [] _ from .mk' (by decide +kernel))
    ·exact λ_ _ _ _ _=>cG (i:=0) aaN rfl (.inl rfl)
    ·exact λ_ _ _ _ _=>fj
    ·intro _ _ _ _ _;unfold HQ;refine gv (kc K rfl) rfl T.len kd ?_;refine aN ?_ aU ?_
     ·refine gW (N:=["box"]) (own:=1) (caps:=[]) rfl ?_ ?_ ?_ ?_ ?_
      ·exact jo K rfl (pv 0)
      ·exact(dg.mk' (by kernel_rfl))
      ·exact λ_ _ _ _ _=>cG (i:=0) O9 rfl (.inl rfl)
      ·exact λ_ _ _ _ _=>tE (df (Aq K rfl hr.units) (pv 0) (cI (aN cP aU)) (de _))
      ·exact λ_ _ _ _ _=>pv 0
     ·rfl
   ·rfl
  ·refine aaL rfl hC hl hb λt H' s' ht=>⟨t,(ls.map dw).map λ(n:Nat)=>(n:Int),rfl,?_,?_⟩
   ·rw[List.map_map];exact .of ht
   ·rw[O8];exact q H' s'
def Pb(K:Frag):List V→Hp→VK→Prop:=λxs H Q=>∃p ys,xs=[.ref p]∧(cV K H p ys∨bh K H p ys)∧∀l,H l=none→Q (.ref l) (upd H l (.lst ys))
def CI(K:Frag):TE:=fI (uk K) (aX (iP (n5 K (cf (o7 K) (aR 7) (zL (rU λi=>.int (-i)) (tC (.int 1))))) 1 [] (br 0) (HP K) (aR 0)) bq)
def HR(K:Frag):TE:=cf o8 (iL (aX (cf (jM K) (aR 3) (cf (iC λi j=>.int (i-j)) (fI (uk K) (aX (aR 3) bq)) (aR 9))) bq)) (aR 8)
def CJ(K:Frag):TE:=e9 (CF K) [] E0 (aX (aR 0) (aX (aR 11) (aX (aR 8) (aX (aR 3) (aX (aR 10) bq)))))
def wy(K:Frag):TE:=eC (aX (fI (rF K) (aX (gw (zY K) (aR 8) (fi (aR 6)) iq) bq)) (aX (fI (rF K) (aX (aR 10) bq)) bq))
def sM(K:Frag):TS:=bY (cB (aR 1) (sQ K 4 (jx (br 4) (jx (br 5) (jx (br 6) (jx (br 7) uS))))))
 (bY (cB (fI (Pb K) (aX (aR 2) bq)) (br 8)) (bY (eP (gu (cf nq (aR 6) (tC (.int 1)))) (bY (cB (CI K) (br 9)) (cB (HR K) (br 8))) gs) (bY (cB (iL bq) (br 10)) (bY (sS (n5 K (aR 7)) (br 11) (cB (CJ K) (br 8))) (dI (wy K))))))
noncomputable abbrev CK:List Str:=["p","case","asked","kept","left","right","loop","layers","given","late","fresh","boxes"]
theorem oM:c8 CK ["p","case","asked","kept"] (bG xO):=dz rfl rfl rfl (by decide +kernel) rfl
theorem aaO{sp:Sp}(F:cD K "_law_tick" "_law_tick" xO f fd)(T:Txt mg)
  (GB:bz P w K mg base bx 1 fB km ["p","boxes","given","kept","fresh"] (CF K)) (kB:Kp K fB) (bB:Binds K km ["p","boxes","given","kept","fresh"] []) (mB:Mg mg "_law_boxes" fB)
  (len:∀vs H Q E,sp vs H Q E→vs.length=4) (rd:∀(D:Ends) vs H Q E,sp vs H Q E→D.rt=Q→sM K D (L2.start CK vs) H) :
  bz P w K mg base bx 2 f fd ["p","case","asked","kept"] sp:=by
 refine F.ok oM (λvs H Q E h=>len vs H Q E h) (λbZ A outer s H vs Q E hr h=>?_);refine⟨sM K,?_,rd _ vs H Q E h rfl⟩;unfold sM;refine bo ?_ ?_
 ·exact uT (pv 1) (qe (n:=4) K rfl rfl (fG (cG (i:=4) oM.nd rfl (.inl rfl)) (fG (cG (i:=5) oM.nd rfl (.inl rfl)) (fG (cG (i:=6) oM.nd rfl (.inl rfl)) (fG (cG (i:=7) oM.nd rfl (.inl rfl)) p3)))))
 refine bo ?_ ?_
 ·exact cg (i:=8) (te:=fI (Pb K) (aX (aR 2) bq)) oM.nd rfl (.inl rfl) (iX (EO K rfl) rfl T.list ER (aN (pv 2) aU))
 refine bo ?_ ?_
 ·refine dR ?_ ?_ e8
  ·exact df gJ (pv 6) aW (de _)
  ·refine bo ?_ ?_
   ·refine cg (i:=9) (te:=CI K) oM.nd rfl (.inl rfl) ?_ ?_ ?_
    ·unfold CI;refine gv (kc K rfl) rfl T.len kd ?_;refine aN ?_ aU ?_
     ·refine gW (N:=["box"]) (own:=1) (caps:=[]) rfl ?_ ?_ ?_ ?_ ?_
      ·exact jo K rfl (bH (dB K rfl) (pv 7) (n6 n8 aW) (λ_ _=>rfl))
      ·exact(show dg CK (bG xO) ["box"] 1 [] _ from .mk' (by decide +kernel))
      ·exact λ_ _ _ _ _=>cG (i:=0) O9 rfl (.inl rfl)
      ·exact λ_ _ _ _ _=>tE (df (Aq K rfl hr.units) (pv 0) (cI (aN cP aU)) (de _))
      ·exact λ_ _ _ _ _=>pv 0
     ·rfl
    ·rfl
    ·exact .inl rfl
   ·refine bV ?_;exact cg (i:=8) (te:=HR K) oM.nd rfl (.inl rfl) (bc o9 (gK (aN (bH (cH K rfl) (pv 3) (bc jy (gv (kc K rfl) rfl T.len kd (aN (pv 3) aU)) (pv 9)) (λ_ _=>rfl)) aU)) (pv 8))
 refine bo ?_ ?_
 ·exact cg (i:=10) (te:=iL bq) oM.nd rfl (.inl rfl) (gK aU)
 refine bo ?_ ?_
 ·refine nk nQ rfl (jo K rfl (pv 7)) (cG (i:=11) oM.nd rfl (.inl rfl)) ?_;refine bV ?_;exact cg (i:=8) (te:=CJ K) oM.nd rfl (.inl rfl) (cQ GB hr rfl mB kB bB .nil cR (aN (pv 0) (aN (pv 11) (aN (pv 8) (aN (pv 3) (aN (pv 10) aU))))))
 refine bV ?_;refine cO (te:=wy K) ?_;unfold wy;refine cI ?_;refine aN ?_ ?_ ?_
 ·exact iX (mi K rfl) rfl T.tuple mj (aN (eQ (EN K rfl) (pv 8) (dJ (pv 6)) fK) aU)
 ·refine aN ?_ aU ?_
  ·exact iX (mi K rfl) rfl T.tuple mj (aN (pv 10) aU)
  ·rfl
 ·rfl
noncomputable def ef(p:Int)(k:List Int)(g0:List Int)(ls:List (List Bx))(i:Nat):List Int×List Int:=(ls.take i).foldl (layB p k) (g0,[])
theorem aaP{k:List Int}{bs:List Bx}(h:ls[i]?=some bs):ef p k g0 ls (i+1)=layB p k (ef p k g0 ls i) bs:=by
 unfold ef;rw[gH,h,List.foldl_append];rfl
def y8(p:Int)(k g0:List Int)(ls:List (List Bx)):Prop:=∀(i:Nat)(bs:List Bx),ls[i]?=some bs→fe p (ef p k g0 ls i).1∧(ef p k g0 ls i).1.length≤100∧gN bs≤(ef p k g0 ls i).1.length∧(ef p k g0 ls i).2.length+dw bs≤k.length∧bs.length≤50∧∀b∈bs,b.wf p
theorem aaQ{mw:Hp}(s:aO H H')(h1:H ag=none)(h2:H af=none)(s2:aO (jf ag af H') mw):aO H mw:=λb o e=>by
 have n1:b≠ag:=λz=>by rw[z,h1]at e;cases e
 have n2:b≠af:=λz=>by rw[z,h2]at e;cases e
 exact s2 b o (yV (s b o e) n1 n2)
theorem aaR{ask lg lf:Addr}{l r:Nat}{s9 j0:Option V}{k:List Int}(p2:2≤p)(dh:p≤97)(s1:aO H H1)(hl:H al=some (.lst LS))(rN:lS H LS ls)
  (hk:bh K H ak (k.map V.int)) (kl:k.length≤100) (hg:H lg=none) (hf:H lf=none) (ne:lg≠lf) (gg:H1 lg=some (.lst (g0.map V.int))) (gf:H1 lf=some (.lst [])) (ok:y8 p k g0 ls)
  (q:∀ag s9 j0 H',aO H H'→H' ag=some (.lst ((ef p k g0 ls ls.length).1.map V.int))→H' lf=some (.lst ((ef p k g0 ls ls.length).2.map V.int))→D.nx [some (.int p),some (.ref ac),some (.ref ask),some (.ref ak),some (.int (l:Int)),some (.int (r:Int)),some (.int (lp:Int)),some (.ref al),some (.ref ag),s9,some (.ref lf),j0] H') :
  sS (n5 K (aR 7)) (br 11) (cB (CJ K) (br 8)) D [some (.int p),some (.ref ac),some (.ref ask),some (.ref ak),some (.int (l:Int)),some (.int (r:Int)),some (.int (lp:Int)),some (.ref al),some (.ref lg),s9,some (.ref lf),j0] H1:=by
 have ln:=rN.1;refine⟨_,rfl,al,rfl,⟨_,.of (s1 _ _ hl)⟩,zK (xs:=LS) (λi σ H'=>∃ag j0,σ=[some (.int p),some (.ref ac),some (.ref ask),some (.ref ak),some (.int (l:Int)),some (.int (r:Int)),some (.int (lp:Int)),some (.ref al),some (.ref ag),s9,some (.ref lf),j0]∧aO H H'∧H ag=none∧ag≠lf∧H' ag=some (.lst ((ef p k g0 ls i).1.map V.int))∧H' lf=some (.lst ((ef p k g0 ls i).2.map V.int))) ⟨lg,j0,rfl,s1,hg,ne,gg,gf⟩ (λi σ H' _ ⟨ag,j0,_,sm,_⟩=>.of (sm _ _ hl)) ?_ ?_⟩
 ·rintro i x σ H' hx ⟨ag,j0,rfl,sm,ur,nag,ga,gf⟩;have hi:i<ls.length:=by rw[← ln];exact(gc.mp hx).1
  have hb:ls[i]?=some ls[i]:=cM hi;obtain⟨c,VS,rfl,hc,hV⟩:=rN.2 i _ _ hx hb;obtain⟨o1,o2,o3,o4,o5,o6⟩:=ok i _ hb;have c1:c≠ag:=λz=>by rw[z,ur]at hc;cases hc
  have c2:c≠lf:=λz=>by rw[z,hf]at hc;cases hc
  dsimp only[br];refine⟨_,rfl,_,rfl,_,rfl,_,rfl,_,rfl,p,c,ag,ak,lf,VS,ls[i],(ef p k g0 ls i).1,k,(ef p k g0 ls i).2,rfl,p2,dh,sm _ _ hc,hV.mono sm,o6,ga,sm.bu hk,gf,nag,c1,c2,o5,o1,o2,o3,o4,kl,λt H2 s2 ht h2 h3=>?_⟩;have st:=aaP (p:=p) (k:=k) (g0:=g0) hb;refine⟨t,_,rfl,aaQ sm ur hf s2,?_,?_,?_,?_⟩
  ·cases e:H t with
   |none=>rfl
   |some o=>have:=sm _ _ e;rw[ht]at this;cases this
  ·exact λz=>by rw[z,gf]at ht;cases ht
  ·rw[st];exact h3
  ·rw[st];exact h2
 ·rintro σ H' ⟨ag,j0,rfl,sm,_,_,ga,gf⟩;rw[ln]at ga gf;exact q ag s9 j0 H' sm ga gf
noncomputable def gG(lp:Nat)(x k:List Int):List Int:=if lp=1 then k.getLastD 0::x else x
def HS(K:Frag):Sp:=λvs H Q _=>∃(p:Int)(ac ask ak:Addr)(l r lp:Nat)(ls:List (List Bx))(x k:List Int),vs=[.int p,.ref ac,.ref ask,.ref ak]∧2≤p∧p≤97∧kr K H ac l r lp ls∧bh K H ask (x.map V.int)∧bh K H ak (k.map V.int)∧x.length≤99∧k.length≤100∧
 (lp=0∨(lp=1∧1≤k.length∧∃dZ last,ls=dZ++[last]∧dw last=1∧last.length≤100))∧y8 p k (gG lp x k) ls∧lp≤(ef p k (gG lp x k) ls ls.length).1.length∧(ef p k (gG lp x k) ls ls.length).1.length≤100∧(ef p k (gG lp x k) ls ls.length).2.length≤100∧
 ∀v t1 t2 H',aO H H'→bh K H' v [.ref t1,.ref t2]→bh K H' t1 (((ef p k (gG lp x k) ls ls.length).1.drop lp).map V.int)→bh K H' t2 ((ef p k (gG lp x k) ls ls.length).2.map V.int)→Q (.ref v) H'
theorem Pc{ask lg:Addr}{l r:Nat}{s9:Option V}{k:List Int}(p2:2≤p)(dh:p≤97)(s1:aO H H1)(hl:H al=some (.lst LS))(rN:lS H LS ls)
  (hk:bh K H ak (k.map V.int)) (kl:k.length≤100) (hg:H lg=none) (gg:H1 lg=some (.lst (g0.map V.int))) (ok:y8 p k g0 ls) (e1:lp≤(ef p k g0 ls ls.length).1.length)
  (q:∀v t1 t2 H',aO H H'→bh K H' v [.ref t1,.ref t2]→bh K H' t1 (((ef p k g0 ls ls.length).1.drop lp).map V.int)→bh K H' t2 ((ef p k g0 ls ls.length).2.map V.int)→D.rt (.ref v) H') :
  bY (cB (iL bq) (br 10)) (bY (sS (n5 K (aR 7)) (br 11) (cB (CJ K) (br 8))) (dI (wy K))) D [some (.int p),some (.ref ac),some (.ref ask),some (.ref ak),some (.int (l:Int)),some (.int (r:Int)),some (.int (lp:Int)),some (.ref al),some (.ref lg),s9,none,none] H1:=by
 refine⟨by decide,λlf hf=>?_⟩;have hfH:H lf=none:=by
  cases e:H lf with
  |none=>rfl
  |some o=>have:=s1 _ _ e;rw[hf]at this;cases this
 refine aaR (H:=H) (ac:=ac) (ask:=ask) (l:=l) (r:=r) (lp:=lp) (s9:=s9) (j0:=none) p2 dh (s1.trans (.upd hf)) hl rN hk kl hg hfH (λz=>by rw[← z,gg]at hf;cases hf) (aO.upd hf _ _ gg) aY ok λag s9 j0 H' sm ga gf=>?_;show wy K _ _ _;unfold wy fI;refine⟨_,rfl,_,rfl,(lp:Int),rfl,ag,_,rfl,.of ga,λu hu=>⟨u,_,rfl,.inl ⟨.of aY,λt1 pw=>?_⟩⟩⟩;rw[oB e1]at pw ⊢;have sa:=(aO.upd (o:=.lst (((ef p k g0 ls ls.length).1.drop lp).map V.int)) hu);have sb:=aO.upd (o:=.tup (((ef p k g0 ls ls.length).1.drop lp).map V.int)) pw;refine⟨_,rfl,lf,_,rfl,.inl ⟨.of ((sa.trans sb) _ _ gf),λt2 gF=>⟨by show 2≤sizeLine;decide,λv hv=>?_⟩⟩⟩;have sc:=aO.upd (o:=.tup ((ef p k g0 ls ls.length).2.map V.int)) gF;have sd:=aO.upd (o:=.tup [.ref t1,.ref t2]) hv;exact q v t1 t2 _ (sm.trans (sa.trans (sb.trans (sc.trans sd)))) (.of aY) (.of ((sc.trans sd) _ _ aY)) (.of (sd _ _ aY))
theorem aaS(h:HS K vs H Q E)(hD:D.rt=Q):sM K D (L2.start CK vs) H:=by
 obtain⟨p,ac,ask,ak,l,r,lp,ls,x,k,rfl,p2,dh,⟨al,LS,h1,h2,h3⟩,aaT,wx,xl,kl,CL,ok,e1,e2,e3,q⟩:=h;rw[← hD]at q;have z:(1000:Nat)≤sizeLine:=by decide
 show sM K D [some (.int p),some (.ref ac),some (.ref ask),some (.ref ak),none,none,none,none,none,none,none,none] H;unfold sM;refine⟨_,rfl,ac,_,rfl,h1,rfl,_,_,rfl,_,_,rfl,_,_,rfl,_,_,rfl,rfl,?_⟩;refine⟨_,rfl,ask,_,rfl,.inr aaT,λlg Pd=>?_⟩;have s1:=aO.upd (o:=.lst (x.map V.int)) Pd;refine⟨_,rfl,rfl,_,rfl,?_⟩;rcases CL with rfl|⟨rfl,k1,dZ,last,rfl,hn,pJ⟩
 ·rw[aa (by decide)];refine dY ?_;exact Pc (ac:=ac) (ask:=ask) (l:=l) (r:=r) (lp:=0) (s9:=none) (g0:=gG 0 x k) p2 dh s1 h2 h3 wx kl Pd aY ok e1 q
 ·refine qp ?_;have qP:LS≠[]:=λe=>by have:=h3.1;rw[e,cq]at this;simp at this
  obtain⟨ku,v,rfl⟩:∃ku v,LS=ku++[v]:=⟨LS.dropLast,LS.getLast qP,(wR qP).symm⟩;have ll:ku.length=dZ.length:=by have:=h3.1;simpa using this
  obtain⟨c,VS,rfl,hc,hV⟩:=h3.2 ku.length v last (by simp) (by rw[ll];simp);unfold CI fI;refine⟨_,rfl,_,rfl,al,_,-1,.ref c,rfl,rfl,.of (s1 _ _ h2),zW _ _,c,rfl,⟨_,.of (s1 _ _ hc)⟩,?_⟩;refine O6 (K:=K) (s1 _ _ hc) (hV.mono s1) pJ λH3 ws s3 hw t ht=>?_;refine⟨t,ws,rfl,.inl (.of aY),?_⟩;rw[hw,hn];have s4:=aO.upd (o:=.lst ws) ht;have sA:=s1.trans (s3.trans s4);have gl:upd H3 t (.lst ws) lg=some (.lst (x.map V.int)):=(s3.trans s4) _ _ aY;generalize upd H3 t (.lst ws)=H4 at s4 sA gl ⊢;have ek:(k.map V.int)[k.length-1]?=some (.int (k.getLastD 0)):=by
   rw[HM k (k.length-1) 0 (by lia),eU,cM (by lia),← qA];show some (V.int _)=some (V.int (fn k (k.length-1+0)));unfold fn;rw[Nat.add_zero,cL,cM (by lia)];rfl
  unfold HR;refine⟨_,rfl,_,rfl,ak,_,rfl,.inr (sA.bu wx),_,rfl,_,1,rfl,rfl,ak,_,((k.length-1:Nat):Int),.int (k.getLastD 0),rfl,ao V.int ?_,sA.bu wx,cm ek,by show 1≤sizeLine;decide,λt2 gF=>?_⟩
  ·rw[bI];lia
  have s5:=aO.upd (o:=.lst [.int (k.getLastD 0)]) gF;refine⟨_,rfl,t2,lg,_,_,rfl,rfl,aY,s5 _ _ gl,by rw[bI];show 1+_≤sizeLine;lia,λt3 vH=>?_⟩;have s6:=aO.upd (o:=.lst ([V.int (k.getLastD 0)]++x.map V.int)) vH;have sB:=sA.trans (s5.trans s6);have h3n:H t3=none:=by
   cases e:H t3 with
   |none=>rfl
   |some o=>have:=(sA.trans s5) _ _ e;rw[vH]at this;cases this
  exact Pc (ac:=ac) (ask:=ask) (l:=l) (r:=r) (lp:=1) (g0:=gG 1 x k) p2 dh sB h2 h3 wx kl h3n aY ok e1 q
theorem aaU(F:cD K "_law_tick" "_law_tick" xO f fd)(T:Txt mg)
  (GB:bz P w K mg base bx 1 fB km ["p","boxes","given","kept","fresh"] (CF K)) (kB:Kp K fB) (bB:Binds K km ["p","boxes","given","kept","fresh"] []) (mB:Mg mg "_law_boxes" fB) :
  bz P w K mg base bx 2 f fd ["p","case","asked","kept"] (HS K):=
 aaO F T GB kB bB mB (λvs H Q E h=>by obtain⟨p,ac,ask,ak,l,r,lp,ls,x,k,rfl,_⟩:=h;rfl) λD vs H Q E h hD=>aaS h hD
def wz(K:Frag)(H:Hp)(v:V)(x k y a:List Int):Prop:=∃t t1 t2 t3 t4:Addr,v=.ref t∧bh K H t [.ref t1,.ref t2,.ref t3,.ref t4]∧bh K H t1 (x.map V.int)∧bh K H t2 (k.map V.int)∧bh K H t3 (y.map V.int)∧bh K H t4 (a.map V.int)
theorem wz.tup{x k y a:List Int}(h:wz K H v x k y a)(s:eS H H'):wz K H' v x k y a:=let ⟨t,t1,t2,t3,t4,e,h0,h1,h2,h3,h4⟩:=h;⟨t,t1,t2,t3,t4,e,s.bu h0,s.bu h1,s.bu h2,s.bu h3,s.bu h4⟩
noncomputable def yT(p:Int)(lp:Nat)(ls:List (List Bx))(x k:List Int):List Int:=(ef p k (gG lp x k) ls ls.length).1.drop lp
noncomputable def aT(p:Int)(lp:Nat)(ls:List (List Bx))(x k:List Int):List Int:=(ef p k (gG lp x k) ls ls.length).2
def pO(K:Frag)(H:Hp)(RS:List V)(p:Int)(l w lp:Nat)(ls:List (List Bx))(n:Nat):Prop:=RS.length=n∧∀(i:Nat)(v:V),RS[i]?=some v→wz K H v (dN l w i) (di l w i) (yT p lp ls (dN l w i) (di l w i)) (aT p lp ls (dN l w i) (di l w i))
theorem pO.tup{H H':Hp}{RS:List V}{p:Int}{l w lp n:Nat}{ls:List (List Bx)}(h:pO K H RS p l w lp ls n)(s:eS H H'):pO K H' RS p l w lp ls n:=⟨h.1,λi v hv=>(h.2 i v hv).tup s⟩
theorem pO.snoc{RS:List V}{l w n:Nat}(h:pO K H RS p l w lp ls n)(hv:wz K H v (dN l w n) (di l w n) (yT p lp ls (dN l w n) (di l w n)) (aT p lp ls (dN l w n) (di l w n))):pO K H (RS++[v]) p l w lp ls (n+1):=by
 refine⟨by rw[cq,h.1];rfl,λi u hu=>?_⟩;by_cases hi:i<RS.length
 ·rw[ip hi]at hu;exact h.2 i u hu
 ·rw[iK (by lia)]at hu;have e:i-RS.length=0:=by
   cases hj:i-RS.length with
   |zero=>rfl
   |succ j=>rw[hj]at hu;cases hu
  rw[e]at hu;cases hu;obtain rfl:i=n:=by have:=h.1;lia
  exact hv
noncomputable abbrev nLu:List Str:=["p","case","left","right","loop","layers","late","rows","k","row","answer","after"]
theorem oO:c8 nLu ["p","case"] (bG Fv):=dz rfl rfl rfl (by decide +kernel) rfl
def HU(K:Frag):Sp:=λvs H Q _=>∃(p:Int)(ac:Addr)(l r lp:Nat)(ls:List (List Bx)),vs=[.int p,.ref ac]∧2≤p∧p≤97∧kr K H ac l r lp ls∧ls.length≤100∧(∀bs∈ls,bs.length≤100)∧l+c9 ls≤90∧
 (∀i,i<l+c9 ls→(lp=0∨(lp=1∧1≤c9 ls∧∃dZ last,ls=dZ++[last]∧dw last=1∧last.length≤100))∧y8 p (di l (c9 ls) i) (gG lp (dN l (c9 ls) i) (di l (c9 ls) i)) ls∧
  lp≤(ef p (di l (c9 ls) i) (gG lp (dN l (c9 ls) i) (di l (c9 ls) i)) ls ls.length).1.length∧(ef p (di l (c9 ls) i) (gG lp (dN l (c9 ls) i) (di l (c9 ls) i)) ls ls.length).1.length≤100∧(ef p (di l (c9 ls) i) (gG lp (dN l (c9 ls) i) (di l (c9 ls) i)) ls ls.length).2.length≤100)∧
 ∀t RS H',aO H H'→H' t=some (.lst RS)→pO K H' RS p l (c9 ls) lp ls (l+c9 ls)→Q (.ref t) H'
theorem Pe(n i:Nat):Cc n i=dW n i:=by unfold Cc dW;rw[dQ]
theorem aaV{fC fT:Addr}{kf ke:FuncData}(F:cD K "_law_units" "_law_units" Fv f fd)(T:Txt mg)
  (GC:bz P w K mg base bx 1 fC kf ["case"] (CH K)) (kC:Kp K fC) (bC:Binds K kf ["case"] []) (mC:Mg mg "_law_count" fC)
  (GU:bz P w K mg base bx 1 fU qu ["length","at"] (Cd K)) (kU:Kp K fU) (bU:Binds K qu ["length","at"] []) (mU:Mg mg "_law_unit" fU)
  (GT:bz P w K mg base bx 2 fT ke ["p","case","asked","kept"] (HS K)) (kT:Kp K fT) (bT:Binds K ke ["p","case","asked","kept"] []) (mT:Mg mg "_law_tick" fT):bz P w K mg base bx 3 f fd ["p","case"] (HU K):=by
 refine F.ok oO (λvs H Q E h=>by obtain⟨p,ac,l,r,lp,ls,rfl,_⟩:=h;rfl) (λbZ A outer s H vs Q E hr h=>?_);obtain⟨p,ac,l,r,lp,ls,rfl,p2,dh,hC,hl,hb,ln,hT,q⟩:=h;have iR:dv 1 _:=hr.mono (by decide);refine⟨_,bo (uT (pv 1) (qe (n:=4) K rfl rfl (fG (cG (i:=2) oO.nd rfl (.inl rfl)) (fG (cG (i:=3) oO.nd rfl (.inl rfl)) (fG (cG (i:=4) oO.nd rfl (.inl rfl)) (fG (cG (i:=5) oO.nd rfl (.inl rfl)) p3)))))) (bo (cg (i:=6) oO.nd rfl (.inl rfl) (cQ GC iR rfl mC kC bC .nil cR (aN (pv 1) aU))) (bo (cg (i:=7) oO.nd rfl (.inl rfl) (gK aU)) (bo (nk nQ rfl (l5 rfl T.range (aN (bc eK (pv 2) (pv 6)) aU)) (cG (i:=8) oO.nd rfl (.inl rfl)) (bo (cg (i:=9) oO.nd rfl (.inl rfl) (cQ GU iR rfl mU kU bU .nil cR (aN (bc eK (pv 2) (pv 6)) (aN (pv 8) aU)))) (bo (uT (cQ GT hr rfl mT kT bT .nil cR (aN (pv 0) (aN (pv 1) (aN (eQ (ft K rfl) (pv 9) fK (dJ (pv 2))) (aN (eQ (ft K rfl) (pv 9) (dJ (pv 2)) fK) aU))))) (qe (n:=2) K rfl rfl (fG (cG (i:=10) oO.nd rfl (.inl rfl)) (fG (cG (i:=11) oO.nd rfl (.inl rfl)) p3)))) (bV (lZ (jz jH nR nS md (pv 7) (aN (cI (aN (eQ (ft K rfl) (pv 9) fK (dJ (pv 2))) (aN (eQ (ft K rfl) (pv 9) (dJ (pv 2)) fK) (aN (pv 10) (aN (pv 11) aU))))) aU))))))) (bV (cO (pv 7)))))),?_⟩;have Pf:=hC;obtain⟨al,LS,h1,h2,h3⟩:=hC;refine⟨_,rfl,ac,_,rfl,h1,rfl,_,_,rfl,_,_,rfl,_,_,rfl,_,_,rfl,rfl,?_⟩;refine⟨_,rfl,ac,l,r,lp,ls,rfl,Pf,hl,hb,λH1 s1=>?_⟩;generalize hw:c9 ls=w' at ln hT q ⊢;refine⟨by decide,λlr tP=>?_⟩;have aaW:H lr=none:=vB s1 tP;refine⟨_,rfl,_,rfl,(l:Int),(w':Int),rfl,rfl,((l+w':Nat):Int),ao (λz=>[V.int z]) (by lia),by lia,by lia,sT (n:=l+w') (λi σ H'=>∃s8 s9 pb j0 RS,σ=[some (.int p),some (.ref ac),some (.int (l:Int)),some (.int (r:Int)),some (.int (lp:Int)),some (.ref al),some (.int (w':Int)),some (.ref lr),s8,s9,pb,j0]∧aO H H'∧H' lr=some (.lst RS)∧pO K H' RS p l w' lp ls i) ⟨none,none,none,none,[],rfl,s1.trans (.upd tP),aY,rfl,λi v hv=>by cases hv⟩ ?_ ?_⟩
 ·rintro i σ H2 hi ⟨s8,s9,pb,j0,RS,rfl,sm,gr,hR⟩;rw[nc];obtain⟨c1,c2,c3,c4,c5⟩:=hT i hi;obtain⟨x1,x2⟩:=qD hi;have z:(1000:Nat)≤sizeLine:=by decide
  have ul:(dW (l+w') i).length=l+w':=(vU (p:=2) (by decide) hi).1;dsimp only[br];refine⟨_,rfl,_,rfl,(l:Int),(w':Int),rfl,rfl,_,rfl,l+w',i,_,_,rfl,by lia,rfl,hi,by lia,λtr H3 s3 y9=>?_⟩;rw[Pe]at y9;refine⟨_,rfl,_,rfl,_,rfl,_,rfl,(l:Int),rfl,tr,_,rfl,y9,λt1 H4 s4 pw=>?_⟩;rw[oA (by lia)]at pw;refine⟨_,rfl,_,rfl,(l:Int),rfl,tr,_,rfl,s4.bu y9,λt2 H5 s5 gF=>?_⟩;rw[oB (by lia)]at gF;have sA:=sm.trans (s3.trans (s4.trans s5));refine⟨p,ac,t1,t2,l,r,lp,ls,dN l w' i,di l w' i,rfl,p2,dh,Pf.mono sA,s5.bu pw,gF,by lia,by lia,?_,c2,c3,c4,c5,λv t3 t4 H6 s6 hv vO Pg=>?_⟩
  ·rw[x2];exact c1
  refine⟨v,_,rfl,hv,rfl,_,_,rfl,_,_,rfl,rfl,?_⟩;have sB:=s3.trans (s4.trans (s5.trans s6));refine⟨_,rfl,.inl ⟨rfl,_,.of (sB _ _ gr)⟩,_,rfl,_,rfl,(l:Int),rfl,tr,_,rfl,(s4.trans (s5.trans s6)).bu y9,λu1 H7 s7 tR=>?_⟩;rw[oA (by lia)]at tR;refine⟨_,rfl,_,rfl,(l:Int),rfl,tr,_,rfl,(s4.trans (s5.trans (s6.trans s7))).bu y9,λu2 H8 CM yG=>?_⟩;rw[oB (by lia)]at yG;refine⟨_,rfl,_,rfl,by show 4≤sizeLine;decide,λt ht=>?_⟩;have za:=aO.upd (o:=.tup [.ref u1,.ref u2,.ref t3,.ref t4]) ht;have sC:=sB.trans (s7.trans (CM.trans za));have Ph:=sC _ _ gr;refine⟨lr,RS,.ref t,rfl,rfl,Ph,by have:=hR.1;lia,?_⟩;have tp:∀{Hx:Hp},Hx lr=some (.lst RS)→eS Hx (upd Hx lr (.lst (RS++[.ref t]))):=λ{Hx} e b o h1 h2=>by
   have:b≠lr:=λz=>by rw[z,e]at h1;rcases h2 with⟨xs,h2⟩|⟨ob,u,h2⟩<;>(rw[h2]at h1;cases h1)
   rw[cF this];exact h1
  have gY:wz K (upd H8 t (.tup [.ref u1,.ref u2,.ref t3,.ref t4])) (.ref t) (dN l w' i) (di l w' i) (yT p lp ls (dN l w' i) (di l w' i)) (aT p lp ls (dN l w' i) (di l w' i)):=
   ⟨t,u1,u2,t3,t4,rfl,.of aY,(CM.trans za).bu tR,za.bu yG,(s7.trans (CM.trans za)).bu vO,(s7.trans (CM.trans za)).bu Pg⟩
  exact⟨_,_,_,_,RS++[.ref t],rfl,(sm.trans sC).put aaW,aY,((hR.tup sC.tup).snoc gY).tup (tp Ph)⟩
 ·rintro σ H2 ⟨s8,s9,pb,j0,RS,rfl,sm,gr,hR⟩;exact⟨_,rfl,q lr RS H2 sm gr hR⟩
section
variable{p:Int}
noncomputable def lT(bs:List Bx):Nat:=(bs.map Bx.r).sum
theorem uw:∀bs:List Bx,bs≠[]→(cn bs).ee=(gN bs,lT bs)∧(cn bs).aL=dw bs
 | [],h=>absurd rfl h
 | [b],_=>⟨rfl,rfl⟩
 |b::c::bs,_=>by
  obtain⟨e1,e2⟩:=uw (c::bs) (by simp);show((b.l+(cn (c::bs)).ee.1,b.r+(cn (c::bs)).ee.2):Nat×Nat)=_∧b.n+(cn (c::bs)).aL=_;rw[e1,e2];exact⟨rfl,rfl⟩
theorem Pj:∀ls:List (List Bx),ls≠[]→(∀bs∈ls,bs≠[])→(fY ls).aL=(ls.map dw).sum
 | [],h,_=>absurd rfl h
 | [x],_,hx=>(uw x (hx x dj)).2
 |x::y::xs,_,hx=>by
  show(cn x).aL+(fY (y::xs)).aL=_;rw[(uw x (hx x dj)).2,Pj (y::xs) (by simp) λb hb=>hx b (gq _ hb)];rfl
theorem zb(b:Bx):b.ck.sm:=by cases b<;>exact True.intro
theorem zd:∀bs:List Bx,gN bs≤100→lT bs≤100→(cn bs).sm
 | [],_,_=>zb .id
 | [b],_,_=>zb b
 |b::c::bs,h1,h2=>by
  have h1:b.l+gN (c::bs)≤100:=h1;have h2:b.r+lT (c::bs)≤100:=h2;obtain⟨e1,_⟩:=uw (c::bs) (by simp);refine⟨zb b,zd (c::bs) (by lia) (by lia),?_,?_⟩
  ·show b.l+(cn (c::bs)).ee.1≤100;rw[e1];exact h1
  ·show b.r+(cn (c::bs)).ee.2≤100;rw[e1];exact h2
theorem Pk:∀ls:List (List Bx),(∀bs∈ls,gN bs≤100∧lT bs≤100)→(fY ls).sm
 | [],_=>zb .id
 | [x],h=>zd x (h x dj).1 (h x dj).2
 |x::y::xs,h=>⟨zd x (h x dj).1 (h x dj).2,Pk (y::xs) λb hb=>h b (gq _ hb)⟩
theorem CN:∀n,gN (cA n)=n∧lT (cA n)=n
 |0=>⟨rfl,rfl⟩
 |n+1=>by
  obtain⟨e1,e2⟩:=CN n;show 1+gN (cA n)=n+1∧1+lT (cA n)=n+1;lia
theorem aaX{l r:Nat}{W:Drw}(h:W.sm)(hl:1≤l)(hr:1≤r)(l9:l≤90)(r9:r≤90)(wl:W.aM≤90)(wr:W.aQ≤90):(rR l r W).sm:=by
 obtain⟨a1,a2⟩:=CN l;obtain⟨b1,b2⟩:=CN r;have sl:=(nL l hl).1;have sr:=(nL r hr).1;refine⟨⟨True.intro,zd _ (by lia) (by lia),?_,?_⟩,⟨zb .id,h,?_,?_⟩,⟨True.intro,zd _ (by lia) (by lia),?_,?_⟩⟩
 ·show 0+(cn (cA l)).ee.1≤100;rw[sl];show 0+l≤100;lia
 ·show 2+(cn (cA l)).ee.2≤100;rw[sl];show 2+l≤100;lia
 ·show 1+W.aM≤100;lia
 ·show 1+W.aQ≤100;lia
 ·show 2+(cn (cA r)).ee.1≤100;rw[sr];show 2+r≤100;lia
 ·show 0+(cn (cA r)).ee.2≤100;rw[sr];show 0+r≤100;lia
end
def aaY:List V→Hp→VK→Prop:=λxs H Q=>(∃i,xs=[.int i]∧Q (.int i) H)∨∃k,xs=[.bl k]∧Q (.int (if k then 1 else 0)) H
abbrev qI(a b:TE):TE:=cf (iC λi j=>.int (i-j)) a b
abbrev CO:TE:=zL (rU λi=>.int (-i)) (tC (.int 1))
def ux(K:Frag)(e:TE):TE:=e9 (qx K) [] E0 (aX (aR 0) (aX (eI (aR 1) e) bq))
def HV:TE:=e9 Ct [] E0 (aX (aR 6) (aX (aR 2) (aX (aR 3) bq)))
def HW(K:Frag):TT:=uR (gu (cf (pd K false) (aR 7) (tW "copy"))) (gu (cf (iC λi j=>.bl (decide (j<i))) (eI (aR 5) (aR 3)) (tC (.int 3))))
def uy(K:Frag)(x y:Str):TE:=fI aaY (aX (cf (Ea K false) (cf (jM K) (aR 7) (tC (.int 0))) (eC (aX (tC (.str x)) (aX (tC (.str y)) bq)))) bq)
def wA(K:Frag):TS:=bY (sP (jk K "list" jA (aR 4) (aX (aR 7) bq))) (bY (cB (qI (qI (aR 3) (tC (.int 1))) (uy K "add" "swap")) (br 3)) (cB (eI (eI (aR 5) (tC (.int 1))) (uy K "copy" "swap")) (br 5)))
def CP(K:Frag):TS:=bY (cB (ux K (fI (uk K) (aX (aR 4) bq))) (br 6)) (bY (cB HV (br 7)) (bY (eP (HW K) (cB (tW "id") (br 7)) gs) (wA K)))
abbrev Pl:TE:=cf (rI (λ_ j=>0<j) λi j=>.int (i%j)) (aR 6) (tC (.int 5))
def Pm:TT:=uR (gu (cf nq Pl (tC (.int 1)))) (gu (cf (iC λi j=>.bl (decide (i<j))) (aR 5) (tC (.int 4))))
def Pn(K:Frag):TT:=uR (gu (cf nq Pl (tC (.int 2)))) (uR (gu (cf (iC λi j=>.bl (decide (j<i))) (aR 5) (tC (.int 1)))) (gu (cf (HB K) (cf (o7 K) (aR 4) CO) (eC (aX (tW "id") (aX (tW "late") bq))))))
def ze(K:Frag):TS:=bY (eP (Pn K) (bY (cB (tW "end") (Jj (aR 4) CO JN)) (cB (qI (aR 5) (tC (.int 1))) (br 5))) gs) (dI (eC (aX (aR 4) (aX (aR 5) bq))))
def CQ(K:Frag):TS:=bY (cB (ux K (tC (.int 9))) (br 6)) (bY (eP Pm (bY (sP (jk K "list" jA (aR 4) (aX (tW "none") bq))) (cB (eI (aR 5) (tC (.int 1))) (br 5))) gs) (ze K))
def wB(K:Frag):TS:=bY (cB (iL bq) (br 4)) (bY (cB (tC (.int 0)) (br 5)) (bY (Jk (gu (cf (iC λi j=>.bl (decide (j<i))) (aR 3) (tC (.int 0)))) (CP K)) (CQ K)))
noncomputable abbrev HX:List Str:=["script","at","p","left","boxes","right","draw","box"]
theorem oP:c8 HX ["script","at","p","left"] (bG A0):=dz rfl rfl rfl (by decide +kernel) rfl
theorem dv.aaZ{k:Nat}{A:Around}(r:dv k A):A.units+65<cLine:=by have:=r.un;lia
theorem aa0{sp:Sp}(F:cD K "_law_layer" "_law_layer" A0 f fd)(T:Txt mg)
  (GD:bz P w K mg base bx 1 fD gO ["script","k"] (qx K)) (kD:Kp K fD) (bD:Binds K gO ["script","k"] []) (mD:Mg mg "_law_draw" fD)
  (GB:bz P w K mg base bx 1 fB km ["draw","p","left"] Ct) (kB:Kp K fB) (bB:Binds K km ["draw","p","left"] []) (mB:Mg mg "_law_box" fB)
  (len:∀vs H Q E,sp vs H Q E→vs.length=4) (rd:∀(D:Ends) vs H Q E,sp vs H Q E→D.rt=Q→wB K D (L2.start HX vs) H) :
  bz P w K mg base bx 2 f fd ["script","at","p","left"] sp:=by
 refine F.ok oP (λvs H Q E h=>len vs H Q E h) (λbZ A outer s H vs Q E hr h=>?_);refine⟨wB K,?_,rd _ vs H Q E h rfl⟩;unfold wB;refine bo ?_ ?_
 ·exact cg (i:=4) (te:=iL bq) oP.nd rfl (.inl rfl) (gK aU)
 refine bo ?_ ?_
 ·exact cg (i:=5) (te:=tC (.int 0)) oP.nd rfl (.inl rfl) aW
 refine bo ?_ ?_
 ·refine Rz nQ (df sV (pv 3) aW (de _)) ?_;unfold CP;refine bo ?_ ?_
  ·refine cg (i:=6) (te:=ux K (fI (uk K) (aX (aR 4) bq))) oP.nd rfl (.inl rfl) ?_ ?_ ?_
   ·unfold ux;refine cQ GD hr rfl mD kD bD .nil cR ?_;refine aN (pv 0) ?_ ?_
    ·refine aN (bc eK (pv 1) (gv (kc K rfl) rfl T.len kd (aN (pv 4) aU))) aU ?_;rfl
    ·rfl
   ·rfl
   ·exact .inl rfl
  refine bo ?_ ?_
  ·exact cg (i:=7) (te:=HV) oP.nd rfl (.inl rfl) (cQ GB hr rfl mB kB bB .nil cR (aN (pv 6) (aN (pv 2) (aN (pv 3) aU))))
  refine bo ?_ ?_
  ·refine dR ?_ ?_ e8
   ·unfold HW;refine PW.pt (pY ?_ (sO ?_))
    ·exact df (Aq K rfl hr.units) (pv 7) (cI (aN cP aU)) (de _)
    ·exact df sV (bc eK (pv 5) (pv 3)) aW (de _)
   ·refine bV ?_;exact cg (i:=7) (te:=tW "id") oP.nd rfl (.inl rfl) (cI (aN cP aU))
  unfold wA;refine bo ?_ ?_
  ·exact lZ (te:=jk K "list" jA (aR 4) (aX (aR 7) bq)) (jz jH nR nS md (pv 4) (aN (pv 7) aU))
  refine bo ?_ ?_
  ·refine cg (i:=3) (te:=qI (qI (aR 3) (tC (.int 1))) (uy K "add" "swap")) oP.nd rfl (.inl rfl) ?_ ?_ ?_
   ·refine bc jy (bc jy (pv 3) aW) ?_;unfold uy;exact iX DZ rfl T.int Ar (aN (DX (KR K rfl) (bH (cH K rfl) (pv 7) aW (λ_ _=>rfl)) (cI (aN cP (aN cP aU))) rfl) aU)
   ·rfl
   ·exact .inl rfl
  ·refine bV ?_;refine cg (i:=5) (te:=eI (eI (aR 5) (tC (.int 1))) (uy K "copy" "swap")) oP.nd rfl (.inl rfl) ?_ ?_ ?_
   ·refine bc eK (bc eK (pv 5) aW) ?_;unfold uy;exact iX DZ rfl T.int Ar (aN (DX (KR K rfl) (bH (cH K rfl) (pv 7) aW (λ_ _=>rfl)) (cI (aN cP (aN cP aU))) rfl) aU)
   ·rfl
   ·exact .inl rfl
 unfold CQ;refine bo ?_ ?_
 ·refine cg (i:=6) (te:=ux K (tC (.int 9))) oP.nd rfl (.inl rfl) ?_ ?_ ?_
  ·unfold ux;refine cQ GD hr rfl mD kD bD .nil cR ?_;refine aN (pv 0) ?_ ?_
   ·refine aN (bc eK (pv 1) aW) aU ?_;rfl
   ·rfl
  ·rfl
  ·exact .inl rfl
 refine bo ?_ ?_
 ·refine dR ?_ ?_ e8
  ·unfold Pm;refine PW.pt (pY ?_ (sO ?_))
   ·exact df gJ (bc fH (pv 6) aW) aW (de _)
   ·exact df DW (pv 5) aW (de _)
  ·refine bo ?_ ?_
   ·exact lZ (te:=jk K "list" jA (aR 4) (aX (tW "none") bq)) (jz jH nR nS md (pv 4) (aN (cI (aN cP aU)) aU))
   ·refine bV ?_;exact cg (i:=5) (te:=eI (aR 5) (tC (.int 1))) oP.nd rfl (.inl rfl) (bc eK (pv 5) aW)
 unfold ze;refine bo ?_ ?_
 ·refine dR ?_ ?_ e8
  ·unfold Pn;refine PW.pt (pY ?_ (pY ?_ (sO ?_)))
   ·exact df gJ (bc fH (pv 6) aW) aW (de _)
   ·exact df sV (pv 5) aW (de _)
   ·refine df (r:=HB K) (aap (dv.aaZ hr)) (bH (dB K rfl) (pv 4) (n6 n8 aW) (λ_ _=>rfl)) ?_ rfl;refine cI ?_;refine aN ?_ ?_ ?_
    ·exact cI (aN cP aU)
    ·refine aN ?_ aU ?_
     ·exact cI (aN cP aU)
     ·exact oD
    ·exact oD
  ·refine bo ?_ ?_
   ·exact uT (te:=tW "end") (cI (aN cP aU)) (Ry (pv 4) (n6 n8 aW) Sf)
   ·refine bV ?_;exact cg (i:=5) (te:=qI (aR 5) (tC (.int 1))) oP.nd rfl (.inl rfl) (bc jy (pv 5) aW)
 refine bV ?_;exact cO (te:=eC (aX (aR 4) (aX (aR 5) bq))) (cI (aN (pv 4) (aN (pv 5) aU)))
structure mI(p:Int)(L r:Nat)(bs:List Bx):Prop where
 ne:bs≠[]
 l:gN bs=L
 rr:lT bs=r
 r1:1≤r
 r4:r≤4
 wf:∀b∈bs,b.wf p
 len:bs.length≤5
theorem CS(bs:List Bx)(b:Bx):lT (bs++[b])=lT bs+b.r:=by unfold lT;rw[cS,List.sum_append];rfl
theorem cU.tup(h:cU H VS es)(s:eS H H'):cU H' VS es:=⟨h.1,λi v e hv he=>let ⟨c,e1,e2⟩:=h.2 i v e hv he;⟨c,e1,s _ _ e2 (.inl ⟨_,rfl⟩)⟩⟩
theorem cU.init(h:cU H (VS++[v]) (es++[e])):cU H VS es∧∃c,v=.ref c∧H c=some (.tup e):=by
 have l:VS.length=es.length:=by have:=h.1;simpa using this
 refine⟨⟨l,λi x y hx hy=>h.2 i x y ?_ ?_⟩,h.2 VS.length v e (by simp) (by rw[l];simp)⟩
 ·rw[ip (gc.mp hx).1];exact hx
 ·rw[ip (gc.mp hy).1];exact hy
theorem CT(h:H a=some (.lst xs)):eS H (upd H a o):=eS.upd λu e=>.inl ⟨xs,by rw[h]at e;exact(cY e).symm⟩
noncomputable def CU:List V:=[.str "add",.str "swap"]
noncomputable def CV:List V:=[.str "copy",.str "swap"]
theorem aa1(b:Bx)(h1:1≤b.l)(h2:1≤b.r):∃nm ws,b.bj=.str nm::ws∧(if uX (.str nm) CU=true then(1:Int)else 0)=(b.l:Int)-1∧(if uX (.str nm) CV=true then(1:Int)else 0)=(b.r:Int)-1:=by
 cases b with
 |add=>exact⟨"add",[],rfl,by decide +kernel,by decide +kernel⟩
 |swap=>exact⟨"swap",[],rfl,by decide +kernel,by decide +kernel⟩
 |copy=>exact⟨"copy",[],rfl,by decide +kernel,by decide +kernel⟩
 |times n=>exact⟨"times",[.int n],rfl,by show _=((1:Nat):Int)-1;decide +kernel,by show _=((1:Nat):Int)-1;decide +kernel⟩
 |dq=>exact⟨"late",[],rfl,by decide +kernel,by decide +kernel⟩
 |id=>exact⟨"id",[],rfl,by decide +kernel,by decide +kernel⟩
 |none=>exact absurd h1 (by decide)
 |fin=>exact absurd h2 (by decide)
theorem aa2(b:Bx)(h1:1≤b.l)(h:b.dat≠Bx.copy.dat):b.r≤b.l:=by
 cases b with
 |copy=>exact absurd rfl h
 |none=>exact absurd h1 (by decide)
 |times n=>exact cC 1
 |_=>decide
theorem aa3(b:Bx):b.r≤2∧(b.dat=Bx.copy.dat→b.l=1):=by
 cases b with
 |times n=>exact⟨by show 1≤2;decide,λ_=>rfl⟩
 |add=>exact⟨by decide,λe=>by injection e with e;injection e with e;injection e with e;exact absurd e (by decide)⟩
 |swap=>exact⟨by decide,λe=>by injection e with e;injection e with e;injection e with e;exact absurd e (by decide)⟩
 |none=>exact⟨by decide,λe=>by injection e with e;injection e with e;injection e with e;exact absurd e (by decide)⟩
 |_=>exact⟨by decide,λ_=>rfl⟩
theorem aa4(b:Bx)(h:b.dat=Bx.id.dat∨b.dat=Bx.dq.dat):b.l=1∧b.r=1:=by
 have nm:∀x y:Str,x≠y→Dat.tuple [.str x]≠.tuple [.str y]:=λx y hx e=>by
  injection e with e;injection e with e;injection e with e;exact hx e
 cases b with
 |id=>exact⟨rfl,rfl⟩
 |dq=>exact⟨rfl,rfl⟩
 |times n=>exact⟨rfl,rfl⟩
 |add=>exact h.elim (λe=>absurd e (nm _ _ (by decide))) (λe=>absurd e (nm _ _ (by decide)))
 |swap=>exact h.elim (λe=>absurd e (nm _ _ (by decide))) (λe=>absurd e (nm _ _ (by decide)))
 |copy=>exact h.elim (λe=>absurd e (nm _ _ (by decide))) (λe=>absurd e (nm _ _ (by decide)))
 |none=>exact h.elim (λe=>absurd e (nm _ _ (by decide))) (λe=>absurd e (nm _ _ (by decide)))
 |fin=>exact h.elim (λe=>absurd e (nm _ _ (by decide))) (λe=>absurd e (nm _ _ (by decide)))
def zf(K:Frag):Sp:=λvs H Q _=>∃(as:Addr)(ns:List Int)(at' p:Int)(L:Nat),vs=[.ref as,.int at',.int p,.int (L:Int)]∧cV K H as (ns.map V.int)∧ns.length≤63∧0≤at'∧at'≤90000∧2≤p∧p≤97∧1≤L∧L≤4∧
 ∀(t lb:Addr)(VS:List V)(bs:List Bx)(r:Nat) H',aO H H'→H lb=none→bh K H' t [.ref lb,.int (r:Int)]→H' lb=some (.lst VS)→cU H' VS (bs.map Bx.bj)→mI p L r bs→Q (.ref t) H'
open Classical in
theorem HY{at' d:Int}{r:Nat}{bs:List Bx}(hn:H lb=none)(sm:aO H H')(hb:H' lb=some (.lst VS))(hV:cU H' VS (bs.map Bx.bj))(ok:mI p L r bs)
  (q:∀(t lb:Addr)(VS:List V)(bs:List Bx)(r:Nat) H',aO H H'→H lb=none→bh K H' t [.ref lb,.int (r:Int)]→H' lb=some (.lst VS)→cU H' VS (bs.map Bx.bj)→mI p L r bs→D.rt (.ref t) H') :
  ze K D [some (.ref as),some (.int at'),some (.int p),some (.int 0),some (.ref lb),some (.int (r:Int)),some (.int d),s7] H':=by
 have z:(1000:Nat)≤sizeLine:=by decide
 have fin:∀{H2:Hp}{CW:List V}{zg:List Bx}{r2:Nat},aO H H2→H2 lb=some (.lst CW)→cU H2 CW (zg.map Bx.bj)→mI p L r2 zg→(dI (eC (aX (aR 4) (aX (aR 5) bq)))) D [some (.ref as),some (.int at'),some (.int p),some (.int 0),some (.ref lb),some (.int (r2:Int)),some (.int d),s7] H2:=λ{H2 CW zg r2} s2 h2 v2 o2=>by
  refine⟨_,rfl,_,rfl,by show 2≤sizeLine;lia,λt ht=>?_⟩;exact q t lb CW zg r2 _ (s2.trans (.upd ht)) hn (.of aY) (aO.upd ht _ _ h2) (v2.mono (.upd ht)) o2
 unfold ze;refine⟨_,rfl,d,5,rfl,rfl,(by show(0:Int)<5;decide),rfl,_,rfl,?_⟩;refine lC (λ_=>?_) (λ_=>dY (fin sm hb hV ok));refine⟨_,rfl,(r:Int),1,rfl,rfl,_,rfl,lC (λhr=>?_) (λ_=>dY (fin sm hb hV ok))⟩;have hr:(1:Int)<(r:Int):=aJ hr;obtain⟨rT,b,rfl⟩:∃rT b,bs=rT++[b]:=⟨bs.dropLast,bs.getLast ok.ne,(wR ok.ne).symm⟩;have Po:VS≠[]:=λe=>by have:=hV.1;rw[e]at this;simp at this
 obtain⟨jF,v,rfl⟩:∃jF v,VS=jF++[v]:=⟨VS.dropLast,VS.getLast Po,(wR Po).symm⟩;rw[cS]at hV;obtain⟨hV',c,rfl,hc⟩:=cU.init hV;refine⟨_,rfl,_,rfl,lb,_,-1,.ref c,rfl,rfl,.of hb,zW _ _,?_⟩;refine⟨by show 1≤sizeLine;lia,λt1 h1=>⟨by show 1≤sizeLine;lia,λt2 h2=>⟨by show 2≤sizeLine;lia,λt3 h3=>?_⟩⟩⟩;have s1:=aO.upd (o:=.tup [.str "id"]) h1;have s2:=aO.upd (o:=.tup [.str "late"]) h2;have s3:=aO.upd (o:=.tup [.ref t1,.ref t2]) h3;have sA:=s1.trans (s2.trans s3);have g1:=(s2.trans s3) _ _ (aY (H:=H') (o:=.tup [.str "id"]) (a:=t1));have g2:=s3 _ _ (aY (H:=upd H' t1 (.tup [.str "id"])) (o:=.tup [.str "late"]) (a:=t2));refine⟨b.dat,[Bx.id.dat,Bx.dq.dat],Bx.has _ (sA _ _ hc),.tuple (.of aY) (.cons (Bx.has .id g1) (.cons (Bx.has .dq g2) .nil)),Bx.uv _,by decide +kernel,λe he=>?_,_,rfl,?_⟩
 ·rcases(eJ.mp he)with(rfl|he)
  ·exact Bx.uv _
  ·rw[dX.mp he];exact Bx.uv _
 generalize upd (upd (upd H' t1 (.tup [.str "id"])) t2 (.tup [.str "late"])) t3 (.tup [.ref t1,.ref t2])=H3 at sA g1 g2 ⊢;refine lC (λjS=>?_) (λ_=>?_)
 ·have ny:b.dat=Bx.id.dat∨b.dat=Bx.dq.dat:=by
   obtain⟨e,he,h⟩:=List.any_eq_true.mp jS;have h:=aJ h;rcases(eJ.mp he)with(rfl|he)
   ·exact .inl h.symm
   ·rw[dX.mp he]at h;exact .inr h.symm
  obtain⟨b1,b2⟩:=aa4 b ny;refine⟨by show 1≤sizeLine;lia,λt4 h4=>?_⟩;have s4:=aO.upd (o:=.tup [.str "end"]) h4;have sB:=sA.trans s4;have gb:=sB _ _ hb;refine⟨_,rfl,_,rfl,lb,jF++[.ref c],-1,jF.length,rfl,rfl,gb,?_,?_⟩
  ·show og (jF++[V.ref c]).length (-1)=some jF.length;unfold og;rw[cq];show(if(0:Int)≤-1 then _ else if -((jF.length+1:Nat):Int)≤-1 then some (-1+((jF.length+1:Nat):Int)).toNat else none)=_
   rw[ah (by decide),ae (by lia)];exact ao some (by lia)
  ·have e:(jF++[V.ref c]).set jF.length (.ref t4)=jF++[.ref t4]:=by simp
   rw[e];refine⟨_,rfl,(r:Int),1,rfl,rfl,?_⟩;obtain⟨r',rfl⟩:∃r',r=r'+1:=⟨r-1,by lia⟩;have e2:((r'+1:Nat):Int)-1=(r':Int):=by lia
   show(dI (eC (aX (aR 4) (aX (aR 5) bq)))) D [some (.ref as),some (.int at'),some (.int p),some (.int 0),some (.ref lb),some (.int (((r'+1:Nat):Int)-1)),some (.int d),s7] _;rw[e2];have l1:=ok.l;have l2:=ok.rr;rw[wq,b1]at l1;rw[CS,b2]at l2;have cJ:=ok.len;rw[cq]at cJ;refine fin (zg:=rT++[.fin]) ((sm.trans sB).put hn) aY ?_ ⟨by simp,?_,?_,by lia,by have:=ok.r4;lia,λx hx=>?_,by rw[cq];exact cJ⟩
   ·rw[cS];exact((hV'.mono sB).snoc aY).tup (CT gb)
   ·rw[wq];exact l1
   ·rw[CS];show lT rT+0=r';lia
   ·rcases(eT.mp hx)with(hx|hx)
    ·exact ok.wf x (nN _ hx)
    ·rw[dX.mp hx];trivial
 ·have hV2:cU H' (jF++[.ref c]) ((rT++[b]).map Bx.bj):=by rw[cS];exact hV
  exact fin (sm.trans sA) (sA _ _ hb) (hV2.mono sA) ok
open Classical in
theorem aa5{at':Int}{r:Nat}{bs:List Bx}(hs:cV K H as (ns.map V.int))(hl:ns.length≤63)(a0:0≤at')(a9:at'≤90000)(hn:H lb=none)(sm:aO H H')(hb:H' lb=some (.lst VS))(hV:cU H' VS (bs.map Bx.bj))(ok:mI p L r bs)(l4:bs.length≤4)
  (q:∀(t lb:Addr)(VS:List V)(bs:List Bx)(r:Nat) H',aO H H'→H lb=none→bh K H' t [.ref lb,.int (r:Int)]→H' lb=some (.lst VS)→cU H' VS (bs.map Bx.bj)→mI p L r bs→D.rt (.ref t) H') :
  CQ K D [some (.ref as),some (.int at'),some (.int p),some (.int 0),some (.ref lb),some (.int (r:Int)),s6,s7] H':=by
 have z:(1000:Nat)≤sizeLine:=by decide
 unfold CQ;refine⟨_,rfl,_,rfl,_,9,rfl,rfl,as,ns,_,rfl,sm.sq (b:=true) hs,hl,by lia,by lia,λd d0 d1=>?_⟩;refine⟨_,rfl,d,5,rfl,rfl,(by show(0:Int)<5;decide),rfl,_,rfl,?_⟩;refine lC (λ_=>?_) (λ_=>dY (HY hn sm hb hV ok q));refine⟨_,rfl,(r:Int),4,rfl,rfl,_,rfl,lC (λhr=>?_) (λ_=>HY hn sm hb hV ok q)⟩;have hr:(r:Int)<4:=aJ hr;refine⟨_,rfl,.inl ⟨rfl,_,.of hb⟩,by show 1≤sizeLine;lia,λt ht=>?_⟩;have s1:=aO.upd (o:=.tup [.str "none"]) ht;have gb:=s1 _ _ hb;have lv:VS.length=bs.length:=by rw[hV.1,bI]
 refine⟨lb,VS,.ref t,rfl,rfl,gb,by lia,?_⟩;refine⟨_,rfl,(r:Int),1,rfl,rfl,?_⟩;show ze K D [some (.ref as),some (.int at'),some (.int p),some (.int 0),some (.ref lb),some (.int ((r:Int)+1)),some (.int d),s7] _;rw[show(r:Int)+1=((r+1:Nat):Int) by lia];refine HY (bs:=bs++[.none]) hn ((sm.trans s1).put hn) aY ?_ ⟨by simp,?_,?_,by lia,by lia,λx hx=>?_,?_⟩ q
 ·rw[cS];exact((hV.mono s1).snoc aY).tup (CT gb)
 ·rw[wq];exact ok.l
 ·rw[CS,ok.rr];rfl
 ·rcases(eT.mp hx)with(hx|hx)
  ·exact ok.wf x hx
  ·rw[dX.mp hx];trivial
 ·rw[cq];show bs.length+1≤5;lia
theorem aa6{at':Int}{l r:Nat}{bs:List Bx}(hn:H lb=none)(sm:aO H H')(hb:H' lb=some (.lst VS))(hV:cU H' VS (bs.map Bx.bj))(hc:H' c=some (.tup b.bj))(bl:b.l≤l)(b1:1≤b.l)(b2:1≤b.r)(lv:VS.length≤100)
  (q:∀H2,aO H H2→H2 lb=some (.lst (VS++[.ref c]))→cU H2 (VS++[.ref c]) ((bs++[b]).map Bx.bj)→D.nx [some (.ref as),some (.int at'),some (.int p),some (.int ((l-b.l:Nat):Int)),some (.ref lb),some (.int ((r+b.r:Nat):Int)),s6,some (.ref c)] H2) :
  wA K D [some (.ref as),some (.int at'),some (.int p),some (.int (l:Int)),some (.ref lb),some (.int (r:Int)),s6,some (.ref c)] H':=by
 have z:(1000:Nat)≤sizeLine:=by decide
 obtain⟨nm,ws,ew,i1,i2⟩:=aa1 b b1 b2;have a0:b.bj[0]?=some (.str nm):=by rw[ew];rfl
 unfold wA;refine⟨_,rfl,.inl ⟨rfl,_,.of hb⟩,_,rfl,lb,VS,.ref c,rfl,rfl,hb,by lia,?_⟩;have vb:=CT (o:=.lst (VS++[.ref c])) hb _ _ hc (.inl ⟨_,rfl⟩);have Pp:cU (upd H' lb (.lst (VS++[.ref c]))) (VS++[.ref c]) ((bs++[b]).map Bx.bj):=by
  rw[cS];exact(hV.tup (CT hb)).snoc vb
 have lJ:aO H (upd H' lb (.lst (VS++[.ref c]))):=sm.put hn;have Pq:(upd H' lb (.lst (VS++[.ref c]))) lb=some (.lst (VS++[.ref c])):=aY;generalize upd H' lb (.lst (VS++[.ref c]))=H1 at vb Pp lJ Pq ⊢;unfold uy;refine⟨_,rfl,(l:Int),1,rfl,rfl,_,rfl,c,_,0,.str nm,rfl,rfl,.of vb,cm (j:=0) a0,by show 2≤sizeLine;lia,λt1 h1=>⟨t1,CU,rfl,.inr (.of aY),rfl,rfl,.inr ⟨_,rfl,_,_,rfl,rfl,?_⟩⟩⟩;have s1:=aO.upd (o:=.tup CU) h1;refine⟨_,rfl,(r:Int),1,rfl,rfl,_,rfl,c,_,0,.str nm,rfl,rfl,.of (s1 _ _ vb),cm (j:=0) a0,by show 2≤sizeLine;lia,λt2 h2=>⟨t2,CV,rfl,.inr (.of aY),rfl,rfl,.inr ⟨_,rfl,_,_,rfl,rfl,?_⟩⟩⟩;have s2:=aO.upd (o:=.tup CV) h2;show D.nx [some (.ref as),some (.int at'),some (.int p),some (.int ((l:Int)-1-(if uX (.str nm) CU=true then(1:Int)else 0))),some (.ref lb),some (.int ((r:Int)+1+(if uX (.str nm) CV=true then(1:Int)else 0))),s6,some (.ref c)] _
 rw[i1,i2,show(l:Int)-1-((b.l:Int)-1)=((l-b.l:Nat):Int) by lia,show(r:Int)+1+((b.r:Int)-1)=((r+b.r:Nat):Int) by lia];exact q _ (lJ.trans (s1.trans s2)) ((s1.trans s2) _ _ Pq) (Pp.mono (s1.trans s2))
def CY(p:Int)(H:Hp)(as lb:Addr)(at':Int)(L:Nat):Nat→St→Hp→Prop:=λm σ H'=>∃(r:Nat)(bs:List Bx)(VS:List V)(s6 s7:Option V),σ=[some (.ref as),some (.int at'),some (.int p),some (.int (m:Int)),some (.ref lb),some (.int (r:Int)),s6,s7]∧aO H H'∧H' lb=some (.lst VS)∧cU H' VS (bs.map Bx.bj)∧gN bs+m=L∧lT bs=r∧r+m≤4∧bs.length≤r∧bs.length+m≤L∧∀b∈bs,b.wf p
open Classical in
theorem aa7{at':Int}{m:Nat}(hs:cV K H as (ns.map V.int))(hl:ns.length≤63)(a0:0≤at')(a9:at'≤90000)(p2:2≤p)(dh:p≤97)(hn:H lb=none)(hW:CY p H as lb at' L m σ H')(m1:1≤m)
  (q:∀m' σ' H2,m'<m→CY p H as lb at' L m' σ' H2→D.nx σ' H2):CP K D σ H':=by
 obtain⟨r,bs,VS,s6,s7,rfl,sm,hb,hV,eL,eR,h4,hbr,hbl,pG⟩:=hW;have z:(1000:Nat)≤sizeLine:=by decide
 have lv:VS.length=bs.length:=by rw[hV.1,bI]
 unfold CP ux;refine⟨_,rfl,_,rfl,_,rfl,lb,VS,rfl,.inl (.of hb),at',(VS.length:Int),rfl,rfl,as,ns,_,rfl,sm.sq (b:=true) hs,hl,by lia,by lia,λd d0 d1=>?_⟩;unfold HV;refine⟨_,rfl,_,rfl,_,rfl,d,p,(m:Int),rfl,d0,d1,p2,dh,by lia,λb c H2 wf bl b1 b2 s2 hc=>?_⟩;unfold HW;refine⟨_,rfl,by show 1≤sizeLine;lia,λt ht=>?_⟩;have s3:=aO.upd (o:=.tup [.str "copy"]) ht;refine⟨b.dat,Bx.copy.dat,Bx.has _ (s3 _ _ hc),Bx.has .copy aY,Bx.uv _,Bx.uv .copy,_,rfl,?_⟩;have sA:=s2.trans s3;have Pr:=s3 _ _ hc;have Pu:=sA _ _ hb;have Pw:=hV.mono sA;have oy:=sm.trans sA;generalize upd H2 t (.tup [.str "copy"])=H3 at s3 sA Pr Pu Pw oy ⊢;rw[ah (by decide)];have go:∀{b':Bx}{c':Addr}{H4:Hp},aO H3 H4→H4 c'=some (.tup b'.bj)→b'.wf p→b'.l≤m→1≤b'.l→1≤b'.r→r+b'.r+(m-b'.l)≤4→wA K D [some (.ref as),some (.int at'),some (.int p),some (.int (m:Int)),some (.ref lb),some (.int (r:Int)),some (.int d),some (.ref c')] H4:=λ{b' c' H4} s4 hc4 HZ l' l1 r1 Pg=>by
  refine aa6 hn (oy.trans s4) (s4 _ _ Pu) (Pw.mono s4) hc4 l' l1 r1 (by lia) λH5 s5 hb5 hV5=>?_;refine q (m-b'.l) _ H5 (by lia) ⟨r+b'.r,bs++[b'],VS++[.ref c'],_,_,rfl,s5,hb5,hV5,by rw[wq];lia,by rw[CS,eR],by lia,?_,?_,λx hx=>?_⟩
  ·rw[cq];show bs.length+1≤_;lia
  ·rw[cq];show bs.length+1+_≤_;lia
  ·rcases(eT.mp hx)with(hx|hx)
   ·exact pG x hx
   ·rw[dX.mp hx];exact HZ
 have bl':b.l≤m:=by lia
 have nx:(¬(b.dat=Bx.copy.dat)∨r+m≤3)→wA K D [some (.ref as),some (.int at'),some (.int p),some (.int (m:Int)),some (.ref lb),some (.int (r:Int)),some (.int d),some (.ref c)] H3:=λh=>by
  refine go (.refl _) Pr wf bl' b1 b2 ?_;by_cases e:b.dat=Bx.copy.dat
  ·obtain⟨e1,e2⟩:=aa3 b
   have:=e2 e
   rcases h with h|h
   ·exact absurd e h
   ·lia
  ·have:=aa2 b b1 e
   lia
 by_cases e:b.dat=Bx.copy.dat
 ·rw[aG e];refine gU ⟨_,rfl,_,rfl,(r:Int),(m:Int),rfl,rfl,_,3,rfl,rfl,_,rfl,?_⟩;by_cases h3:(3:Int)<(r:Int)+(m:Int)
  ·rw[aG h3];refine gU ⟨by show 1≤sizeLine;lia,λt2 gF=>?_⟩;exact go (b':=.id) (.upd gF) aY trivial (by show 1≤m;lia) (by decide) (by decide) (by show r+1+(m-1)≤4;lia)
  ·rw[aa h3];exact dY (nx (.inr (by lia)))
 ·rw[aa e];exact dY (dY (nx (.inl e)))
theorem aa8(h:zf K vs H Q E)(hD:D.rt=Q):wB K D (L2.start HX vs) H:=by
 obtain⟨as,ns,at',p,L,rfl,hs,hl,a0,a9,p2,dh,l1,l4,q⟩:=h;rw[← hD]at q;show wB K D [some (.ref as),some (.int at'),some (.int p),some (.int (L:Int)),none,none,none,none] H;unfold wB;refine⟨by decide,λlb kj=>?_⟩;refine⟨CY p H as lb at' L,⟨L,0,[],[],none,none,rfl,.upd kj,aY,cU.nil,by show 0+L=L;lia,rfl,by lia,cC 0,by show 0+L≤L;lia,λb hb=>absurd hb (by simp)⟩,?_⟩;intro m σ H' hW;obtain⟨r,bs,VS,s6,s7,rfl,sm,hb,hV,eL,eR,h4,hbr,hbl,pG⟩:=id hW;refine⟨_,rfl,(m:Int),0,rfl,rfl,_,rfl,lC (λc7=>?_) (λc7=>?_)⟩
 ·have c7:(0:Int)<(m:Int):=aJ c7;refine⟨λσ' mw=>∃m',m'<m∧CY p H as lb at' L m' σ' mw,λσ' mw h=>h,?_⟩;exact aa7 hs hl a0 a9 p2 dh kj hW (by lia) λm' σ' H2 lt h=>⟨m',lt,h⟩
 ·have c7:¬(0:Int)<(m:Int):=λh=>c7 (aG h);obtain rfl:m=0:=by lia
  have ne:bs≠[]:=λe=>by
   rw[e]at eL
   have:(0:Nat)+0=L:=eL
   lia
  have ln:1≤bs.length:=by
   cases bs with
   |nil=>exact absurd rfl ne
   |cons _ _=>simp
  exact aa5 hs hl a0 a9 kj sm hb hV ⟨ne,by lia,eR,by lia,by lia,pG,by lia⟩ (by lia) q
theorem aa9(F:cD K "_law_layer" "_law_layer" A0 f fd)(T:Txt mg)
  (GD:bz P w K mg base bx 1 fD gO ["script","k"] (qx K)) (kD:Kp K fD) (bD:Binds K gO ["script","k"] []) (mD:Mg mg "_law_draw" fD)
  (GB:bz P w K mg base bx 1 fB km ["draw","p","left"] Ct) (kB:Kp K fB) (bB:Binds K km ["draw","p","left"] []) (mB:Mg mg "_law_box" fB) :
  bz P w K mg base bx 2 f fd ["script","at","p","left"] (zf K):=
 aa0 F T GD kD bD mD GB kB bB mB (λvs H Q E h=>by obtain⟨as,ns,at',p,L,rfl,_⟩:=h;rfl) λD vs H Q E h hD=>aa8 h hD
def fu(p:Int):Nat→List (List Bx)→Nat→Prop
 |L,[],R=>L=R
 |L,bs::ls,R=>∃m,mI p L m bs∧fu p m ls R
theorem fu.snoc{p:Int}{M R:Nat}{bs:List Bx}(h2:mI p M R bs):∀{L:Nat}{ls:List (List Bx)},fu p L ls M→fu p L (ls++[bs]) R
 |_,[],h=>⟨R,by rw[show _=M from h];exact h2,rfl⟩
 |_,_::_,⟨m,a,b⟩=>⟨m,a,fu.snoc h2 b⟩
structure mK(p:Int)(l r lp:Nat)(ls:List (List Bx)):Prop where
 mQ:fu p (l+lp) ls (r+lp)
 ne:ls≠[]
 len:ls.length≤4
 l1:1≤l
 l4:l+lp≤4
 r1:1≤r
 r4:r+lp≤4
 uz:lp=0∨(lp=1∧∃xs,ls=xs++[Bx.dq::cA r])
theorem cU.cons(hc:H c=some (.tup e))(h:cU H VS es):cU H (.ref c::VS) (e::es):=by
 refine⟨by rw[eW,eW,h.1],λi v x hv hx=>?_⟩;cases i with
 |zero=>cases hv;cases hx;exact⟨c,rfl,hc⟩
 |succ i=>exact h.2 i v x hv hx
theorem cU.rep{H:Hp}{c:Addr}{e:List V}(hc:H c=some (.tup e)):∀n,cU H (List.replicate n (.ref c)) (List.replicate n e)
 |0=>cU.nil
 |n+1=>cU.cons hc (cU.rep hc n)
theorem lS.snoc{bs:List Bx}(h:lS H LS ls)(hc:H c=some (.lst VS))(hV:cU H VS (bs.map Bx.bj)):lS H (LS++[.ref c]) (ls++[bs]):=by
 refine⟨by rw[cq,cq,h.1];rfl,λi v x hv hx=>?_⟩;by_cases hi:i<LS.length
 ·rw[ip hi]at hv;rw[ip (by rw[← h.1];exact hi)]at hx;exact h.2 i v x hv hx
 ·rw[iK (by lia)]at hv;rw[iK (by rw[← h.1];lia),← h.1]at hx;generalize i-LS.length=j at hv hx;cases j with
  |zero=>cases hv;cases hx;exact⟨c,VS,rfl,hc,hV⟩
  |succ j=>cases hv
theorem Px:del c (upd H c o)=del c H:=by
 funext b
 unfold del;by_cases e:b=c
 ·rw[ae e,ae e]
 ·rw[ah e,ah e,cF e]
theorem aba:aO (del c H) H:=λ_ _ e=>(tT e).2
theorem cU.del{H:Hp}{c:Addr}{xs:List V}{VS:List V}{es:List (List V)}(h:cU H VS es)(hc:H c=some (.lst xs)):cU (del c H) VS es:=⟨h.1,λi v e hv he=>let ⟨b,e1,e2⟩:=h.2 i v e hv he;⟨b,e1,by
 rw[vL λz=>by rw[z,hc]at e2;cases e2];exact e2⟩⟩
def mV(K:Frag)(n:Int):TE:=e9 (qx K) [] E0 (aX (aR 0) (aX (tC (.int n)) bq))
abbrev wC(e:TE)(n:Int):TE:=cf (rI (λ_ j=>0<j) λi j=>.int (i%j)) e (tC (.int n))
def CZ(K:Frag):TE:=e9 (zf K) [] E0 (aX (aR 0) (aX (eI (tC (.int 20)) (cf (rI sU λi j=>.int (i*j)) (tC (.int 10)) (aR 5))) (aX (aR 1) (aX (aR 4) bq))))
def Ia(K:Frag):TS:=bY (cB (CZ K) (sQ K 2 (jx (br 6) (jx (br 4) uS)))) (sP (jk K "list" jA (aR 3) (aX (aR 6) bq)))
def C0:TE:=cf o8 (iL (aX (tW "late") bq)) (cf Ef (iL (aX (tW "id") bq)) (qI (aR 4) (tC (.int 1))))
def wD:TE:=eC (aX (qI (aR 2) (aR 7)) (aX (qI (aR 4) (aR 7)) (aX (aR 7) (aX (aR 3) bq))))
def wF(K:Frag):TS:=bY (eP (gu (cf nq (aR 7) (tC (.int 1)))) (sP (jk K "list" jA (aR 3) (aX C0 bq))) gs) (dI wD)
def C1(K:Frag):TS:=bY (cB (wC (mV K 3) 2) (br 7)) (bY (eP (Jc (gu (cf nq (aR 2) (tC (.int 1)))) (gu (cf nq (aR 4) (tC (.int 1))))) (cB (tC (.int 0)) (br 7)) gs) (wF K))
def wG(K:Frag):TS:=bY (cB (eI (tC (.int 1)) (wC (mV K 1) 3)) (br 2)) (bY (cB (iL bq) (br 3)) (bY (cB (aR 2) (br 4)) (bY (sS (zH (aX (eI (tC (.int 1)) (wC (mV K 2) 3)) bq)) (br 5) (Ia K)) (C1 K))))
noncomputable abbrev Ib:List Str:=["script","p","left","layers","right","k","boxes","loop"]
theorem qJ:c8 Ib ["script","p"] (bG Ba):=dz rfl rfl rfl (by decide +kernel) rfl
theorem abb{sp:Sp}(F:cD K "_law_layers" "_law_layers" Ba f fd)(T:Txt mg)
  (GD:bz P w K mg base bx 1 fD gO ["script","k"] (qx K)) (kD:Kp K fD) (bD:Binds K gO ["script","k"] []) (mD:Mg mg "_law_draw" fD)
  (GL:bz P w K mg base bx 2 fL mv ["script","at","p","left"] (zf K)) (kL:Kp K fL) (bL:Binds K mv ["script","at","p","left"] []) (mL:Mg mg "_law_layer" fL)
  (len:∀vs H Q E,sp vs H Q E→vs.length=2) (rd:∀(D:Ends) vs H Q E,sp vs H Q E→D.rt=Q→wG K D (L2.start Ib vs) H) :
  bz P w K mg base bx 3 f fd ["script","p"] sp:=by
 refine F.ok qJ (λvs H Q E h=>len vs H Q E h) (λbZ A outer s H vs Q E hr h=>?_);have iR:dv 1 _:=hr.mono (by decide);refine⟨wG K,?_,rd _ vs H Q E h rfl⟩;unfold wG;refine bo ?_ ?_
 ·refine cg (i:=2) (te:=eI (tC (.int 1)) (wC (mV K 1) 3)) qJ.nd rfl (.inl rfl) ?_ ?_ ?_
  ·refine bc eK aW (bc fH ?_ aW);unfold mV;exact cQ GD iR rfl mD kD bD .nil cR (aN (pv 0) (aN aW aU))
  ·rfl
  ·exact .inl rfl
 refine bo ?_ ?_
 ·exact cg (i:=3) (te:=iL bq) qJ.nd rfl (.inl rfl) (gK aU)
 refine bo ?_ ?_
 ·exact cg (i:=4) (te:=aR 2) qJ.nd rfl (.inl rfl) (pv 2)
 refine bo ?_ ?_
 ·refine nk nQ rfl (l5 rfl T.range ?_) (cG (i:=5) qJ.nd rfl (.inl rfl)) ?_
  ·refine aN ?_ aU ?_
   ·refine bc eK aW (bc fH ?_ aW);unfold mV;exact cQ GD iR rfl mD kD bD .nil cR (aN (pv 0) (aN aW aU))
   ·rfl
  ·unfold Ia;refine bo ?_ ?_
   ·refine uT (te:=CZ K) ?_ (qe (n:=2) K rfl rfl (fG (cG (i:=6) qJ.nd rfl (.inl rfl)) (fG (cG (i:=4) qJ.nd rfl (.inl rfl)) p3))) ?_ ?_
    ·unfold CZ;exact cQ GL hr rfl mL kL bL .nil cR (aN (pv 0) (aN (bc eK aW (bc l6 aW (pv 5))) (aN (pv 1) (aN (pv 4) aU))))
    ·rfl
    ·rfl
   ·refine bV ?_;exact lZ (te:=jk K "list" jA (aR 3) (aX (aR 6) bq)) (jz jH nR nS md (pv 3) (aN (pv 6) aU))
 unfold C1;refine bo ?_ ?_
 ·refine cg (i:=7) (te:=wC (mV K 3) 2) qJ.nd rfl (.inl rfl) ?_ ?_ ?_
  ·refine bc fH ?_ aW;unfold mV;exact cQ GD iR rfl mD kD bD .nil cR (aN (pv 0) (aN aW aU))
  ·rfl
  ·exact .inl rfl
 refine bo ?_ ?_
 ·refine dR ?_ ?_ e8
  ·exact PW.pt (DJ (df gJ (pv 2) aW (de _)) (Je (df gJ (pv 4) aW (de _))))
  ·refine bV ?_;exact cg (i:=7) (te:=tC (.int 0)) qJ.nd rfl (.inl rfl) aW
 unfold wF;refine bo ?_ ?_
 ·refine dR ?_ ?_ e8
  ·exact df gJ (pv 7) aW (de _)
  ·refine bV ?_;refine lZ (te:=jk K "list" jA (aR 3) (aX C0 bq)) ?_ ?_
   ·refine jz jH nR nS md (pv 3) ?_;refine aN ?_ aU ?_
    ·unfold C0;exact bc o9 (gK (aN (cI (aN cP aU)) aU)) (bc Eg (gK (aN (cI (aN cP aU)) aU)) (bc jy (pv 4) aW))
    ·rfl
   ·rfl
 refine bV ?_;refine cO (te:=wD) ?_;unfold wD;exact cI (aN (bc jy (pv 2) (pv 7)) (aN (bc jy (pv 4) (pv 7)) (aN (pv 7) (aN (pv 3) aU))))
def C2(K:Frag):Sp:=λvs H Q _=>∃(as:Addr)(ns:List Int)(p:Int),vs=[.ref as,.int p]∧cV K H as (ns.map V.int)∧ns.length≤63∧2≤p∧p≤97∧
 ∀(t:Addr)(l r lp:Nat)(ls:List (List Bx)) H',aO H H'→kr K H' t l r lp ls→mK p l r lp ls→Q (.ref t) H'
theorem Py(sm:aO H H')(hl:H' ll=some (.lst LS))(hL:lS (del ll H') LS ls)(CL:lp≤L∧lp≤R)(ok:mK p (L-lp) (R-lp) lp ls)
  (q:∀(t:Addr)(l r lp:Nat)(ls:List (List Bx)) H',aO H H'→kr K H' t l r lp ls→mK p l r lp ls→D.rt (.ref t) H') :
  (dI wD) D [some (.ref as),some (.int p),some (.int (L:Int)),some (.ref ll),some (.int (R:Int)),s5,s6,some (.int (lp:Int))] H':=by
 show wD _ _ _;unfold wD;refine⟨_,rfl,_,rfl,_,_,rfl,rfl,_,rfl,_,rfl,_,_,rfl,rfl,_,rfl,_,rfl,by show 4≤sizeLine;decide,λt ht=>?_⟩;show D.rt (.ref t) (upd H' t (.tup [.int ((L:Int)-(lp:Int)),.int ((R:Int)-(lp:Int)),.int (lp:Int),.ref ll]));rw[show(L:Int)-(lp:Int)=((L-lp:Nat):Int) by lia,show(R:Int)-(lp:Int)=((R-lp:Nat):Int) by lia];exact q t _ _ lp ls _ (sm.trans (.upd ht)) ⟨ll,LS,.of aY,aO.upd ht _ _ hl,(hL.mono aba).mono (.upd ht)⟩ ok
theorem abc{n:Nat}(h:n≤3):mI p (n+1) (n+1) (Bx.dq::cA n):=by
 obtain⟨a,b⟩:=CN n;refine⟨by simp,?_,?_,by lia,by lia,λx hx=>?_,?_⟩
 ·show 1+gN (cA n)=n+1;lia
 ·show 1+lT (cA n)=n+1;lia
 ·rcases(eJ.mp hx)with(rfl|hx)
  ·trivial
  ·rw[wQ hx];trivial
 ·unfold cA;rw[eW,eV];lia
theorem Pz(hn:H ll=none)(sm:aO H H')(hl:H' ll=some (.lst LS))(hL:lS (del ll H') LS ls)(qK:fu p L ls R)(ne:ls≠[])(len:ls.length≤3)(l1:1≤L)(l4:L≤4)(r1:1≤R)(r4:R≤4)(CL:lp=0∨lp=1∧2≤L∧2≤R)
  (q:∀(t:Addr)(l r lp:Nat)(ls:List (List Bx)) H',aO H H'→kr K H' t l r lp ls→mK p l r lp ls→D.rt (.ref t) H') :
  wF K D [some (.ref as),some (.int p),some (.int (L:Int)),some (.ref ll),some (.int (R:Int)),s5,s6,some (.int (lp:Int))] H':=by
 have z:(1000:Nat)≤sizeLine:=by decide
 unfold wF;refine⟨_,rfl,rfl,_,rfl,?_⟩;rcases CL with rfl|⟨rfl,l2,r2⟩
 ·rw[aa (by decide)];refine dY ?_;exact Py sm hl hL ⟨by lia,by lia⟩ ⟨qK,ne,by lia,l1,l4,r1,r4,.inl rfl⟩ q
 ·refine qp ?_;obtain⟨n,rfl⟩:∃n,R=n+1:=⟨R-1,by lia⟩;unfold C0;refine⟨_,rfl,.inl ⟨rfl,_,.of hl⟩,by show 1≤sizeLine;lia,λt1 h1=>⟨by show 1≤sizeLine;lia,λa1 k1=>⟨by show 1≤sizeLine;lia,λt2 h2=>⟨by show 1≤sizeLine;lia,λa2 k2=>?_⟩⟩⟩⟩;have s1:=aO.upd (o:=.tup [.str "late"]) h1;have u1:=aO.upd (o:=.lst [.ref t1]) k1;have s2:=aO.upd (o:=.tup [.str "id"]) h2;have u2:=aO.upd (o:=.lst [.ref t2]) k2;have sA:=s1.trans (u1.trans (s2.trans u2));have g1:=(u1.trans (s2.trans u2)) _ _ (aY (H:=H') (a:=t1) (o:=.tup [.str "late"]));have g2:=(s2.trans u2) _ _ (aY (H:=upd H' t1 (.tup [.str "late"])) (a:=a1) (o:=.lst [.ref t1]));have g3:=u2 _ _ (aY (H:=upd (upd H' t1 (.tup [.str "late"])) a1 (.lst [.ref t1])) (a:=t2) (o:=.tup [.str "id"]));have g4:=aY (H:=upd (upd (upd H' t1 (.tup [.str "late"])) a1 (.lst [.ref t1])) t2 (.tup [.str "id"])) (a:=a2) (o:=.lst [.ref t2]);generalize upd (upd (upd (upd H' t1 (.tup [.str "late"])) a1 (.lst [.ref t1])) t2 (.tup [.str "id"])) a2 (.lst [.ref t2])=H1 at sA g1 g2 g3 g4 u2 ⊢;have en:(((n+1:Nat):Int)-1).toNat=n:=by lia
  refine⟨_,rfl,_,_,rfl,rfl,a2,_,[.ref t2],rfl,rfl,g4,by lia,by lia,by rw[en];show 1*n≤sizeLine;lia,λa3 k3=>?_⟩;rw[en,List.flatten_replicate_singleton];have u3:=aO.upd (o:=.lst (List.replicate n (.ref t2))) k3;refine⟨a1,a3,_,_,rfl,rfl,u3 _ _ g2,aY,by rw[eV];show 1+n≤sizeLine;lia,λa4 k4=>?_⟩;have u4:=aO.upd (o:=.lst ([V.ref t1]++List.replicate n (.ref t2))) k4;have sB:=sA.trans (u3.trans u4);have p7:=sB _ _ hl;have uW:cU (upd (upd H1 a3 (.lst (List.replicate n (.ref t2)))) a4 (.lst ([V.ref t1]++List.replicate n (.ref t2)))) ([V.ref t1]++List.replicate n (.ref t2)) ((Bx.dq::cA n).map Bx.bj):=by
   rw[oW];unfold cA;rw[List.map_replicate];exact cU.cons ((u3.trans u4) _ _ g1) (cU.rep ((u3.trans u4) _ _ g3) n)
  have g5:(upd (upd H1 a3 (.lst (List.replicate n (.ref t2)))) a4 (.lst ([V.ref t1]++List.replicate n (.ref t2)))) a4=some (.lst ([V.ref t1]++List.replicate n (.ref t2))):=aY;have PB:H' a4=none:=vB (sA.trans u3) k4;generalize upd (upd H1 a3 (.lst (List.replicate n (.ref t2)))) a4 (.lst ([V.ref t1]++List.replicate n (.ref t2)))=H2 at sB p7 uW g5 ⊢;refine⟨ll,LS,.ref a4,rfl,rfl,p7,by have:=hL.1;lia,?_⟩;have ne4:a4≠ll:=λe=>by rw[e,hl]at PB;cases PB
  have ud:lS (del ll (upd H2 ll (.lst (LS++[.ref a4])))) (LS++[.ref a4]) (ls++[Bx.dq::cA n]):=by
   rw[Px];exact(hL.mono (S21.aO.del sB)).snoc (by rw[vL ne4];exact g5) (uW.del p7)
  refine Py (ls:=ls++[Bx.dq::cA n]) ((sm.trans sB).put hn) aY ud ⟨by lia,by lia⟩ ⟨?_,by simp,by rw[cq];show _+1≤4;lia,by lia,by lia,by lia,by lia,.inr ⟨rfl,ls,rfl⟩⟩ q;rw[show L-1+1=L by lia];exact qK.snoc (abc (by lia))
theorem abd(hs:cV K H as (ns.map V.int))(hz:ns.length≤63)(hn:H ll=none)(sm:aO H H')(hl:H' ll=some (.lst LS))(hL:lS (del ll H') LS ls)(qK:fu p L ls R)(ne:ls≠[])(len:ls.length≤3)(l1:1≤L)(l4:L≤4)(r1:1≤R)(r4:R≤4)
  (q:∀(t:Addr)(l r lp:Nat)(ls:List (List Bx)) H',aO H H'→kr K H' t l r lp ls→mK p l r lp ls→D.rt (.ref t) H') :
  C1 K D [some (.ref as),some (.int p),some (.int (L:Int)),some (.ref ll),some (.int (R:Int)),s5,s6,s7] H':=by
 unfold C1 mV;refine⟨_,rfl,as,ns,3,rfl,sm.sq (b:=true) hs,hz,by decide,by decide,λd d0 d1=>⟨_,_,rfl,rfl,(by show(0:Int)<2;decide),?_⟩⟩;have e0:0≤d%2:=ky _ (by decide);have e1:d%2<2:=kz _ (by decide);have off:wF K D [some (.ref as),some (.int p),some (.int (L:Int)),some (.ref ll),some (.int (R:Int)),s5,s6,some (.int ((0:Nat):Int))] H':=Pz hn sm hl hL qK ne len l1 l4 r1 r4 (.inl rfl) q;refine⟨_,rfl,rfl,_,rfl,?_⟩;refine lC (λ_=>gU off) (λnl=>?_);have nl:¬(V.int (L:Int)=V.int 1):=λh=>nl (aG h);refine⟨_,rfl,rfl,_,rfl,?_⟩;refine lC (λ_=>off) (λnr=>?_);have nr:¬(V.int (R:Int)=V.int 1):=λh=>nr (aG h);have l2:L≠1:=λh=>nl (by rw[h];rfl);have r2:R≠1:=λh=>nr (by rw[h];rfl);have hc:d%2=((0:Nat):Int)∨d%2=((1:Nat):Int):=by lia
 show wF K D [some (.ref as),some (.int p),some (.int (L:Int)),some (.ref ll),some (.int (R:Int)),s5,s6,some (.int (d%2))] H';rcases hc with e|e<;>rw[e]
 ·exact off
 ·exact Pz hn sm hl hL qK ne len l1 l4 r1 r4 (.inr ⟨rfl,by lia,by lia⟩) q
theorem abe(h:C2 K vs H Q E)(hD:D.rt=Q):wG K D (L2.start Ib vs) H:=by
 obtain⟨as,ns,p,rfl,hs,hz,p2,dh,q⟩:=h;rw[← hD]at q;have z:(1000:Nat)≤sizeLine:=by decide
 show wG K D [some (.ref as),some (.int p),none,none,none,none,none,none] H;unfold wG mV;refine⟨_,rfl,as,ns,1,rfl,hs,hz,by decide,by decide,λd d0 d1=>⟨_,_,rfl,rfl,(by show(0:Int)<3;decide),_,_,rfl,rfl,?_⟩⟩;have e0:0≤d%3:=ky _ (by decide);have e1:d%3<3:=kz _ (by decide);obtain⟨L,hL,l1,l3⟩:∃L:Nat,1+d%3=(L:Int)∧1≤L∧L≤3:=⟨(1+d%3).toNat,by lia,by lia,by lia⟩;show(bY (cB (iL bq) (br 3)) _) D [some (.ref as),some (.int p),some (.int (1+d%3)),none,none,none,none,none] H;rw[hL];refine⟨by decide,λll pJ=>⟨_,rfl,?_⟩⟩;refine⟨_,rfl,as,ns,2,rfl,(aO.upd pJ).sq (b:=true) hs,hz,by decide,by decide,λd' d0' d1'=>⟨_,_,rfl,rfl,(by show(0:Int)<3;decide),_,_,rfl,rfl,?_⟩⟩;have f0:0≤d' % 3:=ky _ (by decide);have f1:d' % 3<3:=kz _ (by decide);obtain⟨N,hN,n1,n3⟩:∃N:Nat,1+d' % 3=(N:Int)∧1≤N∧N≤3:=⟨(1+d' % 3).toNat,by lia,by lia,by lia⟩;refine⟨(N:Int),ao (λx=>[V.int x]) hN,by lia,by lia,sT (n:=N) (λi σ H'=>∃(R:Nat)(ls:List (List Bx))(LS:List V)(s5 s6:Option V),σ=[some (.ref as),some (.int p),some (.int (L:Int)),some (.ref ll),some (.int (R:Int)),s5,s6,none]∧aO H H'∧H' ll=some (.lst LS)∧lS (del ll H') LS ls∧fu p L ls R∧1≤R∧R≤4∧ls.length=i) ⟨L,[],[],none,none,rfl,.upd pJ,aY,⟨rfl,λi v bs h=>by cases h⟩,rfl,l1,by lia,rfl⟩ ?_ ?_⟩
 ·rintro i σ H1 hi ⟨R,ls,LS,s5,s6,rfl,sm,hl,vp,qK,r1,r4,rfl⟩;rw[nc];dsimp only[br];unfold Ia CZ;refine⟨_,rfl,_,rfl,10,(ls.length:Int),rfl,rfl,.inl ⟨by decide,by decide⟩,20,_,rfl,rfl,_,rfl,_,rfl,as,ns,_,p,R,rfl,sm.sq (b:=true) hs,hz,by lia,by lia,p2,dh,r1,r4,λt lb VS bs r' H2 s2 kj ht hb hV ok=>?_⟩;refine⟨t,_,rfl,ht,rfl,_,_,rfl,_,_,rfl,rfl,?_⟩;have p7:=s2 _ _ hl;refine⟨_,rfl,.inl ⟨rfl,_,.of p7⟩,_,rfl,ll,LS,.ref lb,rfl,rfl,p7,by have:=vp.1;lia,?_⟩;have neb:lb≠ll:=λe=>by rw[e,hl]at kj;cases kj
  refine⟨r',ls++[bs],LS++[.ref lb],_,_,rfl,(sm.trans s2).put pJ,aY,?_,qK.snoc ok,ok.r1,ok.r4,by rw[cq];rfl⟩;rw[Px];exact(vp.mono (S21.aO.del s2)).snoc (by rw[vL neb];exact hb) (hV.del p7)
 ·rintro σ H1 ⟨R,ls,LS,s5,s6,rfl,sm,hl,vp,qK,r1,r4,e⟩;exact abd hs hz pJ sm hl vp qK (λz=>by rw[z]at e;have:0=N:=e;lia) (by lia) l1 (by lia) r1 r4 q
theorem abf(F:cD K "_law_layers" "_law_layers" Ba f fd)(T:Txt mg)
  (GD:bz P w K mg base bx 1 fD gO ["script","k"] (qx K)) (kD:Kp K fD) (bD:Binds K gO ["script","k"] []) (mD:Mg mg "_law_draw" fD)
  (GL:bz P w K mg base bx 2 fL mv ["script","at","p","left"] (zf K)) (kL:Kp K fL) (bL:Binds K mv ["script","at","p","left"] []) (mL:Mg mg "_law_layer" fL) :
  bz P w K mg base bx 3 f fd ["script","p"] (C2 K):=
 abb F T GD kD bD mD GL kL bL mL (λvs H Q E h=>by obtain⟨as,ns,p,rfl,_⟩:=h;rfl) λD vs H Q E h hD=>abe h hD
theorem Ic:∀(bs:List Bx)(b:Bx),(cn (bs++[b])).bj=gS "beside" (bs.map Bx.bj)++b.bj
 | [],b=>rfl
 | [x],b=>by
  show V.str "beside"::(x.bj++b.bj)=(V.str "beside"::(x.bj++[]))++b.bj;rw[ij];rfl
 |x::y::bs,b=>by
  show V.str "beside"::(x.bj++(cn (y::bs++[b])).bj)=_;rw[Ic (y::bs) b];show _=(V.str "beside"::x.bj)++gS "beside" ((y::bs).map Bx.bj)++b.bj;rw[dQ];rfl
theorem C3(b:Bx):b.bj.length≤2:=by
 cases b with
 |times n=>exact cC 2
 |_=>decide
theorem uA:∀bs:List Bx,bs≠[]→(cn bs).bj.length≤3*bs.length
 | [],h=>absurd rfl h
 | [b],_=>by have:=C3 b;show b.bj.length≤3;lia
 |b::c::bs,_=>by
  have:=C3 b
  have ih:=uA (c::bs) (by simp);show(V.str "beside"::(b.bj++(cn (c::bs)).bj)).length≤3*(bs.length+1+1);rw[eW,cq];have e:(c::bs).length=bs.length+1:=rfl;lia
noncomputable abbrev bw(bs:List Bx):List V:=(cn bs).bj
theorem Ie:∀(ls:List (List Bx))(l:List Bx),(fY (ls++[l])).bj=gS "then" (ls.map bw)++bw l
 | [],l=>rfl
 | [x],l=>by
  show V.str "then"::(bw x++bw l)=(V.str "then"::(bw x++[]))++bw l;rw[ij];rfl
 |x::y::ls,l=>by
  show V.str "then"::(bw x++(fY (y::ls++[l])).bj)=_;rw[Ie (y::ls) l];show _=(V.str "then"::bw x)++gS "then" ((y::ls).map bw)++bw l;rw[dQ];rfl
noncomputable def fw(l r lp:Nat)(ls:List (List Bx)):Drw:=if lp=0 then fY ls else rR l r (fY ls)
theorem PD{d:List V}(ha:H a=some (.lst VS))(hV:cU H VS (es++[d]))(le:es.length≤50)(lw:∀e∈es,e.length≤50)(ld:d.length≤50)(q:ui H (gS "beside" es++d) Q):wk [.ref a] H Q E0:=by
 have ne:VS≠[]:=λe=>by have:=hV.1;rw[e]at this;simp at this
 obtain⟨jF,v,rfl⟩:∃jF v,VS=jF++[v]:=⟨VS.dropLast,VS.getLast ne,(wR ne).symm⟩;obtain⟨h1,b,rfl,hb⟩:=cU.init hV;exact⟨a,b,jF,es,d,rfl,ha,h1,hb,le,lw,ld,q⟩
theorem PF{bs:List Bx}(ha:H a=some (.lst VS))(hV:cU H VS (bs.map Bx.bj))(ok:mI p L R bs)(q:ui H (bw bs) Q):wk [.ref a] H Q E0:=by
 obtain⟨rT,b,rfl⟩:∃rT b,bs=rT++[b]:=⟨bs.dropLast,bs.getLast ok.ne,(wR ok.ne).symm⟩;unfold bw at q;rw[Ic]at q;rw[cS]at hV;have hl:=ok.len;rw[cq]at hl;refine PD ha hV (by rw[bI];lia) (λe he=>?_) (by have:=C3 b;lia) q;obtain⟨x,_,rfl⟩:=eA.mp he
 have:=C3 x
 lia
noncomputable abbrev Ig:List Str:=["case","left","right","loop","layers","words","boxes","first","last"]
theorem oQ:c8 Ig ["case"] (bG Bb):=dz rfl rfl rfl (by decide +kernel) rfl
abbrev Ih(e:TE):TE:=e9 wk [] E0 (aX e bq)
def C4:TE:=cf qF (cf qF (aR 5) (tW "then")) (Ih (aR 6))
def C5(K:Frag):TE:=cf qF (aR 5) (Ih (cf (o7 K) (aR 4) CO))
def pP(t:TE)(i:Nat):TE:=Ih (cf o8 (iL (aX t bq)) (cf Ef (iL (aX (tW "id") bq)) (aR i)))
abbrev Ii:TE:=eC (aX (tC (.str "back")) (aX (tC (.str "cup")) bq))
def zh:TE:=cf qF (cf qF (cf qF (cf qF (tW "then") (aR 7)) (eC (aX (tC (.str "then")) (aX (tC (.str "beside")) (aX (tC (.str "id")) bq))))) (aR 5)) (aR 8)
def C6:TS:=bY (eP (gu (cf nq (aR 3) (tC (.int 0)))) (dI (aR 5)) gs) (bY (cB (pP (tW "cup") 1) (br 7)) (bY (cB (pP Ii 2) (br 8)) (dI zh)))
def wH(K:Frag):TS:=bY (cB (aR 0) (sQ K 4 (jx (br 1) (jx (br 2) (jx (br 3) (jx (br 4) uS)))))) (bY (cB (eC bq) (br 5)) (bY (sS (n5 K (gw (zY K) (aR 4) iq (fi CO))) (br 6) (cB C4 (br 5))) (bY (cB (C5 K) (br 5)) C6)))
theorem abg{sp:Sp}(F:cD K "_law_words" "_law_words" Bb f fd)
  (GB:bz P w K mg base bx 1 fB km ["parts"] wk) (kB:Kp K fB) (bB:Binds K km ["parts"] []) (mB:Mg mg "_law_beside" fB)
  (len:∀vs H Q E,sp vs H Q E→vs.length=1) (rd:∀(D:Ends) vs H Q E,sp vs H Q E→D.rt=Q→wH K D (L2.start Ig vs) H) :
  bz P w K mg base bx 2 f fd ["case"] sp:=by
 refine F.ok oQ (λvs H Q E h=>len vs H Q E h) (λbZ A outer s H vs Q E hr h=>?_);refine⟨wH K,?_,rd _ vs H Q E h rfl⟩;unfold wH;refine bo ?_ ?_
 ·exact uT (pv 0) (qe (n:=4) K rfl rfl (fG (cG (i:=1) oQ.nd rfl (.inl rfl)) (fG (cG (i:=2) oQ.nd rfl (.inl rfl)) (fG (cG (i:=3) oQ.nd rfl (.inl rfl)) (fG (cG (i:=4) oQ.nd rfl (.inl rfl)) p3)))))
 refine bo ?_ ?_
 ·exact cg (i:=5) (te:=eC bq) oQ.nd rfl (.inl rfl) (cI aU)
 refine bo ?_ ?_
 ·refine nk nQ rfl (jo K rfl (eQ (EN K rfl) (pv 4) fK (dJ (n6 n8 aW)))) (cG (i:=6) oQ.nd rfl (.inl rfl)) ?_;refine bV ?_;refine cg (i:=5) (te:=C4) oQ.nd rfl (.inl rfl) ?_ ?_ ?_
  ·unfold C4;refine bc oK (bc oK (pv 5) (cI (aN cP aU))) ?_;exact cQ GB hr rfl mB kB bB .nil cR (aN (pv 6) aU)
  ·rfl
  ·exact .inl rfl
 refine bo ?_ ?_
 ·refine cg (i:=5) (te:=C5 K) oQ.nd rfl (.inl rfl) ?_ ?_ ?_
  ·unfold C5;refine bc oK (pv 5) ?_;exact cQ GB hr rfl mB kB bB .nil cR (aN (bH (dB K rfl) (pv 4) (n6 n8 aW) (λ_ _=>rfl)) aU)
  ·rfl
  ·exact .inl rfl
 unfold C6;refine bo ?_ ?_
 ·refine dR ?_ ?_ e8
  ·exact df gJ (pv 3) aW (de _)
  ·exact bV (cO (pv 5))
 refine bo ?_ ?_
 ·refine cg (i:=7) (te:=pP (tW "cup") 1) oQ.nd rfl (.inl rfl) ?_ ?_ ?_
  ·unfold pP;refine cQ GB hr rfl mB kB bB .nil cR ?_;refine aN ?_ aU ?_
   ·exact bc o9 (gK (aN (cI (aN cP aU)) aU)) (bc Eg (gK (aN (cI (aN cP aU)) aU)) (pv 1))
   ·rfl
  ·rfl
  ·exact .inl rfl
 refine bo ?_ ?_
 ·refine cg (i:=8) (te:=pP Ii 2) oQ.nd rfl (.inl rfl) ?_ ?_ ?_
  ·unfold pP;refine cQ GB hr rfl mB kB bB .nil cR ?_;refine aN ?_ aU ?_
   ·exact bc o9 (gK (aN (cI (aN cP (aN cP aU))) aU)) (bc Eg (gK (aN (cI (aN cP aU)) aU)) (pv 2))
   ·rfl
  ·rfl
  ·exact .inl rfl
 refine bV ?_;refine cO (te:=zh) ?_;unfold zh;refine bc oK (bc oK (bc oK (bc oK (cI (aN cP aU)) (pv 7)) ?_) (pv 5)) (pv 8);refine cI ?_;exact aN cP (aN cP (aN cP aU))
def C7(K:Frag):Sp:=λvs H Q _=>∃(p:Int)(ac:Addr)(l r lp:Nat)(ls:List (List Bx)),vs=[.ref ac]∧kr K H ac l r lp ls∧mK p l r lp ls∧ui H (fw l r lp ls).bj Q
theorem fu.at'{p:Int}:∀{L R:Nat}{ls:List (List Bx)},fu p L ls R→∀bs∈ls,∃a b,mI p a b bs
 |_,_,[],_,bs,h=>by cases h
 |_,_,x::ls,⟨m,a,b⟩,bs,h=>by
  rcases(eJ.mp h)with(rfl|h)
  ·exact⟨_,_,a⟩
  ·exact fu.at' b bs h
theorem PH{te:TE}{n:Nat}{b:List V}(Ij:∀(H':Hp)(R:VK),aO H H'→(∀t,H' t=none→R (.ref t) (upd H' t (.tup b)))→te σ H' R)(hi:σ[i]?=some (some (.int ((n+1:Nat):Int))))(hn:n≤10)(hb:b.length≤10)
  (q:ui H (.str "beside"::(b++bw (cA (n+1)))) Q):pP te i σ H Q:=by
 have z:(1000:Nat)≤sizeLine:=by decide
 unfold pP;refine Ij H _ (.refl _) λt1 h1=>⟨by show 1≤sizeLine;lia,λa1 k1=>⟨by show 1≤sizeLine;lia,λt2 h2=>⟨by show 1≤sizeLine;lia,λa2 k2=>?_⟩⟩⟩;have s1:=aO.upd (o:=.tup b) h1;have u1:=aO.upd (o:=.lst [.ref t1]) k1;have s2:=aO.upd (o:=.tup [.str "id"]) h2;have u2:=aO.upd (o:=.lst [.ref t2]) k2;have sA:=s1.trans (u1.trans (s2.trans u2));have g1:=(u1.trans (s2.trans u2)) _ _ (aY (H:=H) (a:=t1) (o:=.tup b));have g2:=(s2.trans u2) _ _ (aY (H:=upd H t1 (.tup b)) (a:=a1) (o:=.lst [.ref t1]));have g3:=u2 _ _ (aY (H:=upd (upd H t1 (.tup b)) a1 (.lst [.ref t1])) (a:=t2) (o:=.tup [.str "id"]));have g4:=aY (H:=upd (upd (upd H t1 (.tup b)) a1 (.lst [.ref t1])) t2 (.tup [.str "id"])) (a:=a2) (o:=.lst [.ref t2]);generalize upd (upd (upd (upd H t1 (.tup b)) a1 (.lst [.ref t1])) t2 (.tup [.str "id"])) a2 (.lst [.ref t2])=H1 at sA g1 g2 g3 g4 u2 ⊢;have en:(((n+1:Nat):Int)).toNat=n+1:=by lia
 refine⟨_,hi,a2,_,[.ref t2],rfl,rfl,g4,by lia,by lia,by rw[en];show 1*(n+1)≤sizeLine;lia,λa3 k3=>?_⟩;rw[en,List.flatten_replicate_singleton];have u3:=aO.upd (o:=.lst (List.replicate (n+1) (.ref t2))) k3;refine⟨a1,a3,_,_,rfl,rfl,u3 _ _ g2,aY,by rw[eV];show 1+(n+1)≤sizeLine;lia,λa4 k4=>?_⟩;have u4:=aO.upd (o:=.lst ([V.ref t1]++List.replicate (n+1) (.ref t2))) k4;have su:=u3.trans u4;refine PD (es:=b::List.replicate n [.str "id"]) (d:=[.str "id"]) aY ?_ (by rw[eW,eV];lia) (λe he=>?_) (by decide) λpz H3 s3 hp=>?_
 ·have:=cU.cons (su _ _ g1) (cU.rep (su _ _ g3) (n+1))
  rw[List.replicate_succ' (a:=[V.str "id"])]at this;exact this
 ·rcases(eJ.mp he)with(rfl|he)
  ·lia
  ·rw[wQ he];decide
 ·refine q pz H3 (sA.trans (su.trans s3)) ?_;rw[hp];have e:bw (cA (n+1))=gS "beside" (List.replicate n [.str "id"])++[.str "id"]:=by
   unfold bw cA;rw[List.replicate_succ',Ic,List.map_replicate];rfl
  rw[e];show _=some (HO.tup (.str "beside"::(b++(gS "beside" (List.replicate n [.str "id"])++[.str "id"]))));rw[← dQ];rfl
theorem abh{lw:Addr}{l r:Nat}{s8:Option V}(sm:aO H H')(ok:mK p l r lp ls)(hw:H' lw=some (.tup (fY ls).bj))(wl:(fY ls).bj.length≤500)
  (q:ui H (fw l r lp ls).bj D.rt):C6 D [some (.ref ac),some (.int (l:Int)),some (.int (r:Int)),some (.int (lp:Int)),some (.ref al),some (.ref lw),s6,s7,s8] H':=by
 have z:(1000:Nat)≤sizeLine:=by decide
 unfold C6;refine⟨_,rfl,rfl,_,rfl,?_⟩;rcases ok.uz with rfl|⟨rfl,_⟩
 ·refine qp ⟨_,rfl,q lw H' sm hw⟩
 ·rw[aa (by decide)];refine dY ?_;have l1:=ok.l1;have r1:=ok.r1;have l4:=ok.l4;have r4:=ok.r4;obtain⟨n,rfl⟩:∃n,l=n+1:=⟨l-1,by lia⟩;obtain⟨m,rfl⟩:∃m,r=m+1:=⟨r-1,by lia⟩;show pP (tW "cup") 1 _ H' _;refine PH (b:=[.str "cup"]) (n:=n) (λH1 R _ h=>⟨by show 1≤sizeLine;lia,h⟩) rfl (by lia) (by decide) λf H2 s2 hf=>?_;show pP Ii 2 _ H2 _;refine PH (b:=[.str "back",.str "cup"]) (n:=m) (λH1 R _ h=>⟨by show 2≤sizeLine;lia,h⟩) rfl (by lia) (by decide) λg H3 s3 hg=>?_;show zh _ _ _;unfold zh;have w1:(bw (cA (n+1))).length≤3*(n+1):=by have:=uA (cA (n+1)) (by unfold cA;simp);unfold cA at this;rw[eV]at this;exact this
  have w2:(bw (cA (m+1))).length≤3*(m+1):=by have:=uA (cA (m+1)) (by unfold cA;simp);unfold cA at this;rw[eV]at this;exact this
  refine⟨by show 1≤sizeLine;lia,λt1 h1=>⟨_,rfl,t1,f,_,_,rfl,rfl,aY,((s3.trans (.upd h1)) _ _ hf),?_,λt2 H4 s4 h2=>⟨by show 3≤sizeLine;lia,λt3 h3=>⟨t2,t3,_,_,rfl,rfl,aO.upd h3 _ _ h2,aY,?_,λt4 H5 s5 h4=>?_⟩⟩⟩⟩
  ·simp only[eW,cq,qM];lia
  ·simp only[eW,cq,qM];lia
  have sB:=(aO.upd (o:=.tup [.str "then"]) h1).trans (s4.trans ((aO.upd (o:=.tup [.str "then",.str "beside",.str "id"]) h3).trans s5));refine⟨_,rfl,t4,lw,_,_,rfl,rfl,h4,((s2.trans s3).trans sB) _ _ hw,?_,λt5 H6 PJ h5=>⟨_,rfl,t5,g,_,_,rfl,rfl,h5,(sB.trans PJ) _ _ hg,?_,λt6 H7 uq h6=>?_⟩⟩
  ·simp only[eW,cq,qM];lia
  ·simp only[eW,cq,qM];lia
  refine q t6 H7 (sm.trans (s2.trans (s3.trans (sB.trans (PJ.trans uq))))) ?_;rw[h6];show some (HO.tup _)=some (HO.tup (fw (n+1) (m+1) 1 ls).bj);unfold fw;rw[ah (by decide)];refine ao (λx=>some (HO.tup x)) ?_;show _=V.str "then"::((V.str "beside"::([V.str "cup"]++bw (cA (n+1))))++(V.str "then"::((V.str "beside"::([V.str "id"]++(fY ls).bj))++(V.str "beside"::((V.str "back"::[V.str "cup"])++bw (cA (m+1)))))));simp only[dQ,wM,List.nil_append]
theorem abi(h:C7 K vs H Q E)(hD:D.rt=Q):wH K D (L2.start Ig vs) H:=by
 obtain⟨p,ac,l,r,lp,ls,rfl,⟨al,LS,h1,h2,h3⟩,ok,q⟩:=h;rw[← hD]at q;have z:(1000:Nat)≤sizeLine:=by decide
 obtain⟨dZ,last,rfl⟩:∃dZ last,ls=dZ++[last]:=⟨ls.dropLast,ls.getLast ok.ne,(wR ok.ne).symm⟩;have qP:LS≠[]:=λe=>by have:=h3.1;rw[e,cq]at this;simp at this
 obtain⟨ku,v,rfl⟩:∃ku v,LS=ku++[v]:=⟨LS.dropLast,LS.getLast qP,(wR qP).symm⟩;have ll:ku.length=dZ.length:=by have:=h3.1;simpa using this
 have l4:dZ.length+1≤4:=by have:=ok.len;rwa[cq]at this
 obtain⟨c,VS,rfl,hc,hV⟩:=h3.2 ku.length v last (by simp) (by rw[ll];simp);have Ik:∀bs∈dZ++[last],(bw bs).length≤15∧∃a b,mI p a b bs:=λbs hb=>by
  obtain⟨a,b,o⟩:=fu.at' ok.mQ bs hb
  have:=uA bs o.ne
  have:=o.len
  exact⟨by unfold bw;lia,a,b,o⟩
 have pl:∀i,(gS "then" ((dZ.take i).map bw)).length≤64:=λi=>by
  have:=Cw (z := "then") (B:=15) ((dZ.take i).map bw) λe he=>by
   obtain⟨x,hx,rfl⟩:=eA.mp he;exact(Ik x (nN _ (kI hx))).1
  have:((dZ.take i).map bw).length≤3:=by rw[bI,da];lia
  lia
 show wH K D [some (.ref ac),none,none,none,none,none,none,none,none] H;unfold wH;refine⟨_,rfl,ac,_,rfl,h1,rfl,_,_,rfl,_,_,rfl,_,_,rfl,_,_,rfl,rfl,?_⟩;refine⟨by decide,λl0 h0=>?_⟩;have s0:aO H (upd H l0 (.tup [])):=.upd h0;have g0:(upd H l0 (.tup [])) l0=some (.tup (gS "then" [])):=aY;generalize upd H l0 (.tup [])=H0 at s0 g0 ⊢;refine⟨_,rfl,_,rfl,_,rfl,al,_,rfl,.of (s0 _ _ h2),λl1 k1=>?_⟩;rw[show(-1:Int)=-1 from rfl,ON]
 have s1:aO H (upd H0 l1 (.lst ku)):=s0.trans (.upd k1);have g1:(upd H0 l1 (.lst ku)) l1=some (.lst ku):=aY;have yQ:(upd H0 l1 (.lst ku)) l0=some (.tup (gS "then" ((dZ.take 0).map bw))):=aO.upd k1 _ _ g0;generalize upd H0 l1 (.lst ku)=H1 at s1 g1 yQ ⊢;refine⟨l1,rfl,⟨_,.of g1⟩,zK (xs:=ku) (λi σ H'=>aO H1 H'∧∃lw s6,σ=[some (.ref ac),some (.int (l:Int)),some (.int (r:Int)),some (.int (lp:Int)),some (.ref al),some (.ref lw),s6,none,none]∧H' lw=some (.tup (gS "then" ((dZ.take i).map bw)))) ⟨.refl _,l0,none,rfl,yQ⟩ (λi σ H' _ ⟨sm,_⟩=>.of (sm _ _ g1)) ?_ ?_⟩
 ·rintro i x σ H2 hx ⟨sm,lw,s6,rfl,g⟩;have hi:i<dZ.length:=by rw[← ll];exact(gc.mp hx).1
  have y6:dZ[i]?=some dZ[i]:=cM hi;obtain⟨cb,VB,rfl,hcb,hVB⟩:=h3.2 i x dZ[i] (by rw[ip (by lia)];exact hx) (by rw[ip hi];exact y6);obtain⟨w5,a,b,o⟩:=Ik dZ[i] (nN _ (jG hi));have hp:=pl i;dsimp only[br];unfold C4;refine⟨_,rfl,by show 1≤sizeLine;lia,λt ht=>⟨_,_,_,_,rfl,rfl,aO.upd ht _ _ g,aY,by show _+1≤sizeLine;lia,λt2 H3 s3 k3=>?_⟩⟩;have yR:=(aO.upd ht).trans s3;have sC:=s1.trans (sm.trans yR);refine⟨_,rfl,PF (sC _ _ hcb) (hVB.mono sC) o λt3 H4 s4 k4=>?_⟩;refine⟨_,_,_,_,rfl,rfl,s4 _ _ k3,k4,by rw[cq];show _+1+_≤sizeLine;lia,λt5 H5 s5 k5=>?_⟩;refine⟨sm.trans (yR.trans (s4.trans s5)),t5,_,rfl,?_⟩;rw[k5,gH,y6];show _=some (HO.tup (gS "then" ((dZ.take i++[dZ[i]]).map bw)));rw[cS];show _=some (HO.tup (gS "then" ((dZ.take i).map bw++[bw dZ[i]])));rw[OM]
 rintro σ H2 ⟨sm,lw,s6,rfl,g⟩;rw[ll,lV]at g;have sc:=s1.trans sm;obtain⟨w5,a,b,o⟩:=Ik last (by simp);have hp:=pl dZ.length;rw[lV]at hp;unfold C5;refine⟨_,rfl,_,rfl,_,rfl,al,_,-1,_,rfl,rfl,.of (sc _ _ h2),zW _ _,PF (sc _ _ hc) (hV.mono sc) o λt3 H3 s3 k3=>?_⟩;refine⟨_,_,_,_,rfl,rfl,s3 _ _ g,k3,by lia,λt4 H4 s4 k4=>?_⟩;rw[← Ie]at k4;refine abh (sc.trans (s3.trans s4)) ok k4 ?_ q;rw[Ie,cq];lia
theorem abj(F:cD K "_law_words" "_law_words" Bb f fd)
  (GB:bz P w K mg base bx 1 fB km ["parts"] wk) (kB:Kp K fB) (bB:Binds K km ["parts"] []) (mB:Mg mg "_law_beside" fB) :
  bz P w K mg base bx 2 f fd ["case"] (C7 K):=
 abg F GB kB bB mB (λvs H Q E h=>by obtain⟨p,ac,l,r,lp,ls,rfl,_⟩:=h;rfl) λD vs H Q E h hD=>abi h hD
section
variable{p:Int}
theorem abk{m:Nat}{bs:List Bx}{k a:List Int}(p0:0<p)(o:mI p L m bs)(hg:g.length=L)(ig:fe p g)(ik:fe p k)(hk:a.length+dw bs≤k.length) :
  (layB p k (g,a) bs).1.length=m∧fe p (layB p k (g,a) bs).1∧(layB p k (g,a) bs).2.length=a.length+dw bs:=by
 obtain⟨e1,e2⟩:=uw bs o.ne;have el:(cn bs).aM=L:=(ao Prod.fst e1).trans o.l;have er:(cn bs).aQ=m:=(ao Prod.snd e1).trans o.rr;have lk:((k.drop a.length).take (cn bs).aL).length=(cn bs).aL:=by rw[da,ff,e2];lia
 obtain⟨l1,l2⟩:=(we o.wf).len g _ (hg.trans el.symm) lk;obtain⟨r1,_⟩:=Cr p0 bs g _ ig (Cq (wg ik a.length) (cn bs).aL);rw[HI]at l1 l2 r1;rw[HJ o.ne];refine⟨by rw[← er];exact l1,r1,?_⟩;show(a++_:List Int).length=_;rw[cq,l2,e2]
theorem PK(p0:0<p){k:List Int}(ik:fe p k):∀(ls:List (List Bx))(L R:Nat)(g a:List Int),fu p L ls R→L≤4→g.length=L→fe p g→a.length+c9 ls≤k.length→
  (∀(i:Nat)(bs:List Bx),ls[i]?=some bs→fe p ((ls.take i).foldl (layB p k) (g,a)).1∧((ls.take i).foldl (layB p k) (g,a)).1.length≤4∧gN bs≤((ls.take i).foldl (layB p k) (g,a)).1.length∧((ls.take i).foldl (layB p k) (g,a)).2.length+dw bs≤k.length∧bs.length≤5∧∀b∈bs,b.wf p)∧
  (ls.foldl (layB p k) (g,a)).1.length=R∧(ls.foldl (layB p k) (g,a)).2.length=a.length+c9 ls
 | [],L,R,g,a,h,_,hg,_,_=>⟨λi bs e=>(by cases e),hg.trans h,rfl⟩
 |x::ls,L,R,g,a,⟨m,o,h⟩,l4,hg,ig,hk=>by
  have e:c9 (x::ls)=dw x+c9 ls:=rfl;obtain⟨s1,s2,s3⟩:=abk (a:=a) p0 o hg ig ik (by lia);have ih:=PK p0 ik ls m R (layB p k (g,a) x).1 (layB p k (g,a) x).2 h o.r4 s1 s2 (by lia);refine⟨λi bs hb=>?_,ih.2.1,by rw[e,List.foldl_cons];exact ih.2.2.trans (by lia)⟩;cases i with
  |zero=>
   cases hb;exact⟨ig,by show g.length≤4;lia,by show _≤g.length;rw[o.l];lia,by show a.length+_≤_;lia,o.len,o.wf⟩
  |succ i=>exact ih.1 i bs hb
theorem fu.HZ(h:fu p L ls R):∀bs∈ls,∀b∈bs,b.wf p:=λbs hb=>let ⟨_,_,o⟩:=fu.at' h bs hb;o.wf
theorem fu.ne'(h:fu p L ls R):∀bs∈ls,bs≠[]:=λbs hb=>let ⟨_,_,o⟩:=fu.at' h bs hb;o.ne
theorem fu.ee:∀{ls:List (List Bx)}{L R:Nat},fu p L ls R→ls≠[]→L≤4→Met ls∧(fY ls).aM=L∧(fY ls).aQ=R∧(∀bs∈ls,gN bs≤100∧lT bs≤100)
 | [],_,_,_,h,_=>absurd rfl h
 | [x],L,R,⟨m,o,h⟩,_,l4=>by
  obtain⟨e1,_⟩:=uw x o.ne;have h:m=R:=h;refine⟨trivial,(ao Prod.fst e1).trans o.l,(ao Prod.snd e1).trans (o.rr.trans h),λbs hb=>?_⟩;rw[dX.mp hb,o.l,o.rr]
  have:=o.r4
  lia
 |x::y::xs,L,R,⟨m,o,h⟩,_,l4=>by
  obtain⟨e1,_⟩:=uw x o.ne;obtain⟨i1,i2,i3,i4⟩:=fu.ee (ls:=y::xs) h (by simp) o.r4;refine⟨⟨?_,i1⟩,(ao Prod.fst e1).trans o.l,i3,λbs hb=>?_⟩
  ·rw[← Oq y xs,i2];exact(ao Prod.snd e1).trans o.rr
  ·rcases(eJ.mp hb)with(rfl|hb)
   ·rw[o.l,o.rr]
    have:=o.r4
    lia
   ·exact i4 bs hb
theorem abl(bs:List Bx):dw bs≤bs.length:=by
 induction bs with
 |nil=>exact cC 0
 |cons b bs ih=>
  have:=b.HN
  show b.n+dw bs≤bs.length+1;lia
theorem fu.aL:∀{ls:List (List Bx)}{L R:Nat},fu p L ls R→c9 ls≤5*ls.length
 | [],_,_,_=>cC 0
 |x::ls,L,R,⟨m,o,h⟩=>by
  have ih:=fu.aL h
  have:=abl x
  have:=o.len
  show dw x+c9 ls≤5*(ls.length+1);lia
noncomputable def rV(p:Int)(lp:Nat)(ls:List (List Bx)):iI:=if lp=0 then jE p ls else yM (jE p ls)
structure abm(p:Int)(l r lp:Nat)(ls:List (List Bx)):Prop where
 ok:je p (fw l r lp ls) (rV p lp ls)
 lf:(fw l r lp ls).aM=l
 rg:(fw l r lp ls).aQ=r
 la:(fw l r lp ls).aL=c9 ls
 sm:(fw l r lp ls).sm
 rn:lR p (rV p lp ls)
 le:c9 ls≤20
theorem PL(p0:0<p){l r:Nat}(h:mK p l r lp ls):abm p l r lp ls:=by
 obtain⟨s1,s2,s3,s4⟩:=h.mQ.ee h.ne h.l4;have ok:=Ot h.mQ.HZ s1;have la:(fY ls).aL=c9 ls:=Pj ls h.ne h.mQ.ne';have sm:=Pk ls s4;have rn:=OG p0 ls;have le:c9 ls≤20:=by have:=h.mQ.aL;have:=h.len;lia
 have l4:=h.l4;have r4:=h.r4;rcases h.uz with rfl|⟨rfl,xs,e⟩
 ·exact⟨ok,s2,s3,la,sm,rn,le⟩
 ·have k1:(rR l r (fY ls)).aL=(fY ls).aL:=Oy h.l1 h.r1;obtain⟨k2,k3⟩:=Oz (W:=fY ls) h.l1 h.r1;refine⟨?_,k2,k3,k1.trans la,?_,aao p0 rn,le⟩
  ·refine aae h.l1 h.r1 ok s2 s3 la λs g k hg hk=>?_;rw[← la]at hk;rw[e]at hk ⊢;exact aaH hk (aaI r).1
  ·exact aaX sm h.l1 h.r1 (by lia) (by lia) (by lia) (by lia)
theorem PM(p0:0<p){l r:Nat}(h:mK p l r lp ls){x k:List Int}(hx:x.length=l)(hk:k.length=c9 ls)(ix:fe p x)(ik:fe p k) :
  y8 p k (gG lp x k) ls∧lp≤(ef p k (gG lp x k) ls ls.length).1.length∧(ef p k (gG lp x k) ls ls.length).1.length≤100∧(ef p k (gG lp x k) ls ls.length).2.length≤100∧
   yT p lp ls x k=(rV p lp ls x k).1∧aT p lp ls x k=(rV p lp ls x k).2:=by
 have gl:(gG lp x k).length=l+lp∧fe p (gG lp x k):=by
  rcases h.uz with rfl|⟨rfl,_⟩
  ·exact⟨hx,ix⟩
  ·exact⟨by show(_::x).length=_;rw[eW,hx],nM (pN (OI p0 ik)) ix⟩
 obtain⟨g1,g2,g3⟩:=PK p0 ik ls (l+lp) (r+lp) (gG lp x k) [] h.mQ h.l4 gl.1 gl.2 (by rw[hk];show 0+_≤_;lia);have le:c9 ls≤20:=by have:=h.mQ.aL;have:=h.len;lia
 have r4:=h.r4;have st:ef p k (gG lp x k) ls ls.length=((jE p ls (gG lp x k) k).1,(jE p ls (gG lp x k) k).2):=by
  unfold ef;rw[lV,O4 ls _ k [] h.ne h.mQ.ne'];rfl
 have sf:ef p k (gG lp x k) ls ls.length=ls.foldl (layB p k) (gG lp x k,[]):=by unfold ef;rw[lV]
 refine⟨λi bs hb=>?_,by rw[sf,g2];lia,by rw[sf,g2];lia,by rw[sf,g3];show 0+_≤100;lia,?_,?_⟩
 ·obtain⟨a1,a2,a3,a4,a5,a6⟩:=g1 i bs hb;exact⟨a1,gp a2 (by decide),a3,a4,gp a5 (by decide),a6⟩
 ·unfold yT;rw[st];rcases h.uz with rfl|⟨rfl,_⟩
  ·rfl
  ·rfl
 ·unfold aT;rw[st];rcases h.uz with rfl|⟨rfl,_⟩
  ·rfl
  ·rfl
theorem PN:∀n,dw (cA n)=0
 |0=>rfl
 |n+1=>by
  have:Bx.id.n=0:=by decide +kernel
  show Bx.id.n+dw (cA n)=0;rw[PN n,this]
theorem PQ(n:Nat):dw (Bx.dq::cA n)=1:=by
 have:Bx.dq.n=1:=by decide +kernel
 show Bx.dq.n+dw (cA n)=1;rw[PN n,this]
theorem abn(xs:List (List Bx))(l:List Bx):c9 (xs++[l])=c9 xs+dw l:=by
 unfold c9;rw[cS,List.sum_append];show _+(dw l+0)=_;lia
theorem abo{l r:Nat}(h:mK p l r lp ls):lp=0∨(lp=1∧1≤c9 ls∧∃dZ last,ls=dZ++[last]∧dw last=1∧last.length≤100):=by
 have r4:=h.r4;rcases h.uz with rfl|⟨rfl,xs,e⟩
 ·exact .inl rfl
 ·refine .inr ⟨rfl,?_,xs,_,e,PQ r,?_⟩
  ·rw[e,abn,PQ];lia
  ·unfold cA;rw[eW,eV];lia
end
theorem abp{o:St}(h:o.length=4):∃x y z u,o=[x,y,z,u]:=by
 match o,h with
 | [x,y,z,u],_=>exact⟨x,y,z,u,rfl⟩
abbrev PR(K:Frag):TG:=sQ K 4 (jx (br 0) (jx (br 1) (jx (br 2) (jx (br 3) uS))))
def uB(K:Frag)(i j:Nat):TE:=hI K (hI K (hI K (aR i) (aR 1)) (aR j)) (aR 3)
theorem PU{a1 a2 a3 a4:Addr}{x k y a:List Int}(h0:σ[i]?=some (some (.ref a1)))(h1:σ[1]?=some (some (.ref a2)))(h2:σ[j]?=some (some (.ref a3)))(h3:σ[3]?=some (some (.ref a4)))
  (g1:bh K H a1 (x.map V.int)) (g2:bh K H a2 (k.map V.int)) (g3:bh K H a3 (y.map V.int)) (g4:bh K H a4 (a.map V.int)) (hx:x.length≤100) (hk:k.length≤100) (hy:y.length≤100) (ha:a.length≤100)
  (q:gM K H ((x++k++y++a).map V.int) Q):uB K i j σ H Q:=by
 have z:(1000:Nat)≤sizeLine:=by decide
 unfold uB;refine⟨_,h0,_,h1,a1,a2,_,_,rfl,rfl,g1,g2,by simp only[bI];lia,λt1 H1 s1 k1=>?_⟩;refine⟨_,h2,t1,a3,_,_,rfl,rfl,k1,s1.bu g3,by simp only[cq,bI];lia,λt2 H2 s2 k2=>?_⟩;refine⟨_,h3,t2,a4,_,_,rfl,rfl,k2,(s1.trans s2).bu g4,by simp only[cq,bI];lia,λt3 H3 s3 k3=>?_⟩;refine q t3 H3 (s1.trans (s2.trans s3)) ?_;rw[cS,cS,cS];exact k3
theorem abq{RS:List V}{l w' n:Nat}{te:TE}(F:Nat→List Int)(hq:H1 a=some (.lst RS))(hR:pO K H1 RS p l w' lp ls n)(hn:n≤1000)
  (Ij:∀(i:Nat)(t1 t2 t3 t4:Addr)(H:Hp)(R:VK),i<n→bh K H t1 ((dN l w' i).map V.int)→bh K H t2 ((di l w' i).map V.int)→bh K H t3 ((yT p lp ls (dN l w' i) (di l w' i)).map V.int)→bh K H t4 ((aT p lp ls (dN l w' i) (di l w' i)).map V.int)→gM K H ((F i).map V.int) R→te [some (.ref t1),some (.ref t2),some (.ref t3),some (.ref t4)] H R)
  (done:∀v VS H',aO H1 H'→H' v=some (.lst VS)→bN K H' VS (((List.range n).map F).map cy)→Q (.ref v) H') :
  ∃W:Nat→Nat→St→Hp→List V→Prop,(∃m,W 0 m (List.replicate 4 none++[]) H1 [])∧jO (nY K a) (PR K) g6 te Q W:=by
 have z1:(1000:Nat)≤sizeLine:=by decide
 have eL:=hR.1;refine xv (n:=RS.length) (own:=4) (cp:=[]) (λi H' zs=>bN K H' zs (((List.range i).map F).map cy)) (by lia) .nil (λi H' zs h=>by rw[gz h,bI,kH];exact cC _)
  (λi H sm hi=>⟨RS,RS[i],.of (sm _ _ hq),by simp[hi]⟩) (λH sm=>⟨RS,.of (sm _ _ hq),cC _⟩) (λi o H zs hi ho sm pv x H2 y=>?_) (λH zs sm pv p hp=>?_)
 ·obtain⟨o1,o2,o3,o4,rfl⟩:=abp ho;obtain⟨rfl,y⟩:=y;have hx:=y RS (.of (sm _ _ hq));obtain⟨t,t1,t2,t3,t4,rfl,h0,h1,h2,h3,h4⟩:=hR.2 i x hx;refine⟨t,_,rfl,sm.bu h0,rfl,_,_,rfl,_,_,rfl,_,_,rfl,_,_,rfl,rfl,jq ?_⟩;refine Ij i t1 t2 t3 t4 _ _ (by lia) (sm.bu h1) (sm.bu h2) (sm.bu h3) (sm.bu h4) λu H3 s3 hu=>⟨⟨[_,_,_,_],rfl,rfl⟩,sm.trans s3,?_⟩;rw[sj,cS,cS];exact(pv.mono s3).append (.cons (jn hu) .nil)
 ·rw[eL]at pv;exact done p zs _ (sm.trans (.upd hp)) aY (pv.mono (.upd hp))
theorem n4:(["left","kept","right","after"]:List Str).Nodup:=by decide +kernel
def zi(K:Frag):TE:=e9 (HU K) [] E0 (aX (aR 1) (aX (aR 2) bq))
def rW(K:Frag)(i j:Nat):TE:=iP (n5 K (zi K)) 4 [] (PR K) g6 (uB K i j)
theorem PV{p:Int}:∀{ls:List (List Bx)}{L R:Nat},fu p L ls R→ls≠[]→(fY ls).bj.length≤16*ls.length
 | [],_,_,_,h=>absurd rfl h
 | [x],_,_,⟨m,o,_⟩,_=>by
  have:=uA x o.ne
  have:=o.len
  show(cn x).bj.length≤16;lia
 |x::y::xs,_,_,⟨m,o,h⟩,_=>by
  have:=uA x o.ne
  have:=o.len
  have ih:=PV (ls:=y::xs) h (by simp);show(V.str "then"::((cn x).bj++(fY (y::xs)).bj)).length≤16*(xs.length+1+1);rw[eW,cq];have e:(y::xs).length=xs.length+1:=rfl;lia
theorem PX(n:Nat)(h:1≤n):(cn (cA n)).bj.length≤3*n:=by
 have:=uA (cA n) (by unfold cA;cases n with|zero=>lia|succ n=>simp)
 unfold cA at this ⊢;rwa[eV]at this
theorem abr{l r:Nat}(h:mK p l r lp ls):(fw l r lp ls).bj.length≤200:=by
 have e:=PV h.mQ h.ne
 have:=h.len
 have:=h.l4
 have:=h.r4
 rcases h.uz with rfl|⟨rfl,_⟩
 ·show(fY ls).bj.length≤200;lia
 ·have a:=PX l h.l1;have b:=PX r h.r1;show(V.str "then"::((V.str "beside"::([V.str "cup"]++(cn (cA l)).bj))++(V.str "then"::((V.str "beside"::([V.str "id"]++(fY ls).bj))++(V.str "beside"::((V.str "back"::[V.str "cup"])++(cn (cA r)).bj)))))).length≤200;simp only[eW,cq,qM];lia
theorem abt{l r:Nat}(p2:2≤p)(dh:p≤97)(h1:σ[1]?=some (some (.int p)))(h2:σ[2]?=some (some (.ref ac)))(hC:kr K H ac l r lp ls)(hc:mK p l r lp ls)
  (q:∀t RS H',aO H H'→H' t=some (.lst RS)→pO K H' RS p l (c9 ls) lp ls (l+c9 ls)→Q (.ref t) H'):zi K σ H Q:=by
 have le:c9 ls≤20:=by have:=hc.mQ.aL;have:=hc.len;lia
 have l4:=hc.l4;have lb:∀bs∈ls,bs.length≤100:=λbs hb=>by
  obtain⟨_,_,o⟩:=fu.at' hc.mQ bs hb
  have:=o.len
  lia
 unfold zi;refine⟨_,h1,_,h2,p,ac,l,r,lp,ls,rfl,p2,dh,hC,by have:=hc.len;lia,lb,by lia,λi hi=>?_,q⟩;obtain⟨x1,x2⟩:=qD hi;obtain⟨n1,n2⟩:=Co p2 hi;obtain⟨u1,u2,u3,u4,_⟩:=PM (by lia) hc x1 x2 n1 n2;exact⟨abo hc,u1,u2,u3,u4⟩
theorem PY{l r:Nat}(F:Nat→List Int)(Il:(i=0∧j=2∧F=mG l (c9 ls) (rV p lp ls))∨(i=2∧j=0∧F=mH l (c9 ls) (rV p lp ls)))(p2:2≤p)(dh:p≤97)(h1:σ[1]?=some (some (.int p)))(h2:σ[2]?=some (some (.ref ac)))(hC:kr K H ac l r lp ls)(hc:mK p l r lp ls)
  (q:∀v VS H',aO H H'→H' v=some (.lst VS)→bN K H' VS (((List.range (l+c9 ls)).map F).map cy)→Q (.ref v) H'):rW K i j σ H Q:=by
 have le:c9 ls≤20:=by have:=hc.mQ.aL;have:=hc.len;lia
 have l4:=hc.l4;have r4:=hc.r4;have C:=PL (by lia) hc;unfold rW;refine abt p2 dh h1 h2 hC hc λt RS H1 s1 ht hR=>?_;refine⟨t,rfl,⟨_,.of ht⟩,abq F ht hR (by lia) (λk t1 t2 t3 t4 H' R hk g1 g2 g3 g4 qq=>?_) λv VS H2 s2 hv hA=>q v VS H2 (s1.trans s2) hv hA⟩;obtain⟨x1,x2⟩:=qD hk;obtain⟨n1,n2⟩:=Co p2 hk;obtain⟨_,_,_,_,u5,u6⟩:=PM (by lia) hc x1 x2 n1 n2;obtain⟨y1,y2⟩:=C.ok.len _ _ (by rw[C.lf];exact x1) (by rw[C.la];exact x2);rw[C.rg]at y1;rw[C.la]at y2;rw[u5]at g3;rw[u6]at g4;rcases Il with⟨rfl,rfl,rfl⟩|⟨rfl,rfl,rfl⟩
 ·exact PU rfl rfl rfl rfl g1 g2 g3 g4 (by lia) (by lia) (by lia) (by lia) qq
 ·exact PU rfl rfl rfl rfl g3 g2 g1 g4 (by lia) (by lia) (by lia) (by lia) qq
def Im(K:Frag):Sp:=λvs H Q _=>∃(p:Int)(a:Addr)(RS:List V)(rs:LL)(l s r:Nat),vs=[.int p,.ref a,.int (l:Int),.int (s:Int),.int (r:Int)]∧p∈cW∧H a=some (.lst RS)∧bN K H RS (rs.map cy)∧rs.length≤1000∧l≤100∧s≤100∧r≤100∧cz p (l+r+2*s) rs∧
 (Runs (l+s) (dt p rs)→∀v H',aO H H'→lQ K H' v l s r (v8 (dt p rs) (l+s) (r+s))→Q (.ref v) H')∧(¬Runs (l+s) (dt p rs)→∀H',aO H H'→Q (.str "none") H')
noncomputable abbrev C8:List Str:=["p","rows","left","late","right","given","told_rows"]
theorem C9:c8 C8 ["p","rows","left","late","right"] (bG vA):=dz rfl rfl rfl (by decide +kernel) rfl
theorem ndk:(["k","given"]:List Str).Nodup:=by decide +kernel
theorem abu:(["k","given","rows"]:List Str).Nodup:=by decide +kernel
theorem abv:(["row","given","k"]:List Str).Nodup:=by decide +kernel
def Dc(K:Frag):TE:=iP (lj K (aR 1)) 1 [5] (br 0) g6 (gw (g7 K) (aR 0) iq (fi (aR 1)))
def Dd(K:Frag):TE:=iP (zH (aX (aR 5) bq)) 1 [5] (br 0) g6 (e9 (Cd K) [] E0 (aX (aR 1) (aX (aR 0) bq)))
def Io(K:Frag):TE:=fI (rF K) (aX (iP (lj K (aR 2)) 1 [1,0] (br 0) g6 (cf (jM K) (aR 0) (eI (aR 1) (aR 2)))) bq)
def De(K:Frag):TE:=iP (zH (aX (eI (aR 4) (aR 3)) bq)) 1 [5,1] (br 0) g6 (Io K)
def wI(K:Frag):TE:=eC (aX (aR 2) (aX (aR 3) (aX (aR 4) (aX (fI (rF K) (aX (aR 6) bq)) bq))))
def Df(K:Frag):TS:=bY (cB (eI (aR 2) (aR 3)) (br 5)) (bY (cB (e9 (Hl K) [] E0 (aX (aR 0) (aX (aR 1) (aX (eI (eI (aR 5) (aR 4)) (aR 3)) bq)))) (br 1)) (bY (eP (gu (cf (pd K true) (Dc K) (Dd K))) (dI (tC (.str "none"))) gs) (bY (cB (De K) (br 6)) (dI (wI K)))))
open Classical in
theorem abw{RS:List V}{rs:LL}{l r:Nat}(pp:p∈cW)(ha:H a=some (.lst RS))(hA:bN K H RS (rs.map cy))(hz:rs.length≤1000)(l1:l≤100)(s1:s≤100)(r1:r≤100)(hR:cz p (l+r+2*s) rs)
  (q1:Runs (l+s) (dt p rs)→∀v H',aO H H'→lQ K H' v l s r (v8 (dt p rs) (l+s) (r+s))→D.rt (.ref v) H') (q2:¬Runs (l+s) (dt p rs)→∀H',aO H H'→D.rt (.str "none") H') :
  Df K D [some (.int p),some (.ref a),some (.int (l:Int)),some (.int (s:Int)),some (.int (r:Int)),none,none] H:=by
 have z:(1000:Nat)≤sizeLine:=by decide
 have hRR:=(nE pp hR).rws;have hRl:=vC hR;unfold Df;refine⟨_,rfl,_,rfl,(l:Int),(s:Int),rfl,rfl,?_⟩;refine⟨_,rfl,_,rfl,_,rfl,_,rfl,_,_,rfl,rfl,_,rfl,_,_,rfl,rfl,p,a,true,RS,rs,l+r+2*s,_,rfl,by lia,pp,.of ha,hA,hz,by lia,hR,λv H1 DS t1 hv hD=>?_⟩;show(bY (eP (gu (cf (pd K true) (Dc K) (Dd K))) (dI (tC (.str "none"))) gs) (bY (cB (De K) (br 6)) (dI (wI K)))) D [some (.int p),some (.ref v),some (.int (l:Int)),some (.int (s:Int)),some (.int (r:Int)),some (.int ((l:Int)+(s:Int))),none] H1;rw[show(l:Int)+(s:Int)=((l+s:Nat):Int) by lia];generalize dt p rs=R at *;have rl:∀x∈R,x.length=l+s+(r+s):=λx hx=>by rw[(hRR x hx).1];lia
 generalize hn:l+s=n at *;unfold Dc;refine⟨_,rfl,v,rfl,⟨_,hv⟩,?_⟩;refine qr (f:=λx=>x.take n) (cp:=[some (.int (n:Int))]) hv hD (by lia) (λrow ra H3 gY s3 du=>i7 (iT rfl du) ki (g8 (gP rfl)) (oA (by rw[rl row gY];lia))) ?_;intro H3 ZS s3 hZ lz jW;have s4:=aO.upd (o:=.lst ZS) jW;unfold Dd;refine⟨_,rfl,(n:Int),rfl,by lia,by lia,tG (n:=n) (lo:=0) (cp:=[some (.int (n:Int))]) (λi H' zs=>bN K H' zs (((List.range i).map (dW n)).map cy)) (by lia) .nil (λi H' zs h=>by rw[h.length,bI,bI,kH];exact cC _) ?_ ?_⟩
 ·rintro i H5 zs hi sm h;rw[nc];refine jq ⟨_,rfl,_,rfl,n,i,_,_,rfl,rfl,rfl,hi,by lia,λt H6 s6 ht=>⟨⟨[_],rfl,rfl⟩,sm.trans s6,?_⟩⟩;rw[Pe]at ht;rw[sj,cS,cS];exact(h.mono s6).append (.cons (jn ht) .nil)
 rintro H5 zs sm h lq nJ;have s6:=aO.upd (o:=.lst zs) nJ;refine⟨.list ((R.map λx=>x.take n).map cy),.list ((rL n).map cy),.list (.of ((sm.trans s6) _ _ aY)) (bN.mono (s4.trans (sm.trans s6)) hZ),.list (.of aY) (h.mono s6),Be _,Be _,_,rfl,?_⟩;have sE:=s3.trans (s4.trans (sm.trans s6));by_cases gQ:Runs n R
 ·refine KO (ao (λx:LL=>Dat.list (x.map cy)) gQ) ?_;have wb:=sE.bu hv;have Ca:=bN.mono sE hD;have eD:DS.length=R.length:=gz hD;generalize upd H5 lq (.lst zs)=H6 at sE wb Ca ⊢;unfold De Io;refine⟨_,rfl,_,rfl,_,_,rfl,rfl,((r+s:Nat):Int),ao (λx=>[V.int x]) (by lia),by lia,by lia,tG (n:=r+s) (lo:=0) (cp:=[some (.int (n:Int)),some (.ref v)]) (λi H' zs=>bN K H' zs (((List.range i).map λi=>(R.map (·.drop n)).map λr=>r.getD i 0).map cy)) (by lia) .nil (λi H' zs h=>by rw[h.length,bI,bI,kH];exact cC _) ?_ ?_⟩
  ·rintro i H7 xW hi oz h7;rw[nc];refine jq ⟨_,rfl,v,rfl,⟨_,oz.bu wb⟩,vm (xs:=DS) (cp:=[some (.int (n:Int)),some (.int (i:Int))]) (λk H' zs=>zs=(((R.map (·.drop n)).map λr=>r.getD i 0).take k).map V.int) (oz.bu wb) (by lia) rfl (λk H' zs e=>by rw[e,bI];exact si _ _) ?_ ?_⟩
   ·rintro k' x H8 xw hx qm rfl;obtain⟨row,ra,jV,rfl,du⟩:=ox Ca hx;have tN:=rl row (gT jV);refine jq ⟨_,rfl,_,rfl,_,rfl,_,_,rfl,rfl,ra,_,((n+i:Nat):Int),_,rfl,ao V.int (by lia),(oz.trans qm).bu du,cm (Nw (by rw[tN];lia)),⟨[_],rfl,rfl⟩,qm,?_⟩;rw[gH,eU,eU,jV,cS];show _++[V.int (row.getD (n+i) 0)]=_++[V.int ((row.drop n).getD i 0)];rw[cL,cL,List.getElem?_drop]
   ·rintro H8 xw qm rfl lw Ip;rw[mZ (by rw[bI,bI,eD];exact cC _)];refine⟨lw,_,rfl,.inl ⟨.of aY,λt ht=>?_⟩⟩;have oC:=qm.trans ((aO.upd Ip (o:=.lst (((R.map (·.drop n)).map λr=>r.getD i 0).map V.int))).trans (aO.upd ht (o:=.tup (((R.map (·.drop n)).map λr=>r.getD i 0).map V.int))));refine⟨⟨[_],rfl,rfl⟩,oz.trans oC,?_⟩;rw[sj,cS,cS];exact(h7.mono oC).append (.cons (jn (.of aY)) .nil)
  ·rintro H7 xW oz h7 lw Ip;have s8:=aO.upd (o:=.lst xW) Ip;show wI K _ _ _;unfold wI;refine⟨_,rfl,_,rfl,_,rfl,_,rfl,lw,_,rfl,.inl ⟨.of aY,λt ht=>?_⟩⟩;have s9:=aO.upd (o:=.tup xW) ht;refine⟨by show 4≤sizeLine;lia,λm hm=>?_⟩;have pb:=aO.upd (o:=.tup [.int (l:Int),.int (s:Int),.int (r:Int),.ref t]) hm;exact q1 gQ m _ (t1.trans (sE.trans (oz.trans (s8.trans (s9.trans pb))))) ⟨t,xW,.of aY,pb.bu (.of aY),h7.mono (s8.trans (s9.trans pb))⟩
 ·refine LI (λe=>gQ ?_) (q2 gQ _ (t1.trans sE));exact NL (Dat.list.inj e)
theorem abx{fR:Addr}{PZ:FuncData}(F:cD K "_law_due" "_law_due" vA f fd)(T:Txt mg)
  (GR:bz P w K mg base bx 2 fR PZ ["p","rows","width"] (Hl K)) (kR:Kp K fR) (bR:Binds K PZ ["p","rows","width"] []) (mR:Mg mg "_law_reduced" fR)
  (GU:bz P w K mg base bx 1 fU qu ["length","at"] (Cd K)) (kU:Kp K fU) (bU:Binds K qu ["length","at"] []) (mU:Mg mg "_law_unit" fU) :
  bz P w K mg base bx 3 f fd ["p","rows","left","late","right"] (Im K):=by
 refine F.ok C9 (λvs H Q E h=>?_) (λbZ A outer s H vs Q E hr h=>?_)
 ·obtain⟨p,a,RS,rs,l,s,r,rfl,_⟩:=h;rfl
 ·obtain⟨p,a,RS,rs,l,s,r,rfl,pp,ha,hA,hz,l1,s1,r1,hR,q1,q2⟩:=h;have iR:dv 1 _:=hr.mono (by decide);refine⟨Df K,?_,abw pp ha hA hz l1 s1 r1 hR q1 q2⟩;unfold Df;refine bo ?_ ?_
  ·exact cg (i:=5) (te:=eI (aR 2) (aR 3)) C9.nd rfl (Or.inr rfl) (bc eK (pv 2) (pv 3))
  refine bo ?_ ?_
  ·exact cg (i:=1) C9.nd rfl (Or.inr rfl) (cQ GR hr rfl mR kR bR .nil cR (aN (pv 0) (aN (pv 1) (aN (bc eK (bc eK (pv 5) (pv 4)) (pv 3)) aU))))
  refine bo ?_ ?_
  ·refine dR ?_ ?_ e8
   ·refine df (KQ K rfl hr.units) ?_ ?_ (de _)
    ·unfold Dc;refine gW (N:=["row","given"]) (own:=1) (caps:=[5]) rfl ?_ ?_ ?_ ?_ ?_
     ·exact lE K rfl (pv 1)
     ·exact(show dg C8 (bG vA) ["row","given"] 1 [5] _ from .mk' (by decide +kernel))
     ·exact λ_ _ _ _ _=>cG (i:=0) G9 rfl (.inl rfl)
     ·exact λ_ _ _ _ _=>fj
     ·exact λ_ _ _ _ _=>eQ (ft K rfl) (pv 0) fK (dJ (pv 1))
    ·unfold Dd;refine gW (N:=["k","given"]) (own:=1) (caps:=[5]) rfl ?_ ?_ ?_ ?_ ?_
     ·exact l5 rfl T.range (aN (pv 5) aU)
     ·exact(show dg C8 (bG vA) ["k","given"] 1 [5] _ from .mk' (by decide +kernel))
     ·exact λ_ _ _ _ _=>cG (i:=0) ndk rfl (.inl rfl)
     ·exact λ_ _ _ _ _=>fj
     ·exact λ_ _ _ _ _=>cQ GU iR rfl mU kU bU .nil cR (aN (pv 1) (aN (pv 0) aU))
   ·exact bV (cO cP)
  refine bo ?_ ?_
  ·unfold De;refine me (i:=6) (N:=["k","given","rows"]) (own:=1) (caps:=[5,1]) rfl C9.nd rfl rfl ?_ ?_ ?_ ?_ ?_
   ·exact l5 rfl T.range (aN (bc eK (pv 4) (pv 3)) aU)
   ·exact(show dg C8 (bG vA) ["k","given","rows"] 1 [5,1] _ from .mk' (by decide +kernel))
   ·exact λ_ _ _ _ _=>cG (i:=0) abu rfl (Or.inr rfl)
   ·exact λ_ _ _ _ _=>fj
   ·intro _ _ _ _ _;unfold Io;refine iX (mi K rfl) rfl T.tuple mj ?_;refine aN ?_ aU ?_
    ·refine gW (N:=["row","given","k"]) (own:=1) (caps:=[1,0]) rfl ?_ ?_ ?_ ?_ ?_
     ·exact lE K rfl (pv 2)
     ·exact(dg.mk' (by kernel_rfl))
     ·exact λ_ _ _ _ _=>cG (i:=0) abv rfl (.inl rfl)
     ·exact λ_ _ _ _ _=>fj
     ·exact λ_ _ _ _ _=>bH (cH K rfl) (pv 0) (bc eK (pv 1) (pv 2)) (λ_ _=>rfl)
    ·rfl
  refine bV ?_;refine cO (te:=wI K) ?_;unfold wI;exact cI (aN (pv 2) (aN (pv 3) (aN (pv 4) (aN (iX (mi K rfl) rfl T.tuple mj (aN (pv 6) aU)) aU))))
def Dg(K:Frag)(H:Hp)(v:V)(l s r:Nat)(R:LL):Prop:=(Runs (l+s) R∧∃t,v=.ref t∧lQ K H t l s r (v8 R (l+s) (r+s)))∨(¬Runs (l+s) R∧v=.str "none")
theorem lQ.mono{H H':Hp}{v:Addr}{l s r:Nat}{aV:LL}(h:lQ K H v l s r aV)(e:aO H H'):lQ K H' v l s r aV:=let ⟨c,DS,h1,h2,h3⟩:=h;⟨c,DS,e.bu h1,e.bu h2,bN.mono e h3⟩
theorem lQ.del{H:Hp}{Pt:Addr}{ps:Array Value}{v:Addr}{l s r:Nat}{aV:LL}(hP:H Pt=some (.fg ps))(h:lQ K H v l s r aV):lQ K (S21.del Pt H) v l s r aV:=let ⟨c,DS,h1,h2,h3⟩:=h;⟨c,DS,bh.del hP h1,bh.del hP h2,bN.del hP h3⟩
theorem lQ.dat{v:Addr}{l r:Nat}{aV:LL}(h:lQ K H v l s r aV):fQ K H (.ref v) (.tuple [.int (l:Int),.int (s:Int),.int (r:Int),.tuple (aV.map cy)]):=let ⟨_,_,h1,h2,h3⟩:=h;.tuple h1 (.cons (.int _) (.cons (.int _) (.cons (.int _) (.cons (.tuple h2 h3) .nil))))
theorem P0(a b c:Int)(rs:LL):kqdOk 8 (.tuple [.int a,.int b,.int c,.tuple (rs.map cy)])=true:=by
 show([Dat.int a,.int b,.int c,.tuple (rs.map cy)]).all (kqdOk 7)=true;simp only[List.all_cons,List.all_nil,Bool.and_true];show(true&&(true&&(true&&(rs.map cy).all (kqdOk 6))))=true;rw[KP 5];rfl
theorem P4:kqdOk 8 (.str "none")=true:=by decide +kernel
def Dh(K:Frag)(Pt:Addr):Sp:=λvs H Q _=>∃(a:Addr)(ns:List Int),vs=[.ref a]∧cV K H a (ns.map V.int)∧ns.length≤63∧iH H Pt (lN jb) lP∧∀H',Q (.bl true) H'
noncomputable abbrev P5:List Str:=["script","p","case","words","late","rows","due"]
theorem pQ:c8 ["script","p","case","words","late","rows","due"] ["script"] (bG ow):=dz rfl rfl rfl (by decide +kernel) rfl
def rX(K:Frag)(i j:Nat):TE:=e9 (Im K) [] E0 (aX (aR 1) (aX (aR 5) (aX (cf (jM K) (aR 2) (tC (.int (i:Int)))) (aX (aR 4) (aX (cf (jM K) (aR 2) (tC (.int (j:Int)))) bq)))))
def Iq(K:Frag):TT:=gu (cf nq (wC (mV K 4) 2) (tC (.int 1)))
def Ir:TE:=cf qF (tW "back") (aR 3)
def uC(K:Frag)(Pt:Addr):TE:=cf (pd K false) (e9 (Hh K Pt) [] E0 (aX (aR 1) (aX (aR 3) bq))) (aR 6)
def Di(K:Frag)(Pt:Addr):TS:=bY (cB (e9 (Hj K) [] E0 (aX (aR 0) bq)) (br 1)) (bY (cB (e9 (C2 K) [] E0 (aX (aR 0) (aX (aR 1) bq))) (br 2)) (bY (cB (e9 (C7 K) [] E0 (aX (aR 2) bq)) (br 3)) (bY (cB (e9 (CH K) [] E0 (aX (aR 2) bq)) (br 4)) (bY (cB (rW K 0 2) (br 5)) (bY (cB (rX K 0 1) (br 6)) (bY (eP (Iq K) (bY (cB Ir (br 3)) (bY (cB (rW K 2 0) (br 5)) (cB (rX K 1 0) (br 6)))) gs) (dI (uC K Pt))))))))
open Classical in
theorem P6{aw:Addr}{d:Drw}{vd:V}(h1:σ[1]?=some (some (.int p)))(h3:σ[3]?=some (some (.ref aw)))(h6:σ[6]?=some (some vd))(pp:p∈cW)(hw:H aw=some (.tup d.bj))(hL:iH H Pt (lN jb) lP)
  (hd:d.dU p) (hs:d.sm) (nt:d.bj.length≤900000) (gk:d.aL≤40) (hD:Dg K H vd d.aM d.aL d.aQ (jZ p d)) (q:∀H',Q (.bl true) H'):uC K Pt σ H Q:=by
 obtain⟨ps,hT⟩:=hL.tab;unfold uC;refine⟨_,h1,_,h3,p,aw,d,rfl,pp,hd,hs,nt,gk,hw,hL,λgQ v H1 s1 lH hm=>?_,λgQ H1 s1 lH=>?_⟩
 ·rcases hD with⟨_,t,rfl,ht⟩|⟨hn,_⟩
  ·refine⟨_,h6,_,_,hm.dat,((ht.del hT).mono s1).dat,P0 _ _ _ _,P0 _ _ _ _,?_⟩;rw[ah (by decide),aG rfl];exact q _
  ·exact absurd gQ hn
 ·rcases hD with⟨hn,_⟩|⟨_,rfl⟩
  ·exact absurd hn gQ
  ·refine⟨_,h6,_,_,.str _,.str _,P4,P4,?_⟩;rw[ah (by decide),aG rfl];exact q _
theorem P7{ar:Addr}{l r l' r':Nat}{RS:List V}{rs:LL}(Il:(i=0∧j=1∧l'=l∧r'=r)∨(i=1∧j=0∧l'=r∧r'=l))(h1:σ[1]?=some (some (.int p)))(h2:σ[2]?=some (some (.ref ac)))(h4:σ[4]?=some (some (.int (s:Int))))(h5:σ[5]?=some (some (.ref ar)))(pp:p∈cW)(hC:kr K H ac l r lp ls)
  (ha:H ar=some (.lst RS)) (hA:bN K H RS (rs.map cy)) (hz:rs.length≤1000) (l1:l≤100) (s1:s≤100) (r1:r≤100) (hR:cz p (l'+r'+2*s) rs) (q:∀v H',aO H H'→Dg K H' v l' s r' (dt p rs)→Q v H'):rX K i j σ H Q:=by
 obtain⟨al,LS,c1,_⟩:=hC;unfold rX;rcases Il with⟨rfl,rfl,rfl,rfl⟩|⟨rfl,rfl,rfl,rfl⟩
 ·refine⟨_,h1,_,h5,_,h2,ac,_,0,.int (l':Int),rfl,rfl,c1,cm (j:=0) rfl,_,h4,_,h2,ac,_,1,.int (r':Int),rfl,rfl,c1,cm (j:=1) rfl,p,ar,RS,rs,l',s,r',rfl,pp,ha,hA,hz,l1,s1,r1,hR,λgQ v H' e hm=>q _ H' e (.inl ⟨gQ,v,rfl,hm⟩),λgQ H' e=>q _ H' e (.inr ⟨gQ,rfl⟩)⟩
 ·refine⟨_,h1,_,h5,_,h2,ac,_,1,.int (l':Int),rfl,rfl,c1,cm (j:=1) rfl,_,h4,_,h2,ac,_,0,.int (r':Int),rfl,rfl,c1,cm (j:=0) rfl,p,ar,RS,rs,l',s,r',rfl,pp,ha,hA,hz,r1,s1,l1,hR,λgQ v H' e hm=>q _ H' e (.inl ⟨gQ,v,rfl,hm⟩),λgQ H' e=>q _ H' e (.inr ⟨gQ,rfl⟩)⟩
theorem aby(hS:cV K H a (ns.map V.int))(cJ:ns.length≤63)(hL:iH H Pt (lN jb) lP)(q:∀H',D.rt (.bl true) H'):Di K Pt D [some (.ref a),none,none,none,none,none,none] H:=by
 unfold Di;refine⟨_,rfl,a,ns,rfl,hS,cJ,λp H1 pp s1=>?_⟩;obtain⟨p2,dh⟩:=iD p pp;refine⟨_,rfl,_,rfl,a,ns,p,rfl,s1.seq hS,cJ,p2,dh,λac l r lp ls H2 s2 hC hc=>?_⟩;have C:=PL (by lia) hc;have le:=C.le;have l4:=hc.l4;have r4:=hc.r4;have lb:∀bs∈ls,bs.length≤100:=λbs hb=>by
  obtain⟨_,_,o⟩:=fu.at' hc.mQ bs hb
  have:=o.len
  lia
 refine⟨_,rfl,p,ac,l,r,lp,ls,rfl,hC,hc,λaw H3 s3 hw=>?_⟩;have gk:(fw l r lp ls).aL≤40:=by rw[C.la];lia
 have wl:=abr hc;refine⟨_,rfl,ac,l,r,lp,ls,rfl,hC.mono s3,by have:=hc.len;lia,lb,λH3' Iu=>?_⟩;have P8:=hC.mono (s3.trans Iu);show bY (cB (rW K 0 2) (br 5)) _ D [some (.ref a),some (.int p),some (.ref ac),some (.ref aw),some (.int (c9 ls:Int)),none,none] H3';refine PY _ (.inl ⟨rfl,rfl,rfl⟩) p2 dh rfl rfl P8 hc λlr VS H4 s4 tP hA=>?_;have P9:=P8.mono s4;have U:=aak pp C.ok C.rn C.sm gk;have UB:=aal pp C.ok C.rn C.sm gk;have U2:=U.2;have Qa:=UB.2;rw[C.lf,C.rg,C.la]at U2 Qa;have nr:((List.range (l+c9 ls)).map (mG l (c9 ls) (rV p lp ls))).length≤1000:=by rw[bI,kH];lia
 have nrB:((List.range (l+c9 ls)).map (mH l (c9 ls) (rV p lp ls))).length≤1000:=by rw[bI,kH];lia
 refine P7 (l':=l) (r':=r) (.inl ⟨rfl,rfl,rfl,rfl⟩) rfl rfl rfl rfl pp P9 tP hA nr (by lia) (by lia) (by lia) U2 λvd H5 s5 hd=>?_;have sA:=s1.trans (s2.trans (s3.trans (Iu.trans (s4.trans s5))));have Qb:=(Iu.trans (s4.trans s5)) _ _ hw;unfold Iq mV;refine⟨_,rfl,a,ns,4,rfl,sA.seq hS,cJ,by decide,by decide,λdd d0 d1=>⟨_,_,rfl,rfl,(by show(0:Int)<2;decide),rfl,_,rfl,?_⟩⟩;refine lC (λ_=>?_) (λ_=>?_)
 ·unfold Ir;refine⟨by show 1≤sizeLine;decide,λt ht=>⟨_,rfl,t,aw,_,_,rfl,rfl,aY,aO.upd ht _ _ Qb,?_,λbw' H6 s6 hb=>?_⟩⟩
  ·have:(1000:Nat)≤sizeLine:=by decide
   show 1+_≤sizeLine;lia
  have sB:=(aO.upd (o:=.tup [.str "back"]) ht).trans s6;have Qc:=P9.mono (s5.trans sB);show bY (cB (rW K 2 0) (br 5)) _ _ [some (.ref a),some (.int p),some (.ref ac),some (.ref bw'),some (.int (c9 ls:Int)),some (.ref lr),some vd] H6;refine PY _ (.inr ⟨rfl,rfl,rfl⟩) p2 dh rfl rfl Qc hc λlr' jF H7 s7 abz hA'=>?_;refine P7 (l':=r) (r':=l) (.inr ⟨rfl,rfl,rfl,rfl⟩) rfl rfl rfl rfl pp (Qc.mono s7) abz hA' nrB (by lia) (by lia) (by lia) (by rw[qL r l];exact Qa) λvd' H8 s8 Dy=>?_;have sC:=sA.trans (sB.trans (s7.trans s8));show uC K Pt _ _ _;refine P6 (d:=.back (fw l r lp ls)) rfl rfl rfl pp ((s7.trans s8) _ _ hb) (hL.mono sC) C.ok.wf C.sm ?_ gk ?_ q
  ·show(V.str "back"::_).length≤900000;rw[eW];lia
  ·show Dg K H8 vd' (fw l r lp ls).aQ (fw l r lp ls).aL (fw l r lp ls).aM (dt p (((Drw.back (fw l r lp ls)).dG p (fw l r lp ls).aL 0).map (ia (fw l r lp ls).aQ (fw l r lp ls).aM (fw l r lp ls).aL)));rw[UB.1,C.lf,C.rg,C.la];exact Dy
 ·show uC K Pt _ _ _;refine P6 (d:=fw l r lp ls) rfl rfl rfl pp Qb (hL.mono sA) C.ok.wf C.sm (by lia) gk ?_ q;show Dg K H5 vd (fw l r lp ls).aM (fw l r lp ls).aL (fw l r lp ls).aQ (dt p (((fw l r lp ls).dG p (fw l r lp ls).aL 0).map (ia (fw l r lp ls).aM (fw l r lp ls).aQ (fw l r lp ls).aL)));rw[U.1,C.lf,C.rg,C.la];exact hd
theorem abA{fP fW fC fE fM:Addr}{Qd rG kf Qe iS:FuncData}(F:cD K "law" "law" ow f fd)
  (GP:bz P w K mg base bx 2 fP Qd ["script"] (Hj K)) (kP:Kp K fP) (bP:Binds K Qd ["script"] []) (mP:Mg mg "_law_prime" fP)
  (GL:bz P w K mg base bx 3 fL mv ["script","p"] (C2 K)) (kL:Kp K fL) (bL:Binds K mv ["script","p"] []) (mL:Mg mg "_law_layers" fL)
  (GW:bz P w K mg base bx 2 fW rG ["case"] (C7 K)) (kW:Kp K fW) (bW:Binds K rG ["case"] []) (mW:Mg mg "_law_words" fW)
  (GC:bz P w K mg base bx 1 fC kf ["case"] (CH K)) (kC:Kp K fC) (bC:Binds K kf ["case"] []) (mC:Mg mg "_law_count" fC)
  (GU:bz P w K mg base bx 3 fU qu ["p","case"] (HU K)) (kU:Kp K fU) (bU:Binds K qu ["p","case"] []) (mU:Mg mg "_law_units" fU)
  (GE:bz P w K mg base bx 3 fE Qe ["p","rows","left","late","right"] (Im K)) (kE:Kp K fE) (bE:Binds K Qe ["p","rows","left","late","right"] []) (mE:Mg mg "_law_due" fE)
  (GD:bz P w K mg base bx 1 fD gO ["script","k"] (qx K)) (kD:Kp K fD) (bD:Binds K gO ["script","k"] []) (mD:Mg mg "_law_draw" fD)
  (GM:bz P w K mg base bx 13 fM iS ["p","words"] (Hh K Pt)) (kM:Kp K fM) (bM:Binds K iS ["p","words"] []) (mM:Mg mg "_law_machine" fM) :
  bz P w K mg base bx 14 f fd ["script"] (Dh K Pt):=by
 refine F.ok pQ (λvs H Q E h=>by obtain⟨a,ns,rfl,_⟩:=h;rfl) (λbZ A outer s H vs Q E hr h=>?_);obtain⟨a,ns,rfl,hS,cJ,hL,q⟩:=h;have iR:dv 1 _:=hr.mono (by decide);have Qf:dv 2 _:=hr.mono (by decide);have ua:dv 3 _:=hr.mono (by decide);refine⟨Di K Pt,?_,aby hS cJ hL q⟩;unfold Di;refine bo ?_ ?_
 ·exact cg (i:=1) pQ.nd rfl (.inl rfl) (cQ GP Qf rfl mP kP bP .nil cR (aN (pv 0) aU))
 refine bo ?_ ?_
 ·exact cg (i:=2) pQ.nd rfl (.inl rfl) (cQ GL ua rfl mL kL bL .nil cR (aN (pv 0) (aN (pv 1) aU)))
 refine bo ?_ ?_
 ·exact cg (i:=3) pQ.nd rfl (.inl rfl) (cQ GW Qf rfl mW kW bW .nil cR (aN (pv 2) aU))
 refine bo ?_ ?_
 ·exact cg (i:=4) pQ.nd rfl (.inl rfl) (cQ GC iR rfl mC kC bC .nil cR (aN (pv 2) aU))
 refine bo ?_ ?_
 ·unfold rW;refine me (i:=5) (N:=["left","kept","right","after"]) (own:=4) (caps:=[]) (te:=uB K 0 2) rfl pQ.nd rfl rfl ?_ ?_ ?_ ?_ ?_
  ·unfold zi;exact jo K rfl (cQ GU ua rfl mU kU bU .nil cR (aN (pv 1) (aN (pv 2) aU)))
  ·exact(show dg P5 (bG ow) ["left","kept","right","after"] 4 [] _ from .mk' (by decide +kernel))
  ·exact λ_ _ _ _ _=>qe (n:=4) K rfl rfl (fG (cG (i:=0) n4 rfl (.inl rfl)) (fG (cG (i:=1) n4 rfl (.inl rfl)) (fG (cG (i:=2) n4 rfl (.inl rfl)) (fG (cG (i:=3) n4 rfl (.inl rfl)) p3))))
  ·exact λ_ _ _ _ _=>fj
  ·exact λ_ _ _ _ _=>by
    unfold uB;exact bc (eE K rfl) (bc (eE K rfl) (bc (eE K rfl) (pv 0) (pv 1)) (pv 2)) (pv 3)
 refine bo ?_ ?_
 ·refine cg (i:=6) (te:=rX K 0 1) pQ.nd rfl (.inl rfl) ?_ ?_ ?_
  ·unfold rX;exact cQ GE ua rfl mE kE bE .nil cR (aN (pv 1) (aN (pv 5) (aN (bH (cH K rfl) (pv 2) aW (λ_ _=>rfl)) (aN (pv 4) (aN (bH (cH K rfl) (pv 2) aW (λ_ _=>rfl)) aU)))))
  ·rfl
  ·exact .inl rfl
 refine bo ?_ ?_
 ·refine dR ?_ ?_ e8
  ·unfold Iq;refine df gJ (bc fH ?_ aW) aW (de _);unfold mV;exact cQ GD iR rfl mD kD bD .nil cR (aN (pv 0) (aN aW aU))
  ·refine bo ?_ ?_
   ·exact cg (i:=3) (te:=Ir) pQ.nd rfl (.inl rfl) (bc oK (cI (aN cP aU)) (pv 3))
   refine bo ?_ ?_
   ·unfold rW;refine me (i:=5) (N:=["left","kept","right","after"]) (own:=4) (caps:=[]) (te:=uB K 2 0) rfl pQ.nd rfl rfl ?_ ?_ ?_ ?_ ?_
    ·unfold zi;exact jo K rfl (cQ GU ua rfl mU kU bU .nil cR (aN (pv 1) (aN (pv 2) aU)))
    ·exact(show dg P5 (bG ow) ["left","kept","right","after"] 4 [] _ from .mk' (by decide +kernel))
    ·exact λ_ _ _ _ _=>qe (n:=4) K rfl rfl (fG (cG (i:=0) n4 rfl (.inl rfl)) (fG (cG (i:=1) n4 rfl (.inl rfl)) (fG (cG (i:=2) n4 rfl (.inl rfl)) (fG (cG (i:=3) n4 rfl (.inl rfl)) p3))))
    ·exact λ_ _ _ _ _=>fj
    ·exact λ_ _ _ _ _=>by
      unfold uB;exact bc (eE K rfl) (bc (eE K rfl) (bc (eE K rfl) (pv 2) (pv 1)) (pv 0)) (pv 3)
   refine bV ?_;refine cg (i:=6) (te:=rX K 1 0) pQ.nd rfl (.inl rfl) ?_ ?_ ?_
   ·unfold rX;exact cQ GE ua rfl mE kE bE .nil cR (aN (pv 1) (aN (pv 5) (aN (bH (cH K rfl) (pv 2) aW (λ_ _=>rfl)) (aN (pv 4) (aN (bH (cH K rfl) (pv 2) aW (λ_ _=>rfl)) aU)))))
   ·rfl
   ·exact .inl rfl
 refine bV ?_;refine cO (te:=uC K Pt) ?_;unfold uC;refine DX (Aq K rfl hr.units) ?_ (pv 6) (de _);exact cQ GM hr rfl mM kM bM .nil cR (aN (pv 1) (aN (pv 3) aU))
noncomputable def oR(K:Frag)(x:Str):Addr:=match nsIn K mainGlobals x with
 |some (some (.ref a))=>a
 |_=>0
noncomputable def zj(K:Frag)(x:Str):Bool:=match nsIn K mainGlobals x with
 |some (some (.ref _))=>true
 |_=>false
theorem Iv{K:Frag}(h:zj K x=true):nsIn K mainGlobals x=some (some (.ref (oR K x))):=by
 unfold zj at h;split at h
 case h_2=>cases h
 case h_1 a e=>
  unfold oR;rw[e]
noncomputable def wJ(K:Frag):Bool:=zj K "PARTS"&&zj K "SIDES"&&zj K "BOX_ROWS"&&AK K (oR K "PARTS")&&decide (fV K (oR K "PARTS")=Bm)&&x4 K (oR K "SIDES") (oR K "BOX_ROWS")
section
variable{K:Frag}{h:Heap}{mg:Str→Option Value}
theorem Iw(X:K.In h)(G:h.Ns mainGlobals mg)(e:wJ K=true):Parts K mg (oR K "PARTS"):=by
 simp only[wJ,fo,aI]at e;obtain⟨⟨⟨⟨⟨e1,_⟩,_⟩,e4⟩,e5⟩,_⟩:=e;exact⟨dk X G (Iv e1),λh X=>e5▸Ff X e4⟩
theorem Dj(X:K.In h)(G:h.Ns mainGlobals mg)(e:wJ K=true):mx K mg (oR K "SIDES") (oR K "BOX_ROWS"):=by
 simp only[wJ,fo,aI]at e;obtain⟨⟨⟨⟨⟨_,e2⟩,e3⟩,_⟩,_⟩,e6⟩:=e;exact⟨dk X G (Iv e2),dk X G (Iv e3),e6⟩
end
noncomputable def Iy(K:Frag):Bool:=wJ K&&tZ K (oR K "SIDES")
theorem uD{K:Frag}(e:Iy K=true):wJ K=true:=(fo _ _▸e:_∧_).1
theorem Qg{K:Frag}(e:Iy K=true):tZ K (oR K "SIDES")=true:=(fo _ _▸e:_∧_).2
theorem rY(h:∀a0,bindArgs fd ⟨[a0],[]⟩=pure (ps.zip [a0])):∀(us:List Value),us.length=1→bindArgs fd ⟨us,[]⟩=pure (ps.zip us)
 | [a0],_=>h a0
theorem lU(h:∀a0 a1,bindArgs fd ⟨[a0,a1],[]⟩=pure (ps.zip [a0,a1])):∀(us:List Value),us.length=2→bindArgs fd ⟨us,[]⟩=pure (ps.zip us)
 | [a0,a1],_=>h a0 a1
theorem rZ(h:∀a0 a1 a2,bindArgs fd ⟨[a0,a1,a2],[]⟩=pure (ps.zip [a0,a1,a2])):∀(us:List Value),us.length=3→bindArgs fd ⟨us,[]⟩=pure (ps.zip us)
 | [a0,a1,a2],_=>h a0 a1 a2
theorem uE(h:∀a0 a1 a2 a3,bindArgs fd ⟨[a0,a1,a2,a3],[]⟩=pure (ps.zip [a0,a1,a2,a3])):∀(us:List Value),us.length=4→bindArgs fd ⟨us,[]⟩=pure (ps.zip us)
 | [a0,a1,a2,a3],_=>h a0 a1 a2 a3
theorem Qh(h:∀a0 a1 a2 a3 a4,bindArgs fd ⟨[a0,a1,a2,a3,a4],[]⟩=pure (ps.zip [a0,a1,a2,a3,a4])):∀(us:List Value),us.length=5→bindArgs fd ⟨us,[]⟩=pure (ps.zip us)
 | [a0,a1,a2,a3,a4],_=>h a0 a1 a2 a3 a4
structure FA(K:Frag)(x:Str)(st:Stmt)(f:Addr)(fd:FuncData):Prop where
 a:nsIn K mainGlobals x=some (some (.ref f))
 F:cD K x x st f fd
 k:keepIn K (.ref f)=true
theorem FA.of{K:Frag}{st:Stmt}{od an:Option Addr}{sl:Array (Option Value)}{oc kV dc pm cd ct:Value}(a:nsIn K mainGlobals x=some (some (.ref f)))(l:K.lookup f=some ⟨oc,od,.func (fnOf x x (p8 st) (j7 st) (bG st) .none kV dc pm an cd ct),sl⟩)(c:PySem.W.codeIn K cd x=true)(k:keepIn K (.ref f)=true):FA K x st f (fnOf x x (p8 st) (j7 st) (bG st) .none kV dc pm an cd ct):=⟨a,Ej l c k,k⟩
theorem all_mk{l:PySem.W.OpenLaw}{w:World}{K:Frag}{h:Heap}{mg:Str→Option Value}{fa f1 f2 f3 f4 f5 f6 f7 f8 f9 f10 f11 f12 f13 f14 f15 f16 f17 f18 f19 f20 Iz f22 f23 f24 f25 f26 f27 f28 f29 f30 f31 f32 f33 f34 f35 f36 f37 f38 f39 IA:Addr}(X:K.In h)(G:h.Ns mainGlobals mg)(hfa:mg "law"=some (.ref fa))
  {abB abC abD Qi:Option Addr} {abE abF:Array (Option Value)} {abG abH abI abJ Qj abK abL Qk Ql Qm IC Qn:Value} {d1 d2 d3 d4 d5 d6 d7 d8 d9 d10 d11 Kl d13 d14 d15 d16 d17 d18 d19 d20 d22 d23 d24 d25 d26 d27 d28 d29 d30 d31 d32 d33 d34 d35 d36 d37 d38 d39:FuncData}
  (A1:FA K "turned" xI f1 d1)
  (A2:FA K "added" qh f2 d2)
  (A3:FA K "summed" xJ f3 d3)
  (A4:FA K "ones" AN f4 d4)
  (A5:FA K "columns" AO f5 d5)
  (A6:FA K "reduced" vy f6 d6)
  (A7:FA K "led" AQ f7 d7)
  (A8:FA K "cleared" AR f8 d8)
  (A9:FA K "wires" AS f9 d9)
  (A10:FA K "folded" Fj f10 d10)
  (A11:FA K "all_folded" AU f11 d11)
  (A12:FA K "measured" AV f12 Kl)
  (A13:FA K "measure" vz f13 d13)
  (A14:FA K "joined_sides" Fl f14 d14)
  (A15:FA K "first_unmet" AW f15 d15)
  (A16:FA K "form" Fm f16 d16)
  (A17:FA K "form_of_back" AX f17 d17)
  (A18:FA K "form_of_beside" xK f18 d18)
  (A19:FA K "form_of_then" AY f19 d19)
  (A20:FA K "facing" xM f20 d20)
  (a21:nsIn K mainGlobals "ticks"=some (some (.ref Iz))) (l21:K.lookup Iz=some ⟨abG,abB,.func (fnOf "ticks" "ticks" (p8 js) (j7 js) (bG js) .none abH abI abJ abC Qj abK),abE⟩) (c21:PySem.W.codeIn K Qj "ticks"=true) (k21:keepIn K (.ref Iz)=true)
  (A22:FA K "tick_form" AZ f22 d22)
  (A23:FA K "machine" xN f23 d23)
  (A24:FA K "_law_draw" Fo f24 d24)
  (A25:FA K "_law_prime" Fp f25 d25)
  (A26:FA K "_law_box" Fq f26 d26)
  (A27:FA K "_law_layer" A0 f27 d27)
  (A28:FA K "_law_layers" Ba f28 d28)
  (A29:FA K "_law_beside" Fs f29 d29)
  (A30:FA K "_law_words" Bb f30 d30)
  (A31:FA K "_law_count" Bc f31 d31)
  (A32:FA K "_law_boxes" Ft f32 d32)
  (A33:FA K "_law_tick" xO f33 d33)
  (A34:FA K "_law_unit" Fu f34 d34)
  (A35:FA K "_law_less" Bd f35 d35)
  (A36:FA K "_law_reduced" pq f36 d36)
  (A37:FA K "_law_units" Fv f37 d37)
  (A38:FA K "_law_machine" Fw f38 d38)
  (A39:FA K "_law_due" vA f39 d39)
  (a40:nsIn K mainGlobals "law"=some (some (.ref IA))) (l40:K.lookup IA=some ⟨abL,abD,.func (fnOf "law" "law" (p8 ow) (j7 ow) (bG ow) .none Qk Ql Qm Qi IC Qn),abF⟩) (c40:PySem.W.codeIn K IC "law"=true) (k40:keepIn K (.ref IA)=true)
  (z1:nsIn K mainGlobals "range"=some none) (z2:nsIn K mainGlobals "zip"=some none) (z3:nsIn K mainGlobals "tuple"=some none) (z4:nsIn K mainGlobals "list"=some none) (z5:nsIn K mainGlobals "int"=some none) (z6:nsIn K mainGlobals "bool"=some none) (z7:nsIn K mainGlobals "isinstance"=some none) (z8:nsIn K mainGlobals "len"=some none) (z9:nsIn K mainGlobals "sum"=some none) (z10:nsIn K mainGlobals "max"=some none) (z11:nsIn K mainGlobals "min"=some none) (z12:nsIn K mainGlobals "enumerate"=some none) (z13:nsIn K mainGlobals "any"=some none) (z14:nsIn K mainGlobals "all"=some none) (hs1:(tabIn K "ticks").isSome=true) (hx1:Iy K=true) (hx2:Hg K=true) :
  ∃fd:FuncData,(∀(s:Shared)(v:Value),BindsTo s fd ⟨[v],[]⟩ [("script",v)])∧∀base:Heap,K.In base→base.Ns mainGlobals mg→rf mg base→(∀q∈[nF K "ticks"],CodeHd base q.1 q.2)→bz l.prog w K mg base bx 14 fa fd ["script"] (Dh K (nF K "ticks").2):=by
 have e:=hfa.symm.trans (dk X G a40);cases e;have T:Txt mg:=⟨lW X G z1,lW X G z2,lW X G z3,lW X G z4,lW X G z5,lW X G z6,lW X G z7,lW X G z8,lW X G z9,lW X G z10,lW X G z11,lW X G z12,lW X G z13,lW X G z14⟩;obtain⟨a1,F1,k1⟩:=A1;obtain⟨a2,F2,k2⟩:=A2;obtain⟨a3,F3,k3⟩:=A3;obtain⟨a4,F4,k4⟩:=A4;obtain⟨a5,F5,k5⟩:=A5;obtain⟨a6,F6,k6⟩:=A6;obtain⟨a7,F7,k7⟩:=A7;obtain⟨a8,F8,k8⟩:=A8;obtain⟨a9,F9,k9⟩:=A9;obtain⟨a10,Dk,ID⟩:=A10;obtain⟨a11,Dl,IE⟩:=A11;obtain⟨a12,IF,Qo⟩:=A12;obtain⟨a13,zm,k13⟩:=A13;obtain⟨a14,Qp,k14⟩:=A14;obtain⟨a15,Qq,k15⟩:=A15;obtain⟨a16,Qr,k16⟩:=A16;obtain⟨a17,Qs,k17⟩:=A17;obtain⟨a18,Qt,k18⟩:=A18;obtain⟨a19,Qu,k19⟩:=A19;obtain⟨a20,Qv,k20⟩:=A20;have Qw:=Ej (st:=js) l21 c21 k21;obtain⟨a22,Qx,k22⟩:=A22;obtain⟨a23,Qy,k23⟩:=A23;obtain⟨a24,zo,Dm⟩:=A24;obtain⟨a25,Qz,k25⟩:=A25;obtain⟨a26,QA,k26⟩:=A26;obtain⟨a27,QB,k27⟩:=A27;obtain⟨a28,QC,k28⟩:=A28;obtain⟨a29,QD,k29⟩:=A29;obtain⟨a30,QE,k30⟩:=A30;obtain⟨a31,IG,QF⟩:=A31;obtain⟨a32,QG,k32⟩:=A32;obtain⟨a33,QH,k33⟩:=A33;obtain⟨a34,IH,QI⟩:=A34;obtain⟨a35,QJ,k35⟩:=A35;obtain⟨a36,QK,k36⟩:=A36;obtain⟨a37,QL,k37⟩:=A37;obtain⟨a38,QM,k38⟩:=A38;obtain⟨a39,QN,k39⟩:=A39;have F40:=Ej (st:=ow) l40 c40 k40;have b1:=F1.binds (ps:=["p","number"]) λ_ _ _ _ _ _=>lU λ_ _=>rfl;have m1:=dk X G a1;have b2:=F2.binds (ps:=["p","row","factor","other"]) λ_ _ _ _ _ _=>uE λ_ _ _ _=>rfl;have m2:=dk X G a2;have b3:=F3.binds (ps:=["p","rows","factors","length"]) λ_ _ _ _ _ _=>uE λ_ _ _ _=>rfl;have m3:=dk X G a3;have b4:=F4.binds (ps:=["count"]) λ_ _ _ _ _ _=>rY λ_=>rfl;have m4:=dk X G a4;have b5:=F5.binds (ps:=["rows","length"]) λ_ _ _ _ _ _=>lU λ_ _=>rfl;have m5:=dk X G a5;have b6:=F6.binds (ps:=["p","rows"]) λ_ _ _ _ _ _=>lU λ_ _=>rfl;have m6:=dk X G a6;have b7:=F7.binds (ps:=["p","row","place"]) λ_ _ _ _ _ _=>rZ λ_ _ _=>rfl;have m7:=dk X G a7;have b8:=F8.binds (ps:=["p","row","lead","place"]) λ_ _ _ _ _ _=>uE λ_ _ _ _=>rfl;have m8:=dk X G a8;have b9:=F9.binds (ps:=["words"]) λ_ _ _ _ _ _=>rY λ_=>rfl;have m9:=dk X G a9;have II:=Dk.binds (ps:=["words","made"]) λ_ _ _ _ _ _=>lU λ_ _=>rfl;have IJ:=dk X G a10;have IK:=Dl.binds (ps:=["words","made"]) λ_ _ _ _ _ _=>lU λ_ _=>rfl;have IM:=dk X G a11;have QO:=IF.binds (ps:=["words"]) λ_ _ _ _ _ _=>rY λ_=>rfl;have QP:=dk X G a12;have QQ:=zm.binds (ps:=["place","word","parts"]) λ_ _ _ _ _ _=>rZ λ_ _ _=>rfl;have QR:=dk X G a13;have b14:=Qp.binds (ps:=["word","parts"]) λ_ _ _ _ _ _=>lU λ_ _=>rfl;have m14:=dk X G a14;have b15:=Qq.binds (ps:=["parts"]) λ_ _ _ _ _ _=>rY λ_=>rfl;have m15:=dk X G a15;have b16:=Qr.binds (ps:=["p","word","parts"]) λ_ _ _ _ _ _=>rZ λ_ _ _=>rfl;have m16:=dk X G a16;have b17:=Qs.binds (ps:=["p","one"]) λ_ _ _ _ _ _=>lU λ_ _=>rfl;have m17:=dk X G a17;have b18:=Qt.binds (ps:=["p","one","other"]) λ_ _ _ _ _ _=>rZ λ_ _ _=>rfl;have m18:=dk X G a18;have b19:=Qu.binds (ps:=["p","one","other"]) λ_ _ _ _ _ _=>rZ λ_ _ _=>rfl;have m19:=dk X G a19;have b20:=Qv.binds (ps:=["p","one","other"]) λ_ _ _ _ _ _=>rZ λ_ _ _=>rfl;have m20:=dk X G a20;have b21:=Qw.binds (ps:=["p","words"]) λ_ _ _ _ _ _=>lU λ_ _=>rfl;have m21:=dk X G a21;have b22:=Qx.binds (ps:=["p","words","place","parts"]) λ_ _ _ _ _ _=>uE λ_ _ _ _=>rfl;have m22:=dk X G a22;have b23:=Qy.binds (ps:=["p","words"]) λ_ _ _ _ _ _=>lU λ_ _=>rfl;have m23:=dk X G a23;have Dn:=zo.binds (ps:=["script","k"]) λ_ _ _ _ _ _=>lU λ_ _=>rfl;have Dp:=dk X G a24;have b25:=Qz.binds (ps:=["script"]) λ_ _ _ _ _ _=>rY λ_=>rfl;have m25:=dk X G a25;have b26:=QA.binds (ps:=["draw","p","left"]) λ_ _ _ _ _ _=>rZ λ_ _ _=>rfl;have m26:=dk X G a26;have b27:=QB.binds (ps:=["script","at","p","left"]) λ_ _ _ _ _ _=>uE λ_ _ _ _=>rfl;have m27:=dk X G a27;have b28:=QC.binds (ps:=["script","p"]) λ_ _ _ _ _ _=>lU λ_ _=>rfl;have m28:=dk X G a28;have b29:=QD.binds (ps:=["parts"]) λ_ _ _ _ _ _=>rY λ_=>rfl;have m29:=dk X G a29;have b30:=QE.binds (ps:=["case"]) λ_ _ _ _ _ _=>rY λ_=>rfl;have m30:=dk X G a30;have QS:=IG.binds (ps:=["case"]) λ_ _ _ _ _ _=>rY λ_=>rfl;have QT:=dk X G a31;have b32:=QG.binds (ps:=["p","boxes","given","kept","fresh"]) λ_ _ _ _ _ _=>Qh λ_ _ _ _ _=>rfl;have m32:=dk X G a32;have b33:=QH.binds (ps:=["p","case","asked","kept"]) λ_ _ _ _ _ _=>uE λ_ _ _ _=>rfl;have m33:=dk X G a33;have QU:=IH.binds (ps:=["length","at"]) λ_ _ _ _ _ _=>lU λ_ _=>rfl;have QW:=dk X G a34;have b35:=QJ.binds (ps:=["p","row","head","at"]) λ_ _ _ _ _ _=>uE λ_ _ _ _=>rfl;have m35:=dk X G a35;have b36:=QK.binds (ps:=["p","rows","width"]) λ_ _ _ _ _ _=>rZ λ_ _ _=>rfl;have m36:=dk X G a36;have b37:=QL.binds (ps:=["p","case"]) λ_ _ _ _ _ _=>lU λ_ _=>rfl;have m37:=dk X G a37;have b38:=QM.binds (ps:=["p","words"]) λ_ _ _ _ _ _=>lU λ_ _=>rfl;have m38:=dk X G a38;have b39:=QN.binds (ps:=["p","rows","left","late","right"]) λ_ _ _ _ _ _=>Qh λ_ _ _ _ _=>rfl;have m39:=dk X G a39;exact⟨fnOf "law" "law" (p8 ow) (j7 ow) (bG ow) .none Qk Ql Qm Qi IC Qn,λs v=>.of_eq rfl,λbase _ _ bb cc=>abA F40 (ZD Qz (Cb zo T) Dm Dn Dp) k25 b25 m25 (abf QC T (Cb zo T) Dm Dn Dp (aa9 QB T (Cb zo T) Dm Dn Dp (aas QA) k26 b26 m26) k27 b27 m27) k28 b28 m28 (abj QE (aat QD) k29 b29 m29) k30 b30 m30 (Pa IG T) QF QS QT (aaV QL T (Pa IG T) QF QS QT (NU IH) QI QU QW (aaU QH T (aaE QG T) k32 b32 m32) k33 b33 m33) k37 b37 m37 (abx QN T (ZM QK T (ZH QJ T) k35 b35 m35) k36 b36 m36 (NU IH) QI QU QW) k39 b39 m39 (Cb zo T) Dm Dn Dp (Zx QM T (NP X G hx2) (Zv Qy (NP X G hx2).R (Yq F9 (Yp IF (FY Dk (FQ Dl T (Iw X G (uD hx1))) IE IK IM) ID II IJ (XU zm (Dj X G (uD hx1)) (Qg hx1) (XO Qq) k15 b15 m15 (XT Qp) k14 b14 m14) zm QQ QR) Qo QO QP) k9 b9 m9 (Yi Qw (Vx a21 l21 (LB hs1)) (cc _ dj) bb (FY Dk (FQ Dl T (Iw X G (uD hx1))) IE IK IM) ID II IJ (X7 Qx T (Dj X G (uD hx1)) (Qg hx1) (M4 F4 T) k4 b4 m4 (Xw Qr (Dj X G (uD hx1)) (WQ Qs (Bj F6 T F2 b2 m2 F1 b1 m1 F3 b3 m3 F8 b8 m8 F7 b7 m7) k6 b6 m6) k17 b17 m17 (W7 Qt (Bj F6 T F2 b2 m2 F1 b1 m1 F3 b3 m3 F8 b8 m8 F7 b7 m7) k6 b6 m6) k18 b18 m18 (Xr Qu T (Bj F6 T F2 b2 m2 F1 b1 m1 F3 b3 m3 F8 b8 m8 F7 b7 m7) k6 b6 m6 (Xl Qv T) k20 b20 m20) k19 b19 m19 (WL F9 (WK IF (FY Dk (FQ Dl T (Iw X G (uD hx1))) IE IK IM) ID II IJ (WH zm (Dj X G (uD hx1))) zm QQ QR) Qo QO QP) k9 b9 m9) k16 b16 m16) k22 b22 m22 (Bj F6 T F2 b2 m2 F1 b1 m1 F3 b3 m3 F8 b8 m8 F7 b7 m7) k6 b6 m6) k21 b21 m21 (M4 F4 T) k4 b4 m4 (Yv F5 T) k5 b5 m5) k23 b23 m23) k38 b38 m38⟩
theorem walk{l:PySem.W.OpenLaw}{q:Program}{uZ:List Str}{XP:(Str→Option Value)→Heap→Prop}{YP:World→Heap→Prop}{d:DefRec}{K:Params→Frag}(hn:l.most=some 63)(xo:d.params.defaults=[])
  (hY:∀(w:World)(h:Heap),YP w h→(K w.params).In h) (noT:∀w:World,PySem.W.noTabs (K w.params)=true)
  (hT:∀(w:World){xG:ExcName→Option Value}{lo:List Str}{mg mb:Str→Option Value}{h:Heap},PyProof.Rows.Top q lo xG mg mb h→(K w.params).In h→PySem.W.TabsAt [nF (K w.params) "ticks"] h)
  (F:∀(w:World)(mg:Str→Option Value)(fa:Addr)(h:Heap),(K w.params).In h→h.Ns mainGlobals mg→mg d.name=some (.ref fa)→
   ∃fd:FuncData,(∀(s:Shared)(u:Value),BindsTo s fd ⟨[u],[]⟩ [("script",u)])∧∀base:Heap,(K w.params).In base→base.Ns mainGlobals mg→rf mg base→(∀q∈[nF (K w.params) "ticks"],CodeHd base q.1 q.2)→bz l.prog w (K w.params) mg base bx 14 fa fd ["script"] (Dh (K w.params) (nF (K w.params) "ticks").2)) :
  PySem.W.WalkO q uZ XP YP l.row.toRowW d [] (λf vs=>PySem.call f vs):=
 L2.VJ (n:=63) (k:=14) (x := "script") (tabs:=λw=>[nF (K w.params) "ticks"]) (sp:=λw=>Dh (K w.params) (nF (K w.params) "ticks").2) hn (by decide) xo ⟨rfl,by decide,by decide⟩ hY noT hT F λ_ _ a ns hl hS vt=>⟨a,ns,rfl,hS,hl,.inl (vt _ dj),λ_=>rfl⟩
end S21
structure PySem.W.Fast:Prop where
 (tw17850230749240976942 tw17956211194487647046 tw4872559181151645323 tw11821282412423639146 tw9928566601448988539 tw17596882842761319953 tw3462828154892247675 tw4582199045876841716 tw4199721899722592917 tw4649232941455386797 tw16389429417895758133 tw14284238763538963025 tw2841998897419392307 tw13937180072571889948 tw15790809062613544470 tw1807262812835648941 tw18106090801769618523 tw169648421115889735 tw11389585308956007290 tw4472297031198515754 tw18321513318705680683 tw14571377731155589971 tw2605677410163507381 tw6815470254603593606 tw4968048381225233772 tw6170689963177229267 tw4753792199351997199 tw4411160288413824844 tw14396301099868898938 tw7248549118170371227 tw10276032696200562208 tw16129353283910444470 tw14716462498771935084 tw4808332066455687896 tw906515880322066286 tw2582872731610736676 tw12222664232452547715 tw14928186225720051525 tw15912266305705755276 tw8303557211567425356 tw18226950303600980808 tw9159417789205415683 tw14970469499928964836 tw3367612638391531591 tw14876880256379816667 tw9999799481023239173 tw15614111754868523538 tw1611906971234958420 tw9285285097170552987 tw12501919078822286385 tw12088914473481393994 tw1578656357666560343 tw148450558813976455 tw16542073930482544634 tw2816612911116935501 tw5002978566701008390 tw1198124655282225258 tw7568749803455316877 tw3320908038949899653 tw8845404533694340227 tw15176461261579888166 tw13996403446920911096 tw18294651049330190673 tw3068711348370997266 tw6592580726101423483 tw8255727931449538007 tw1057218403398720191 tw3482547845164486825 tw1138490411752414106 tw15347772524430669511 tw15347842902095470303 tw13545443127321518625 tw17381963698839618413 tw11973643497651548917 tw13105769685481128281 tw13790366351989057256 tw11132130068518713799 tw16653978416605938760 tw7322094896735141555 tw11627965385067439308 tw3708359544656052061 tw6355428973058808813 tw10702282090572447698 tw13510234242732558176 tw1150445763760868461 tw8364792623990263065 tw16983634441778346922 tw938061320208633026 tw2832021808663843773 tw1164618935165209462 tw14304939953820151015 tw2575815018662029708 tw18325818386775741961 tw1751993728308539262 tw18253552431510857692 tw8578230314656971553 tw2782346807879120100 tw17172025125095836294 tw6248267124273084989 tw3915897464776800256:True)
open PySem PySem.W PyProof.Rows
set_option maxRecDepth 100000 in
set_option maxHeartbeats 0 in
theorem PySem.Challenge.cw_bentwires_k62_machine_holds : PySem.Challenge.rw_bentwires_k62_machine.Holds := by
 w_on;o_law;k_head;(case hw=>w_witness2)
 k_fill
 refine S21.walk (l:=PySem.Challenge.rw_bentwires_k62_machine) rfl rfl (fun w h Y=>PySem.W.km_in_of Y) ?noT ?hT ?F
 (case noT=>exact fun w=>by kernel_rfl)
 (case hT=>exact fun w {_ _ _ _ _} T X=>L2.tabs_cons T X rfl (by kernel_rfl) (L2.tabs_nil))
 case F =>
  intro w mg fa h KX G hmg
  refine' S21.all_mk KX G hmg ?_ ?_ ?_ ?_ ?_ ?_ ?_ ?_ ?_ ?_ ?_ ?_ ?_ ?_ ?_ ?_ ?_ ?_ ?_ ?_ ?a21 ?l21 ?c21 ?k21 ?_ ?_ ?_ ?_ ?_ ?_ ?_ ?_ ?_ ?_ ?_ ?_ ?_ ?_ ?_ ?_ ?_ ?_ ?a40 ?l40 ?c40 ?k40 ?z1 ?z2 ?z3 ?z4 ?z5 ?z6 ?z7 ?z8 ?z9 ?z10 ?z11 ?z12 ?z13 ?z14 ?hs1 ?hx1 ?hx2
  (case a21=>k_is)
  (case l21=>k_is)
  (case c21=>k_is)
  (case k21=>k_is)
  (case a40=>k_is)
  (case l40=>k_is)
  (case c40=>k_is)
  (case k40=>k_is)
  (case hs1=>kernel_rfl)
  (case hx1=>kernel_rfl)
  (case hx2=>kernel_rfl)
  any_goals refine' S21.FA.of ?_ ?_ ?_ ?_
  any_goals k_is

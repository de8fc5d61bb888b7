import PyProof.Rows.All
import KE.KTabLook
import KE.KLam
import Wide.All
import OpenK.AllK
import Wide.FinOn
import Lean
import PyProof.EqAt
import PyProof.EqKinds
import PyProof.TupleCall
import PySem.Challenge.RW_bentwires_k41_compared
set_option compiler.extract_closed false
set_option maxHeartbeats 3900000
set_option maxRecDepth 100000
set_option Elab.async false
set_option linter.all false
open PySem.W(Frag keepIn nsIn fnOf kitOne CodeHd tabIn kqdOk Dat)
noncomputable section
abbrev ba:=@List.length_map
abbrev bK:=@List.length_append
abbrev bX:=@Nat.le_refl
abbrev cg:=@List.getElem?_eq_getElem
abbrev cH:=@List.length_take
abbrev cR:=@List.mem_singleton
abbrev cW:=@List.getD_eq_getElem?_getD
abbrev cY:=@List.mem_map
abbrev c7:=@Option.some.inj
abbrev c9:=@List.mem_append
abbrev da:=@List.mem_of_getElem?
abbrev de:=@PySem.W.mg_of
abbrev dq:=@List.length_replicate
abbrev dz:=@List.getElem?_eq_some_iff
abbrev dD:=@PySem.Heap.get?_push_of_some
abbrev dE:=@List.map_append
abbrev dF:=@PySem.Heap.lt_size
abbrev dG:=@List.size_toArray
abbrev dH:=@List.length_drop
abbrev dN:=@List.mem_cons_self
abbrev dP:=@List.mem_cons
abbrev eE:=@List.getElem?_map
abbrev eF:=@Bool.and_eq_true
abbrev eO:=@List.length_cons
abbrev fg:=@Nat.le_trans
abbrev fZ:=@Nat.ne_of_lt
abbrev gp:=@List.mem_cons_of_mem
abbrev gq:=@List.take_add_one
abbrev gy:=@List.getElem?_append_left
abbrev gJ:=@Bool.false_ne_true
abbrev gK:=@PySem.Heap.get?_push_size
abbrev gY:=@List.mem_append_right
abbrev iA:=@Nat.lt_of_lt_of_le
abbrev iB:=@List.append_nil
abbrev iC:=@List.getElem?_append_right
abbrev i9:=@List.append_assoc
abbrev jq:=@Nat.zero_le
abbrev jr:=@Int.emod_nonneg
abbrev js:=@Int.emod_lt_of_pos
abbrev jR:=@PySem.PassesOwn.never
abbrev kj:=@List.map_cons
abbrev kl:=@Int.zero_add
abbrev km:=@List.take_length
abbrev lG:=@List.mem_append_left
abbrev lH:=@List.take_of_length_le
abbrev lI:=@List.getElem?_eq_none
abbrev mz:=@List.mem_iff_getElem
abbrev mE:=@List.eq_of_mem_replicate
abbrev mH:=@PySem.W.mg_none_of
abbrev nP:=@List.getElem_mem
abbrev nQ:=@List.mem_of_mem_take
abbrev oJ:=@List.mem_range
abbrev oK:=@PySem.W.kia_one
abbrev oM:=@PySem.Heap.size_push
abbrev oO:=@List.all_eq_true
abbrev oP:=@List.mem_of_mem_drop
abbrev pS:=@List.mem_filter
abbrev pT:=@PySem.mem_of_lookup
abbrev pU:=@PySem.Heap.SameBut.update
abbrev pV:=@Int.dvd_add
abbrev pW:=@Int.mul_sub
abbrev pX:=@Int.add_zero
abbrev pY:=@PySem.F.plainAttrs_list
abbrev qx:=@List.of_mem_zip
abbrev qy:=@List.replicate_succ
abbrev qz:=@Int.one_mul
abbrev rM:=@Int.mul_comm
abbrev tq:=@List.lookup_cons
abbrev tu:=@List.cons_append
abbrev tD:=@List.length_range
abbrev tE:=@PySem.AutoSeq1.wpAny_loadPart'
abbrev tF:=@Nat.zero_add
abbrev tG:=@List.mem_replicate
abbrev tH:=@PySem.F.slot_list_append
abbrev tI:=@PySem.F.type_list_append
abbrev tJ:=@Int.natCast_add
abbrev uT:=@Nat.lt_irrefl
abbrev uU:=@PySem.Heap.get?_update_self
abbrev uV:=@List.flatten_cons
abbrev uW:=@List.nil_append
abbrev uX:=@List.getElem?_drop
abbrev uY:=@List.map_congr_left
abbrev uZ:=@List.length_take_le
abbrev u9:=@List.reverse_append
abbrev va:=@Nat.le_of_ble_eq_true
abbrev xu:=@List.not_mem_nil
abbrev xv:=@List.map_replicate
abbrev xw:=@List.mem_of_mem_eraseIdx
abbrev AK:=@PyProof.Rows.callWith_type1
abbrev AL:=@Option.isSome_iff_exists
abbrev AM:=@PyProof.Rows.slot_tuple_getitem
abbrev AN:=@Bool.false_eq_true
abbrev AO:=@List.pairwise_cons
abbrev AQ:=@List.mem_map_of_mem
abbrev AR:=@List.filter_append
abbrev AU:=@List.dropLast_concat_getLast
abbrev E8:=@PySem.W.cellsFrom_some
abbrev E9:=@List.getElem?_replicate
abbrev Fb:=@Int.dvd_mul_of_dvd_right
abbrev Fc:=@Classical.byContradiction
abbrev Fd:=@List.filter_cons_of_pos
abbrev LM:=@PySem.F.slot_tuple_iterator_next
abbrev LN:=@Int.mul_le_mul_of_nonneg_left
abbrev LO:=@List.getElem?_concat_length
abbrev ae:=@decide_eq_false
abbrev af:=@if_pos
abbrev ag:=@if_neg
abbrev ah:=@PySem.wpAny_mono
abbrev ai:=@PySem.wpAny_truthy_bool
abbrev aj:=@congrArg
abbrev ak:=@PySem.wpAny_execs_nil
abbrev ao:=@PySem.wpAny_bind
abbrev aq:=@PySem.wpAny_holding
abbrev ar:=@PySem.wpAny_pure
abbrev au:=@PySem.wpAny_newObj_type
abbrev av:=@PySem.wpAny_passesOwn
abbrev ax:=@PySem.wpAny_Call_Name_kw
abbrev ay:=@PySem.wpAny_newFunctionEnv_cells
abbrev az:=@PySem.wpAny_loadPart'
abbrev aA:=@PySem.wpAny_callSpecial?_slot
abbrev aC:=@PySem.wpAny_call_entry
abbrev aD:=@PySem.call_meets
abbrev aE:=@decide_eq_true
abbrev aF:=@PySem.wpAny_ite_false
abbrev aG:=@decide_eq_false_iff_not
abbrev aH:=@decide_eq_true_eq
abbrev aI:=@of_decide_eq_true
abbrev Kp(K:Frag)(f:PySem.Addr):Prop:=keepIn K (.ref f)=true
abbrev Mg(m:PySem.Str→Option PySem.Value)(x:PySem.Str)(f:PySem.Addr):Prop:=m x=some (.ref f)
abbrev QV:=PySem.Value→PySem.Shared→Prop
abbrev LL:=List (List Int)
variable{P:PySem.Program}{w:PySem.World}{K:Frag}{mg:PySem.Str→Option PySem.Value}{base:PySem.Heap}
namespace L2
open PySem PySem.Spec PyProof.Rows
variable{A:Around}{CX:oQ}{D:Ends}{E:QV}{H:Hp}{M:Model}{Q:Unit→Shared→Prop}{X:Cx}{a b:Addr}{body:List Stmt}{c e tg:Expr}{ch fp:List Addr}{f:Value→Value→Sem Value}{g:TG}{h:Heap}{i j n t':Nat}{o:HO}{op:CmpOp}{aJ:List (Addr×Obj)}{ps:List Str}{s:Shared}{t:TE}{tb:TS}{u:Value}{us:List Value}{v:V}{x:Str}{xs:List V}{σ:St}
abbrev Key:=Sum Int Str
noncomputable def vb:Key→Value→Bool
 | .inl k,v=>Value.isInt k v
 | .inr x,v=>Value.isStrOf x v
noncomputable def Ve(w:World):Key→Int
 | .inl k=>hashInt k
 | .inr x=>hashStr w x
theorem qA:∀{k:Key}{v:Value},vb k v=true→(∃i t,k=Sum.inl i∧v=Value.int i t)∨(∃x t,k=Sum.inr x∧v=Value.str x t)
 | .inl i,v,h=>by
  obtain⟨t,e⟩:=Value.isInt_shape (k:=i) (v:=v) h;exact .inl ⟨i,t,rfl,e⟩
 | .inr x,v,h=>by
  obtain⟨t,e⟩:=Value.isStrOf_shape (x:=x) (v:=v) h;exact .inr ⟨x,t,rfl,e⟩
theorem Vf(i:Int)(t:Tok):vb (.inl i) (.int i t)=true:=by simp[vb,Value.isInt]
theorem Vg(x:Str)(t:Tok):vb (.inr x) (.str x t)=true:=by simp[vb,Value.isStrOf]
theorem Vh(a b:Int):decide ((Sum.inl a:Key)=Sum.inl b)=(a==b):=by
 by_cases e:a=b
 ·subst e;simp
 ·have h:¬(Sum.inl a:Key)=Sum.inl b:=λq=>e (Sum.inl.inj q);rw[ae h];exact(beq_eq_false_iff_ne.mpr e).symm
theorem Vi(a b:Str):decide ((Sum.inr a:Key)=Sum.inr b)=decide (a=b):=by
 by_cases e:a=b
 ·subst e;simp
 ·have h:¬(Sum.inr a:Key)=Sum.inr b:=λq=>e (Sum.inr.inj q);rw[ae h,ae e]
theorem Vj(a:Int)(b:Str):decide ((Sum.inl a:Key)=Sum.inr b)=false:=ae (λq=>nomatch q)
theorem Vk(a:Str)(b:Int):decide ((Sum.inr a:Key)=Sum.inl b)=false:=ae (λq=>nomatch q)
noncomputable def jS(prog:Program)(w:World):PySem.KeyKind prog w Key where
 is:=vb
 hash:=Ve w
 inj:=λv a b ha hb=>by
  rcases qA ha with⟨i,t,rfl,rfl⟩|⟨x,t,rfl,rfl⟩
  ·rcases qA hb with⟨j,u,rfl,e⟩|⟨y,u,rfl,e⟩
   ·injection e with e1 _;rw[e1]
   ·exact nomatch e
  ·rcases qA hb with⟨j,u,rfl,e⟩|⟨y,u,rfl,e⟩
   ·exact nomatch e
   ·injection e with e1 _;rw[e1]
 byValue:=λk v h=>by
  rcases qA h with⟨i,t,rfl,rfl⟩|⟨x,t,rfl,rfl⟩<;>rfl
 pyHash:=λhv h=>by
  rcases qA hv with⟨i,t,rfl,rfl⟩|⟨x,t,rfl,rfl⟩
  ·exact wpAny_pyHash_int h
  ·exact wpAny_pyHash_str h
 eqBool:=λhu hv h=>by
  rcases qA hu with⟨i,t,rfl,rfl⟩|⟨x,t,rfl,rfl⟩
  ·rcases qA hv with⟨j,u,rfl,rfl⟩|⟨y,u,rfl,rfl⟩
   ·rw[Vh]at h;exact wpAny_eqBool_int h
   ·rw[Vj]at h;exact SeqAt.EqAt.int_str i t y u _ _ _ _ h
  ·rcases qA hv with⟨j,u,rfl,rfl⟩|⟨y,u,rfl,rfl⟩
   ·rw[Vk]at h;exact SeqAt.EqAt.str_int x t j u _ _ _ _ h
   ·rw[Vi]at h;exact wpAny_eqBool_str h
 «strs»:=λk x t v h=>by
  rcases qA h with⟨i,u,rfl,e⟩|⟨y,u,rfl,e⟩
  ·exact nomatch e
  ·injection e with e1 _;subst e1;cases v<;>rfl
theorem Vl(prog:Program)(w:World)(i:Int)(t:Tok):(jS prog w).is (.inl i) (.int i t)=true:=Vf i t
theorem Vm(prog:Program)(w:World)(x:Str)(t:Tok):(jS prog w).is (.inr x) (.str x t)=true:=Vg x t
inductive V where
 |cm|bl (b:Bool)|int (i:Int)|str (x:Str)|mI (b:Array UInt8)|vc (b:UInt64)|ref (a:Addr)|ty (n:String)
 deriving DecidableEq
def RelV:V→Value→Prop
 | .cm,u=>u=Value.none
 | .bl b,u=>u=Value.bool b
 | .int i,u=>∃t,u=Value.int i t
 | .str x,u=>∃t,u=Value.str x t
 | .mI b,u=>∃t,u=Value.bytes b t
 | .vc b,u=>∃t,u=Value.float b t
 | .ref a,u=>u=Value.ref a
 | .ty n,u=>u=Value.type n
abbrev Vals:List V→List Value→Prop:=Paired RelV
theorem Vals.length{xs:List V}{us:List Value}(r:Vals xs us):xs.length=us.length:=Paired.length r
theorem Vals.get:∀{xs:List V}{us:List Value}{i:Nat}{x:V},Vals xs us→xs[i]?=some x→∃u,us[i]?=some u∧RelV x u
 |_,_,_,_,.nil,e=>by simp at e
 |_,_,0,_,.cons r _,e=>by simp at e;subst e;exact⟨_,rfl,r⟩
 |_,_,i+1,x,.cons _ t,e=>by
  obtain⟨u,h1,h2⟩:=Vals.get (i:=i) (x:=x) t (by simpa using e);exact⟨u,by simpa using h1,h2⟩
theorem Vals.set{x:V}{u:Value}(r:RelV x u):∀{xs:List V}{us:List Value}(i:Nat),Vals xs us→Vals (xs.set i x) (us.set i u)
 |_,_,_,.nil=>.nil
 |_,_,0,.cons _ t=>.cons r t
 |_,_,i+1,.cons q t=>.cons q (Vals.set r i t)
theorem Vals.append:∀{xs ys:List V}{us ws:List Value},Vals xs us→Vals ys ws→Vals (xs++ys) (us++ws)
 |_,_,_,_,.nil,s=>s
 |_,_,_,_,.cons r t,s=>.cons r (Vals.append t s)
theorem Vals.take:∀{xs:List V}{us:List Value}(n:Nat),Vals xs us→Vals (xs.take n) (us.take n)
 |_,_,0,_=>.nil
 |_,_,_+1,.nil=>.nil
 |_,_,n+1,.cons r t=>.cons r (Vals.take n t)
theorem Vals.drop:∀{xs:List V}{us:List Value}(n:Nat),Vals xs us→Vals (xs.drop n) (us.drop n)
 |_,_,0,r=>r
 |_,_,_+1,.nil=>.nil
 |_,_,n+1,.cons _ t=>Vals.drop n t
def oR:Option V→Option Value→Prop
 |some v,some u=>RelV v u
 |none,none=>True
 |_,_=>False
def KV{κ:Type}:List (κ×V)→List (κ×Value)→Prop:=Paired λ(p:κ×V)(q:κ×Value)=>p.1=q.1∧RelV p.2 q.2
noncomputable def kV:Key→V
 | .inl i=>.int i
 | .inr x=>.str x
inductive HO where
 |lst (xs:List V)
 |tup (xs:List V)
 |dK (aU:List (Key×V))|dT (aU:List (List Key×V))
 |set (S:Int→Bool) (n:Nat)
 |ins (C dx:Addr) (fs:List (Str×V))
 |own (x:Addr)
 |xd (fs:List (Str×V))
 |met (f x:Addr)
 |lJ (lo hi:Int)
 |ja (o:Obj) (u:HO)
 |e9 (ps:Array Value)
 |ext (φ:Heap→Prop)
abbrev Hp:=Addr→Option HO
noncomputable def upd(H:Hp)(a:Addr)(o:HO):Hp:=λb=>if b=a then some o else H b
theorem aQ:upd H a o a=some o:=by unfold upd;rw[af rfl]
theorem cy(h:b≠a):upd H a o b=H b:=by unfold upd;rw[ag h]
theorem Vn{u:HO}:upd (upd H a o) a u=upd H a u:=by
 funext b;unfold upd;split<;>rfl
theorem Vo{u:HO}(h:H a=some o)(h':H b=some u)(d:o≠u):a≠b:=by
 intro e;subst e;rw[h]at h';exact d (c7 h')
theorem eQ(h:H a=some o)(h':H b=none):a≠b:=by
 intro e;subst e;rw[h]at h';cases h'
section
variable(P:Program)(w:World)
def ek(H:Hp)(h:Heap)(a:Addr):HO→Prop
 | .lst xs=>xs.length≤sizeLine∧∃(its:List Value)(n:Nat),Vals xs its∧h.get? a=some { cls:=.type "list",data:=.seq its.toArray n }
 | .tup xs=>xs.length≤sizeLine∧∃its:List Value,Vals xs its∧IsTup h a its.toArray
 | .dK aU=>aU.length≤sizeLine∧(a==sysModules)=false∧∃vs,KV aU vs∧h.DictOf (jS P w) a vs
 | .dT aU=>aU.length≤sizeLine∧(a==sysModules)=false∧∃xs:List (List Key×Addr×Value),
   Paired (λ(p:List Key×V)(q:List Key×Addr×Value)=>p.1=q.1∧H q.2.1=some (.tup (p.1.map kV))∧RelV p.2 q.2.2) aU xs∧
   ∃o es ep,h.get? a=some o∧o.ExactDict∧o.data=.dict es ep∧es.toList=xs.map (entryOfKey (tupleKind (jS P w)))∧(xs.map (·.1)).Nodup
 | .set S n=>h.SetOf (intKind P w) a S n
 | .ins C dx fs=>H dx=some (.own a)∧fs.length≤1000∧dx≠a∧h.get? a=some (PySem.W.instObj C dx)∧
   ∃mA,h.Ns1 dx mA∧(∀f,oR (fs.lookup f) (mA f))∧PySem.Within mA (fs.map (·.1))
 | .own _=>∃o,h.get? a=some o
 | .xd fs=>∃mA,h.Ns1 a mA∧∀f,oR (fs.lookup f) (mA f)
 | .lJ lo hi=>∃t u v,h.get? a=some { cls:=.type "range",data:=.fields #[.int lo t,.int hi u,.int 1 v] }
 | .ja o u=>h.get? a=some o∧ek H h a u
 | .e9 ps=>h.get? a=some { cls:=.none,data:=.fields ps }
 | .met f x=>h.get? a=some (PySem.W.methodObj (.ref f) (.ref x))
 | .ext φ=>φ h∧(∃o,h.get? a=some o)∧∀h1 h2:Heap,φ h1→(∀o,h1.get? a=some o→h2.get? a=some o)→φ h2
def dI(H:Hp)(h:Heap):Prop:=∀a o,H a=some o→ek P w H h a o
end
section
variable{P:Program}{w:World}{H H':Hp}{h h':Heap}{a:Addr}{o:HO}
theorem ek.lt(x:ek P w H h a o):a<h.objs.size:=by
 cases o with
 |lst xs=>obtain⟨_,_,_,_,e⟩:=x;exact dF e
 |tup xs=>obtain⟨_,_,_,p⟩:=x;exact p.lt
 |dK aU=>obtain⟨_,_,_,_,o,_,_,e,_⟩:=x;exact dF e
 |dT aU=>obtain⟨_,_,_,_,o,_,_,e,_⟩:=x;exact dF e
 |set S n=>obtain⟨o,_,_,_,e,_⟩:=x;exact dF e
 |ins C dx fs=>obtain⟨_,_,_,e,_⟩:=x;exact dF e
 |own y=>obtain⟨_,e⟩:=x;exact dF e
 |xd fs=>obtain⟨_,⟨_,_,_,e,_⟩,_⟩:=x;exact dF e
 |lJ lo hi=>obtain⟨_,_,_,e⟩:=x;exact dF e
 |ja ob u=>obtain⟨e,_⟩:=x;exact dF e
 |e9 ps=>exact dF (show h.get? a=some _ from x)
 |met f y=>exact dF (show h.get? a=some _ from x)
 |ext φ=>obtain⟨_,⟨_,e⟩,_⟩:=x;exact dF e
theorem Paired.Fe{α β:Type}{F G:α→β→Prop}:∀{l₁:List α}{l₂:List β},Paired F l₁ l₂→(∀a b,F a b→G a b)→Paired G l₁ l₂
 |_,_,.nil,_=>.nil
 |_,_,.cons r t,f=>.cons (f _ _ r) (Paired.Fe t f)
theorem ek.jt(x:ek P w H h a o)(k:∀b u,(b=a∨H b=some (.own a))→h.get? b=some u→h'.get? b=some u)
  (ho:∀b,H b=some (.own a)→H' b=some (.own a)) (ht:∀b xs,H b=some (.tup xs)→H' b=some (.tup xs)):ek P w H' h' a o:=by
 induction o with
 |lst xs=>obtain⟨z,its,n,r,e⟩:=x;exact⟨z,its,n,r,k _ _ (.inl rfl) e⟩
 |tup xs=>obtain⟨z,its,r,ob,e,c⟩:=x;exact⟨z,its,r,ob,k _ _ (.inl rfl) e,c⟩
 |dK aU=>obtain⟨z,y,vs,r,ob,es,ep,e,c⟩:=x;exact⟨z,y,vs,r,ob,es,ep,k _ _ (.inl rfl) e,c⟩
 |dT aU=>
  obtain⟨z,y,xs,r,ob,es,ep,e,c⟩:=x;exact⟨z,y,xs,Paired.Fe r λp q z=>⟨z.1,ht _ _ z.2.1,z.2.2⟩,ob,es,ep,k _ _ (.inl rfl) e,c⟩
 |set S n=>obtain⟨ob,es,ep,t,e,c⟩:=x;exact⟨ob,es,ep,t,k _ _ (.inl rfl) e,c⟩
 |ins C dx fs=>
  obtain⟨d,z,ne,e,mA,⟨od,es,ep,e2,c⟩,r⟩:=x;exact⟨ho _ d,z,ne,k _ _ (.inl rfl) e,mA,⟨od,es,ep,k _ _ (.inr d) e2,c⟩,r⟩
 |own y=>obtain⟨ob,e⟩:=x;exact⟨ob,k _ _ (.inl rfl) e⟩
 |xd fs=>obtain⟨mA,⟨od,es,ep,e,c⟩,r⟩:=x;exact⟨mA,⟨od,es,ep,k _ _ (.inl rfl) e,c⟩,r⟩
 |lJ lo hi=>obtain⟨t,u,v,e⟩:=x;exact⟨t,u,v,k _ _ (.inl rfl) e⟩
 |ja ob u ih=>obtain⟨e,q⟩:=x;exact⟨k _ _ (.inl rfl) e,ih q⟩
 |e9 ps=>
  have e:h.get? a=some { cls:=.none,data:=.fields ps }:=x;show h'.get? a=some { cls:=.none,data:=.fields ps };exact k a _ (.inl rfl) e
 |met f y=>
  have e:h.get? a=some (PySem.W.methodObj (.ref f) (.ref y)):=x;show h'.get? a=some (PySem.W.methodObj (.ref f) (.ref y));exact k a _ (.inl rfl) e
 |ext φ=>obtain⟨p,⟨o,e⟩,st⟩:=x;exact⟨st _ _ p λo q=>k _ _ (.inl rfl) q,⟨o,k _ _ (.inl rfl) e⟩,st⟩
theorem dI.lt(x:dI P w H h)(e:H a=some o):a<h.objs.size:=(x a o e).lt
theorem dI.fresh(x:dI P w H h)(e:h.objs.size≤a):H a=none:=by
 cases q:H a with
 |none=>rfl
 |some u=>exact absurd (iA (x.lt q) e) (uT _)
theorem dI.kept(x:dI P w H h)(k:∀b u,h.get? b=some u→h'.get? b=some u):dI P w H h':=λa o e=>
 (x a o e).jt (λb u _ q=>k b u q) (λ_ q=>q) λ_ _ q=>q
theorem dI.laid(x:dI P w H h)(k:∀b u,h.get? b=some u→h'.get? b=some u)(hp:h.objs.size≤a)(new:ek P w (upd H a o) h' a o):dI P w (upd H a o) h':=λb u e=>by
 have hn:=x.fresh hp;by_cases hb:b=a
 ·subst hb;rw[aQ]at e;cases e;exact new
 ·rw[cy hb]at e;exact(x b u e).jt (λc v _ q=>k c v q) (λc q=>by rw[cy (eQ q hn)];exact q) λc xs q=>by rw[cy (eQ q hn)];exact q
end
def Rd(H:Hp)(a:Addr)(u:HO):Prop:=H a=some u∨∃o,H a=some (.ja o u)
theorem Rd.ok{P:Program}{w:World}{u:HO}(r:Rd H a u)(x:dI P w H h):ek P w H h a u:=by
 rcases r with r|⟨o,r⟩
 ·exact x a u r
 ·obtain⟨_,q⟩:=x a _ r;exact q
def xx:Option HO→Prop
 |some (.lst _)=>True
 |some (.dK _)=>True
 |some (.dT _)=>True
 |some (.set _ _)=>True
 |some (.ins _ _ _)=>True
 |some (.ext _)=>True
 |_=>False
section
variable{P:Program}{w:World}{H:Hp}{h h':Heap}{x e:Addr}{o':HO}
theorem dI.write(ok:dI P w H h)(mu:xx (H x))(he:e=x∨H e=some (.own x))(k:∀b u,b≠e→h.get? b=some u→h'.get? b=some u)(vd:∃u,h'.get? e=some u)
  (new:ek P w (upd H x o') h' x o'):dI P w (upd H x o') h':=λb u q=>by
 have LP:∀c y,H c=some (.own y)→c≠x:=λc y r z=>by subst z;rw[r]at mu;exact mu
 have Vp:∀c xs,H c=some (.tup xs)→c≠x:=λc xs r z=>by subst z;rw[r]at mu;exact mu
 by_cases hb:b=x
 ·subst hb;rw[aQ]at q;cases q;exact new
 ·rw[cy hb]at q;by_cases tK:b=e
  ·have q':H b=some (.own x):=by
    rcases he with z|z
    ·exact absurd (tK.trans z) hb
    ·rw[tK];exact z
   rw[q]at q';cases q';obtain⟨v,hv⟩:=vd;exact⟨v,by rw[tK];exact hv⟩
  ·refine(ok b u q).jt (λc v hc r=>k c v ?_ r) (λc r=>by rw[cy (LP c b r)];exact r) λc xs r=>by rw[cy (Vp c xs r)];exact r
   rcases hc with rfl|hc
   ·exact tK
   ·rintro rfl;rcases he with z|z
    ·exact LP c b hc z
    ·rw[hc]at z;cases z;exact hb rfl
end
structure Un(fs ex:List Addr)(H H':Hp)(h h':Heap):Prop where
 keep:∀b o,h.get? b=some o→H b=none→b ∉ fs→b ∉ ex→h'.get? b=some o
 slot:∀b o,h.get? b=some o→H b=none→b∈fs→b ∉ ex→∃sl,h'.get? b=some { o with slots:=sl }
 free:∀b o,h.get? b=some o→H b=none→b ∉ ex→H' b=none
 there:∀b o,h.get? b=some o→b ∉ ex→∃o',h'.get? b=some o'
 iS:∀b xs,H b=some (.tup xs)→H' b=some (.tup xs)
 iD:∀b o u,H b=some (.ja o u)→H' b=some (.ja o u)
 iT:∀b ps,H b=some (.e9 ps)→∃more,H' b=some (.e9 (ps++more))
section
variable{fs xy ex LQ:List Addr}{H H1 H2:Hp}{h h1 h2 h':Heap}{a x e:Addr}{o:HO}
theorem Un.any(u:Un fs ex H H1 h h1){ob:Obj}(q:h.get? b=some ob)(n:H b=none)(hx:b ∉ ex):∃sl,h1.get? b=some { ob with slots:=sl }:=by
 by_cases hb:b∈fs
 ·exact u.slot b ob q n hb hx
 ·exact⟨ob.slots,u.keep b ob q n hb hx⟩
theorem Un.trans(a:Un fs ex H H1 h h1)(b:Un fs ex H1 H2 h1 h2):Un fs ex H H2 h h2 where
 keep:=λc ob q n hc hx=>b.keep c ob (a.keep c ob q n hc hx) (a.free c ob q n hx) hc hx
 slot:=λc ob q n hc hx=>by
  obtain⟨sl,e1⟩:=a.slot c ob q n hc hx;obtain⟨xA,e2⟩:=b.slot c _ e1 (a.free c ob q n hx) hc hx;exact⟨xA,e2⟩
 free:=λc ob q n hx=>by
  obtain⟨o',e1⟩:=a.there c ob q hx;exact b.free c o' e1 (a.free c ob q n hx) hx
 there:=λc ob q hx=>by
  obtain⟨o',e1⟩:=a.there c ob q hx;exact b.there c o' e1 hx
 iS:=λc xs q=>b.iS c xs (a.iS c xs q)
 iD:=λc ob xs q=>b.iD c ob xs (a.iD c ob xs q)
 iT:=λc ps q=>by
  obtain⟨m1,e1⟩:=a.iT c ps q;obtain⟨m2,e2⟩:=b.iT c _ e1;exact⟨m1++m2,by rw[e2,Array.append_assoc]⟩
theorem Un.kept(k:∀b u,h.get? b=some u→h'.get? b=some u):Un fs ex H H h h':=
 ⟨λb ob q _ _ _=>k b ob q,λb ob q _ _ _=>⟨ob.slots,k b ob q⟩,λ_ _ _ n _=>n,λb ob q _=>⟨ob,k b ob q⟩,λ_ _ q=>q,λ_ _ _ q=>q,λ_ ps q=>⟨#[],by rw[q];simp⟩⟩
theorem Un.refl:Un fs ex H H h h:=Un.kept λ_ _ q=>q
theorem Un.laid(k:∀b u,h.get? b=some u→h'.get? b=some u)(hp:h.objs.size≤a)(hn:H a=none):Un fs ex H (upd H a o) h h' where
 keep:=λb u q _ _ _=>k b u q
 slot:=λb u q _ _ _=>⟨u.slots,k b u q⟩
 free:=λb u q n _=>by rw[cy (fZ (iA (dF q) hp))];exact n
 there:=λb u q _=>⟨u,k b u q⟩
 iS:=λb xs q=>by rw[cy (eQ q hn)];exact q
 iD:=λb u xs q=>by rw[cy (eQ q hn)];exact q
 iT:=λb ps q=>⟨#[],by rw[cy (eQ q hn),q];simp⟩
theorem Un.write(mu:xx (H x))(he:e=x∨H e=some (.own x))(k:∀b u,b≠e→h.get? b=some u→h'.get? b=some u)(vd:∃u,h'.get? e=some u):Un fs ex H (upd H x o) h h':=by
 have hx:∀b,H b=none→b≠x:=λb n z=>by subst z;rw[n]at mu;exact mu
 have hb:∀b,H b=none→b≠e:=λb n z=>by
  subst z;rcases he with r|r
  ·exact hx b n r
  ·rw[n]at r;cases r
 have hm:∀b u,H b=some u→¬xx (some u)→b≠x:=λb u q nm z=>by subst z;rw[q]at mu;exact nm mu
 refine⟨λb u q n _ _=>k b u (hb b n) q,λb u q n _ _=>⟨u.slots,k b u (hb b n) q⟩,λb u q n _=>by rw[cy (hx b n)];exact n,λb u q _=>?_,
  λb xs q=>by rw[cy (hm b _ q λz=>z)];exact q,λb u xs q=>by rw[cy (hm b _ q λz=>z)];exact q,λb ps q=>⟨#[],by rw[cy (hm b _ q λz=>z),q];simp⟩⟩
 by_cases tK:b=e
 ·subst tK;exact vd
 ·exact⟨u,k b u tK q⟩
theorem Un.mono(u:Un fs ex H H1 h h1)(hs:∀b∈fs,b∈xy)(hx:∀b∈ex,b∈LQ):Un xy LQ H H1 h h1:=
 ⟨λb ob q n hb he=>u.keep b ob q n (λz=>hb (hs b z)) λz=>he (hx b z),λ_ _ q n _ he=>u.any q n λz=>he (hx _ z),λb ob q n he=>u.free b ob q n λz=>he (hx b z),λb ob q he=>u.there b ob q λz=>he (hx b z),u.iS,u.iD,u.iT⟩
end
noncomputable def AV(h:Heap)(H:Hp):List Addr:=(List.range h.objs.size).filter λa=>(H a).isSome
noncomputable def oS(h:Heap)(H:Hp):Heap:=PySem.W.hideAll h (AV h H)
theorem Vq(h:Heap)(H:Hp):(oS h H).objs.size=h.objs.size:=PySem.W.hideAll_size _ _
theorem Vr{o:Obj}(e:h.get? b=some o)(n:H b=none):(oS h H).get? b=some o:=
 PySem.W.hideAll_get _ e λhm=>by
  have q:(H b).isSome=true:=(pS.mp hm).2;rw[n]at q;simp at q
theorem Vs{o:Obj}(e:(oS h H).get? b=some o):h.get? b=some o∧H b=none:=by
 have e':h.get? b=some o:=PySem.W.of_hideAll (AV h H) e;refine⟨e',?_⟩;cases q:H b with
 |none=>rfl
 |some x=>
  have hm:b∈AV h H:=pS.mpr ⟨oJ.mpr (dF e'),by simp[q]⟩;have z:(oS h H).get? b=none:=PySem.W.hideAll_none (AV h H) hm;rw[z]at e;cases e
noncomputable def Vt(g h:Heap)(L:Addr):List (Addr×Obj):=(List.range h.objs.size).filterMap λa=>if a=L∨(g.get? a).isSome=true then none else(h.get? a).map λo=>(a,o)
noncomputable def du(g h:Heap)(L d:Addr):List (Addr×Obj):=(Vt g h L).filter λp=>decide (p.1≠d)
structure Mod(K:Frag)(mg:Str→Option Value)(base:Heap):Prop where
 qB:K.In base
 glob:base.Ns mainGlobals mg
 blt:∃mb,base.Ns builtinsNs mb∧∀x:Str,x ≠ "__name__"→mb x=bootBuiltins x
 nolimit:base.NoLimit
structure Cx where
 prog:Program
 w:World
 K:Frag
 mg:Str→Option Value
 base:Heap
 A:Around
 N:List Str
 s₀:Shared
 H₀:Hp
 env:Env
 outer:List Env
 stack:List Env
 ex:List Addr
 fn:Str→Bool
 calm:Bool
 pn:List (Addr×Obj)
 xe:QV
noncomputable def dQ(l:List Env):List Addr:=l.filterMap (·.frame)
noncomputable abbrev Cx.fs(X:Cx):List Addr:=dQ X.outer
def ve(sc:Scope)(x:Str):Prop:=sc.names.lookup x=some .local∨sc.names.lookup x=some .cell∨sc.names.lookup x=some .free
def Loc(sc:Scope)(x:Str):Prop:=sc.names.lookup x=some .local∨sc.names.lookup x=some .cell
def Look(env:Env)(h:Heap)(m:Str→Option Value)(x:Str)(u:Value):Prop:=
 (env.kindOf x=some .local∧m x=some u)∨((env.kindOf x=some .cell∨env.kindOf x=some .free)∧∃c,env.cells.lookup x=some c∧h.IsCell c (some u))
structure Cx.Ok(X:Cx):Prop where
 mod:Mod X.K X.mg X.base
 kind:X.env.scope.kind=.function
 glob:X.env.globals=mainGlobals
 blt:X.env.builtins=builtinsNs
 above:X.s₀.heap.objs.size≤X.env.locals
 inj:∀x y c,X.env.cells.lookup x=some c→X.env.cells.lookup y=some c→x=y
 has:∀x,(X.env.kindOf x=some .cell∨X.env.kindOf x=some .free)→∃c,X.env.cells.lookup x=some c
 xB:∀x c,X.fn x=true→X.env.cells.lookup x=some c→X.s₀.heap.objs.size≤c
 hd:X.calm=true→X.A.handled=none
 frames:X.A.frames=some X.stack
 rN:X.stack=X.outer∨(X.stack=X.env::X.outer∧X.env.frame=some X.env.locals)
 xC:∀b∈X.ex,b≠X.env.locals∧∀x c,X.env.cells.lookup x=some c→c≠b
 bs:∀b o,X.base.get? b=some o→X.s₀.heap.get? b=some o∧X.H₀ b=none
 qC:X.base.objs.size≤X.s₀.heap.objs.size
 xD:∀b o,X.base.get? b=some o→b ∉ X.ex
 vf:∀b∈X.ex,b ∉ X.fs
 mK:X.s₀.heap.FunFrames X.base X.outer
 qD:∀b∈X.fs,X.H₀ b=none
structure Inv(X:Cx)(aJ:List (Addr×Obj))(σ:List (Option V))(H:Hp)(s:Shared):Prop where
 ok:X.Ok
 os:s.os=X.s₀.os
 bare:AllBare s.gens
 base:Un X.fs X.ex X.H₀ H X.s₀.heap s.heap
 loc:∃m,s.heap.Ns X.env.locals m∧∀(i:Nat)(x:Str)(v:V),X.N[i]?=some x→σ[i]?=some (some v)→ve X.env.scope x→∃u,RelV v u∧Look X.env s.heap m x u
 cell:∀x c,X.env.cells.lookup x=some c→∃v,s.heap.IsCell c v
 free:H X.env.locals=none
 nS:∀x c,X.env.cells.lookup x=some c→H c=none
 pin:∀p∈X.pn++aJ,s.heap.get? p.1=some p.2∧H p.1=none∧p.1≠X.env.locals∧p.1 ∉ X.fs∧∀v,p.2.data≠.cell v
 br:dI X.prog X.w H s.heap
 len:σ.length=X.N.length
section
variable{X:Cx}{aJ:List (Addr×Obj)}{σ:List (Option V)}{H H':Hp}{s:Shared}{h':Heap}
theorem Cx.Ok.Vu(ok:X.Ok){o:Obj}(e:X.base.get? b=some o):b ∉ X.fs:=λhb=>by
 have:=(ok.mK.mem hb).1
 rw[e]at this;cases this
theorem Inv.bs(I:Inv X aJ σ H s):∀b o,X.base.get? b=some o→s.heap.get? b=some o∧H b=none:=λb o e=>
 ⟨I.base.keep b o (I.ok.bs b o e).1 (I.ok.bs b o e).2 (I.ok.Vu e) (I.ok.xD b o e),I.base.free b o (I.ok.bs b o e).1 (I.ok.bs b o e).2 (I.ok.xD b o e)⟩
theorem Inv.bk(I:Inv X aJ σ H s):∀b o,X.base.get? b=some o→s.heap.get? b=some o:=λb o e=>(I.bs b o e).1
theorem Inv.mod(I:Inv X aJ σ H s):Mod X.K X.mg X.base:=I.ok.mod
theorem Inv.eR(I:Inv X aJ σ H s):X.K.In s.heap:=I.ok.mod.qB.keeps I.bk
theorem Inv.lt(I:Inv X aJ σ H s):X.env.locals<s.heap.objs.size:=let ⟨_,hn,_⟩:=I.loc;hn.lt
theorem Inv.sz(I:Inv X aJ σ H s):X.s₀.heap.objs.size≤s.heap.objs.size:=fg I.ok.above (Nat.le_of_lt I.lt)
theorem Inv.Vv(I:Inv X aJ σ H s)(h:s.heap.objs.size≤a):a ∉ X.fs:=λhb=>by
 obtain⟨_,o,ho,_⟩:=I.ok.mK.mem hb;exact absurd (iA (dF ho) (fg I.sz h)) (uT _)
theorem Inv.qE(I:Inv X aJ σ H s):∀x c,X.env.cells.lookup x=some c→c≠X.env.locals:=λx c e z=>by
 obtain⟨v,o,ho,hd⟩:=I.cell x c e;obtain⟨m,⟨o',es,ep,qF,AW,_⟩,_⟩:=I.loc;rw[z,qF]at ho;cases ho;rw[AW]at hd;cases hd
theorem Inv.mK(I:Inv X aJ σ H s):s.heap.FunFrames X.base X.outer:=by
 have all:∀(l:List Env),(∀b∈dQ l,b∈X.fs)→X.s₀.heap.FunFrames X.base l→s.heap.FunFrames X.base l:=by
  intro l;induction l with
  |nil=>intro _ _;trivial
  |cons env r ih=>
   intro hs hl;obtain⟨hk,⟨L,o,hf,hn,ho,hd⟩,hr⟩:=hl;have hL:L∈X.fs:=hs L (by unfold dQ;rw[List.filterMap_cons,hf];exact dN);obtain⟨sl,e⟩:=I.base.slot L o ho (I.ok.qD L hL) hL λz=>I.ok.vf L z hL;exact⟨hk,⟨L,_,hf,hn,e,hd⟩,ih (λb hb=>hs b (by unfold dQ;rw[List.filterMap_cons,hf];exact gp _ hb)) hr⟩
 exact all X.outer (λ_ hb=>hb) I.ok.mK
theorem Inv.stack(I:Inv X aJ σ H s):s.heap.FunFrames X.base X.stack:=by
 rcases I.ok.rN with e|⟨e,hf⟩
 ·rw[e];exact I.mK
 ·rw[e];obtain⟨m,hn,_⟩:=I.loc;refine .cons (by rw[I.ok.kind];decide) hf hn ?_ I.mK;exact Heap.get?_none_of_le (fg I.ok.qC I.ok.above)
theorem Inv.Ff(I:Inv X aJ σ H s):∀b∈dQ X.stack,b∈X.env.locals::X.fs:=λb hb=>by
 rcases I.ok.rN with e|⟨e,hf⟩
 ·rw[e]at hb;exact gp _ hb
 ·rw[e]at hb;unfold dQ at hb;rw[List.filterMap_cons,hf]at hb;exact hb
theorem Inv.AX(I:Inv X aJ σ H s):∀b∈dQ X.stack,H b=none:=λb hb=>by
 rcases dP.mp (I.Ff b hb)with e|hb
 ·rw[e];exact I.free
 ·obtain⟨_,o,ho,_⟩:=I.ok.mK.mem hb;exact I.base.free b o ho (I.ok.qD b hb) λz=>I.ok.vf b z hb
theorem Inv.step{g':Array GenState}{d':Drawn}(I:Inv X aJ σ H s)
  (pZ:∀b∈ch,(b∈X.ex∨X.s₀.heap.objs.size≤b)∧b≠X.env.locals∧(∀x c,X.env.cells.lookup x=some c→c≠b)∧∀p∈X.pn++aJ,p.1≠b)
  (keep:∀b o,b≠X.env.locals→b ∉ X.fs→b ∉ ch→s.heap.get? b=some o→H b=none→h'.get? b=some o)
  (slot:∀b o,b≠X.env.locals→b∈X.fs→b ∉ ch→s.heap.get? b=some o→H b=none→∃sl,h'.get? b=some { o with slots:=sl }) (free:∀b o,b ∉ ch→s.heap.get? b=some o→H b=none→H' b=none)
  (there:∀b o,b ∉ ch→s.heap.get? b=some o→∃o',h'.get? b=some o')
  (iS:∀b xs,H b=some (.tup xs)→H' b=some (.tup xs)) (iD:∀b o u,H b=some (.ja o u)→H' b=some (.ja o u)) (iT:∀b ps,H b=some (.e9 ps)→∃more,H' b=some (.e9 (ps++more)))
  (ns:∀m,s.heap.Ns X.env.locals m→h'.Ns X.env.locals m) (br:dI X.prog X.w H' h') (hg:AllBare g') :
  Inv X aJ σ H' { s with heap:=h',gens:=g',drawn:=d',toks:=t' }:=by
 have LU:∀b o,X.s₀.heap.get? b=some o→b≠X.env.locals:=λb o e=>fZ (iA (dF e) I.ok.above);have AY:∀b o,X.s₀.heap.get? b=some o→b ∉ X.ex→b ∉ ch:=λb o e hx hb=>by
  rcases(pZ b hb).1 with z|z
  ·exact hx z
  ·exact absurd (iA (dF e) z) (uT _)
 have LV:∀x c,X.env.cells.lookup x=some c→∀v,s.heap.IsCell c v→h'.IsCell c v:=λx c e v ⟨o,ho,hd⟩=>by
  have xE:c ∉ ch:=λz=>(pZ c z).2.2.1 x c e rfl;by_cases hc:c∈X.fs
  ·obtain⟨sl,q⟩:=slot c o (I.qE x c e) hc xE ho (I.nS x c e);exact⟨_,q,hd⟩
  ·exact⟨o,keep c o (I.qE x c e) hc xE ho (I.nS x c e),hd⟩
 refine⟨I.ok,I.os,hg,⟨λb o e n hb hx=>?_,λb o e n hb hx=>?_,λb o e n hx=>?_,λb o e hx=>?_,λb xs e=>iS b xs (I.base.iS b xs e),λb o xs e=>iD b o xs (I.base.iD b o xs e),λb ps e=>?_⟩,?_,λx c e=>?_,?_,λx c e=>?_,λp hp=>?_,br,I.len⟩
 ·exact keep b o (LU b o e) hb (AY b o e hx) (I.base.keep b o e n hb hx) (I.base.free b o e n hx)
 ·obtain⟨sl,e1⟩:=I.base.slot b o e n hb hx;obtain⟨xA,e2⟩:=slot b _ (LU b o e) hb (AY b o e hx) e1 (I.base.free b o e n hx);exact⟨xA,e2⟩
 ·obtain⟨o',e1⟩:=I.base.there b o e hx;exact free b o' (AY b o e hx) e1 (I.base.free b o e n hx)
 ·obtain⟨o',e1⟩:=I.base.there b o e hx;exact there b o' (AY b o e hx) e1
 ·obtain⟨m1,e1⟩:=I.base.iT b ps e;obtain⟨m2,e2⟩:=iT b _ e1;exact⟨m1++m2,by rw[e2,Array.append_assoc]⟩
 ·obtain⟨m,hn,hl⟩:=I.loc;refine⟨m,ns m hn,λi x v e1 e2 e3=>?_⟩;obtain⟨u,r,l⟩:=hl i x v e1 e2 e3;refine⟨u,r,?_⟩;rcases l with l|⟨k,c,e,z⟩
  ·exact .inl l
  ·exact .inr ⟨k,c,e,LV x c e _ z⟩
 ·obtain⟨v,z⟩:=I.cell x c e;exact⟨v,LV x c e v z⟩
 ·obtain⟨m,⟨o,_,_,ho,_⟩,_⟩:=I.loc;exact free _ o (λz=>(pZ _ z).2.1 rfl) ho I.free
 ·obtain⟨v,o,ho,hd⟩:=I.cell x c e;exact free c o (λz=>(pZ c z).2.2.1 x c e rfl) ho (I.nS x c e)
 ·obtain⟨e,n,ne,nf,d⟩:=I.pin p hp;have xE:p.1 ∉ ch:=λz=>(pZ p.1 z).2.2.2 p hp rfl;exact⟨keep p.1 p.2 ne nf xE e n,free p.1 p.2 xE e n,ne,nf,d⟩
theorem Inv.un(I:Inv X aJ σ H s)(u:Un X.fs [] H H' s.heap h')(br:dI X.prog X.w H' h'):Inv X aJ σ H' { s with heap:=h',toks:=t' }:=by
 obtain⟨m,⟨o,es,ep,ho,r⟩,_⟩:=id I.loc;obtain⟨sl,hL⟩:=u.any ho I.free (by simp);exact I.step (g':=s.gens) (d':=s.drawn) (ch:=[]) (λ_ z=>nomatch z) (λb o _ hb _ e n=>u.keep b o e n hb (by simp)) (λb o _ hb _ e n=>u.slot b o e n hb (by simp)) (λb o _ e n=>u.free b o e n (by simp)) (λb o _ e=>u.there b o e (by simp)) u.iS u.iD u.iT (λm' hm=>by
  obtain⟨o',es',Fg,qF,r'⟩:=hm;rw[ho]at qF;cases qF;exact⟨_,es',Fg,hL,r'⟩) br I.bare
theorem Inv.call{g':Array GenState}{d':Drawn}(I:Inv X aJ σ H s)(u:Un (dQ X.stack) ch H H' s.heap h')(br:dI X.prog X.w H' h')(hg:AllBare g')
  (pZ:∀b∈ch,(b∈X.ex∨X.s₀.heap.objs.size≤b)∧b≠X.env.locals∧(∀x c,X.env.cells.lookup x=some c→c≠b)∧∀p∈X.pn++aJ,p.1≠b) :
  Inv X aJ σ H' { s with heap:=h',gens:=g',drawn:=d',toks:=t' }:=by
 obtain⟨m,⟨o,es,ep,ho,r⟩,_⟩:=id I.loc;obtain⟨sl,hL⟩:=u.any ho I.free λz=>(pZ _ z).2.1 rfl;exact I.step (ch:=ch) pZ (λb o hL hb hc e n=>u.keep b o e n (λz=>(dP.mp (I.Ff b z)).elim hL hb) hc) (λb o _ _ hc e n=>u.any e n hc) (λb o hc e n=>u.free b o e n hc) (λb o hc e=>u.there b o e hc) u.iS u.iD u.iT (λm' hm=>by
  obtain⟨o',es',Fg,qF,r'⟩:=hm;rw[ho]at qF;cases qF;exact⟨_,es',Fg,hL,r'⟩) br hg
theorem Inv.turned{it:Addr}(I:Inv X aJ σ H s)(k:∀b o,b≠it→s.heap.get? b=some o→h'.get? b=some o)(hn:H it=none)(hL:it≠X.env.locals)
  (h1:it∈X.ex∨X.s₀.heap.objs.size≤it) (h2:∀x c,X.env.cells.lookup x=some c→c≠it) (h3:∀p∈X.pn++aJ,p.1≠it):Inv X aJ σ H { s with heap:=h',toks:=t' }:=by
 have xF:∀b u,H b=some u→b≠it:=λb u e z=>by rw[z,hn]at e;cases e
 refine I.step (g':=s.gens) (d':=s.drawn) (ch:=[it]) (λb hb=>?_) (λb o _ _ hc e _=>k b o (λz=>hc (by simp[z])) e) (λb o _ _ hc e _=>⟨o.slots,k b o (λz=>hc (by simp[z])) e⟩) (λ_ _ _ _ n=>n)
  (λb o hc e=>⟨o,k b o (λz=>hc (by simp[z])) e⟩) (λ_ _ e=>e) (λ_ _ _ e=>e) (λb ps e=>⟨#[],by rw[e];simp⟩) (λm hm=>?_) (λb u e=>?_) I.bare
 ·have e:b=it:=by simpa using hb
  subst e;exact⟨h1,hL,h2,h3⟩
 ·obtain⟨o,es,ep,ho,r⟩:=hm;exact⟨o,es,ep,k _ o (Ne.symm hL) ho,r⟩
 ·refine(I.br b u e).jt (λc v hc q=>k c v ?_ q) (λ_ q=>q) λ_ _ q=>q;rcases hc with z|z
  ·rw[z];exact xF b u e
  ·exact xF c _ z
theorem Inv.tok(I:Inv X aJ σ H s)(t:Nat):Inv X aJ σ H { s with toks:=t }:=I.un (h':=s.heap) (t':=t) Un.refl I.br
theorem Inv.kept{t':Nat}(I:Inv X aJ σ H s)(k:∀b u,s.heap.get? b=some u→h'.get? b=some u):Inv X aJ σ H { s with heap:=h',toks:=t' }:=I.un (Un.kept k) (I.br.kept k)
theorem Inv.laid{a:Addr}{o:HO}{t':Nat}(I:Inv X aJ σ H s)(k:∀b u,s.heap.get? b=some u→h'.get? b=some u)(hp:s.heap.objs.size≤a)(new:ek X.prog X.w (upd H a o) h' a o) :
  Inv X aJ σ (upd H a o) { s with heap:=h',toks:=t' }:=I.un (Un.laid k hp (I.br.fresh hp)) (I.br.laid k hp new)
theorem Inv.write{x e:Addr}{o:HO}{t':Nat}(I:Inv X aJ σ H s)(mu:xx (H x))(he:e=x∨H e=some (.own x))(k:∀b u,b≠e→s.heap.get? b=some u→h'.get? b=some u)(vd:∃u,h'.get? e=some u)
  (new:ek X.prog X.w (upd H x o) h' x o):Inv X aJ σ (upd H x o) { s with heap:=h',toks:=t' }:=I.un (Un.write mu he k vd) (I.br.write mu he k vd new)
theorem Inv.AZ{LW:List (Addr×Obj)}(I:Inv X aJ σ H s)(h:∀p∈LW,s.heap.get? p.1=some p.2∧H p.1=none∧p.1≠X.env.locals∧p.1 ∉ X.fs∧∀v,p.2.data≠.cell v):Inv X LW σ H s:=
 ⟨I.ok,I.os,I.bare,I.base,I.loc,I.cell,I.free,I.nS,λp hp=>(c9.mp hp).elim (λz=>I.pin p (lG _ z)) (h p),I.br,I.len⟩
theorem Fh{N:List Str}(hN:N.Nodup)(a:N[i]?=some x)(b:N[j]?=some x):i=j:=by
 obtain⟨h1,e1⟩:=dz.mp a;obtain⟨h2,e2⟩:=dz.mp b;exact(List.getElem_inj hN).mp (e1.trans e2.symm)
theorem LX(I:Inv X aJ σ H s)(hN:X.N.Nodup)(hi:X.N[i]?=some x)(hx:Loc X.env.scope x)(r:RelV v u)
  (h:∀s',Inv X aJ (σ.set i (some v)) H s'→(∃a,Heap.SameBut a s.heap s'.heap∧(a=X.env.locals∨X.env.cells.lookup x=some a))→Q () s') (hf:X.fn x=true∨X.env.scope.names.lookup x=some .local:=by first|exact .inl rfl|exact .inr rfl|assumption):wpAny M A (storeName X.env x u) Q E s:=by
 obtain⟨m,hn,hl⟩:=id I.loc;have Fi:(X.env.scope.kind == .class||(X.env.scope.kind == .module&&X.env.locals != X.env.globals))=false:=by rw[I.ok.kind];rfl
 have LY:i<σ.length:=by rw[I.len];exact(dz.mp hi).1
 have qE:=I.qE;have LZ:∀{a:Addr}{h':Heap},(∃o,s.heap.get? a=some o∧H a=none)→Heap.SameBut a s.heap h'→dI X.prog X.w H h':=λ{a h'} ha hs b ob e=>by
  obtain⟨_,_,L0⟩:=ha;refine(I.br b ob e).jt (λc w' hc q=>(hs.2 c ?_).trans q) (λ_ q=>q) λ_ _ q=>q;rintro rfl;rcases hc with rfl|hc
  ·rw[L0]at e;cases e
  ·rw[L0]at hc;cases hc
 rcases hx with hk|hk
 ·refine wpAny_storeName_local hk hn (λh' xG hs=>?_) Fi;obtain⟨oL,_,_,L1,_⟩:=id hn;refine h _ ⟨I.ok,I.os,I.bare,⟨λb o e n hb hx=>?_,λb o e n hb hx=>?_,I.base.free,λb o e hx=>?_,I.base.iS,I.base.iD,I.base.iT⟩,⟨_,xG,λj y v' e1 e2 e3=>?_⟩,λy c e=>?_,I.free,I.nS,λp hp=>?_,LZ ⟨oL,L1,I.free⟩ hs,by simpa using I.len⟩ ⟨_,hs,.inl rfl⟩
  ·exact(hs.2 b (fZ (iA (dF e) I.ok.above))).trans (I.base.keep b o e n hb hx)
  ·obtain⟨sl,e1⟩:=I.base.slot b o e n hb hx;exact⟨sl,(hs.2 b (fZ (iA (dF e) I.ok.above))).trans e1⟩
  ·obtain⟨o',e1⟩:=I.base.there b o e hx;exact⟨o',(hs.2 b (fZ (iA (dF e) I.ok.above))).trans e1⟩
  ·by_cases hj:j=i
   ·subst hj;rw[hi]at e1;cases e1;rw[List.getElem?_set_self LY]at e2;cases e2;exact⟨u,r,.inl ⟨hk,by simp⟩⟩
   ·rw[List.getElem?_set_ne (Ne.symm hj)]at e2;obtain⟨u',r',q⟩:=hl j y v' e1 e2 e3;refine⟨u',r',?_⟩;rcases q with⟨k,e⟩|⟨k,c,e,z⟩
    ·refine .inl ⟨k,?_⟩
     have:y≠x:=λe=>hj (Fh hN e1 (e▸hi))
     simp[this,e]
    ·exact .inr ⟨k,c,e,z.sameBut hs (qE y c e)⟩
  ·obtain⟨w',z⟩:=I.cell y c e;exact⟨w',z.sameBut hs (qE y c e)⟩
  ·obtain⟨e,n,ne,nf,d⟩:=I.pin p hp;exact⟨(hs.2 p.1 ne).trans e,n,ne,nf,d⟩
 ·have xH:X.fn x=true:=by
   rcases hf with z|z
   ·exact z
   ·rw[z]at hk;cases hk
  obtain⟨c,hc⟩:=I.ok.has x (.inl hk);obtain⟨w',z⟩:=I.cell x c hc;refine wpAny_storeName_cell I.ok.kind hk hc z (λh' gZ hs=>?_);obtain⟨oc,L4,Vw⟩:=id z;refine h { s with heap:=h' } ⟨I.ok,I.os,I.bare,⟨λb o e n hb hx=>?_,λb o e n hb hx=>?_,I.base.free,λb o e hx=>?_,I.base.iS,I.base.iD,I.base.iT⟩,⟨m,hn.sameBut hs (Ne.symm (qE x c hc)),λj y v' e1 e2 e3=>?_⟩,λy c' e=>?_,I.free,I.nS,λp hp=>?_,LZ ⟨oc,L4,I.nS x c hc⟩ hs,by simpa using I.len⟩ ⟨c,hs,.inr hc⟩
  ·exact(hs.2 b (fZ (iA (dF e) (I.ok.xB x c xH hc)))).trans (I.base.keep b o e n hb hx)
  ·obtain⟨sl,e1⟩:=I.base.slot b o e n hb hx;exact⟨sl,(hs.2 b (fZ (iA (dF e) (I.ok.xB x c xH hc)))).trans e1⟩
  ·obtain⟨o',e1⟩:=I.base.there b o e hx;exact⟨o',(hs.2 b (fZ (iA (dF e) (I.ok.xB x c xH hc)))).trans e1⟩
  ·by_cases hj:j=i
   ·subst hj;rw[hi]at e1;cases e1;rw[List.getElem?_set_self LY]at e2;cases e2;exact⟨u,r,.inr ⟨.inl hk,c,hc,gZ⟩⟩
   ·rw[List.getElem?_set_ne (Ne.symm hj)]at e2;obtain⟨u',r',q⟩:=hl j y v' e1 e2 e3;refine⟨u',r',?_⟩;rcases q with q|⟨k,c',e,z'⟩
    ·exact .inl q
    ·refine .inr ⟨k,c',e,z'.sameBut hs ?_⟩;rintro rfl;exact hj (Fh hN e1 (I.ok.inj _ _ _ e hc▸hi))
  ·by_cases A0:c'=c
   ·subst A0;exact⟨_,gZ⟩
   ·obtain⟨w2,z2⟩:=I.cell y c' e;exact⟨w2,z2.sameBut hs A0⟩
  ·obtain⟨e,n,ne,nf,d⟩:=I.pin p hp;refine⟨(hs.2 p.1 ?_).trans e,n,ne,nf,d⟩;intro q;rw[q,L4]at e;have q':oc=p.2:=c7 e;exact d w' (by rw[← q'];exact Vw)
theorem vg(I:Inv X aJ σ H s)(hN:X.N.Nodup)(hi:X.N[i]?=some x)(hx:Loc X.env.scope x)(r:RelV v u)
  (h:∀s',Inv X aJ (σ.set i (some v)) H s'→Q () s') (hf:X.fn x=true∨X.env.scope.names.lookup x=some .local:=by first|exact .inl rfl|exact .inr rfl|assumption):wpAny M A (storeName X.env x u) Q E s:=
 LX I hN hi hx r (λs' I' _=>h s' I') hf
theorem Inv.Fj{s':Shared}(I:Inv X aJ σ H s)(ho:s'.os=s.os)(u:Un (dQ X.stack) ch H H' s.heap s'.heap)(br:dI X.prog X.w H' s'.heap)(hg:AllBare s'.gens)
  (pZ:∀b∈ch,(b∈X.ex∨X.s₀.heap.objs.size≤b)∧b≠X.env.locals∧(∀x c,X.env.cells.lookup x=some c→c≠b)∧∀p∈X.pn++aJ,p.1≠b):Inv X aJ σ H' s':=by
 obtain⟨h',g',d',t',o'⟩:=s';have e:o'=s.os:=ho;subst e;exact I.call (g':=g') (t':=t') (d':=d') u br hg pZ
end
abbrev XK:=Value→Option Addr→Hp→Prop
abbrev St:=List (Option V)
abbrev VK:=V→Hp→Prop
abbrev TE:=St→Hp→VK→Prop
abbrev TT:=St→Hp→(Bool→Hp→Prop)→Prop
abbrev TA:=St→Hp→(List V→Hp→Prop)→Prop
structure Ends where
 nx:St→Hp→Prop
 rt:VK
 bk:St→Hp→Prop:=λ_ _=>False
 ct:St→Hp→Prop:=λ_ _=>False
abbrev TS:=Ends→St→Hp→Prop
def EP(X:Cx)(aJ:List (Addr×Obj))(σ:St)(Q:VK)(u:Value)(s':Shared):Prop:=∃v H',Inv X aJ σ H' s'∧RelV v u∧Q v H'
def TP(X:Cx)(aJ:List (Addr×Obj))(σ:St)(Q:Bool→Hp→Prop)(b:Bool)(s':Shared):Prop:=∃H',Inv X aJ σ H' s'∧Q b H'
def AP(X:Cx)(aJ:List (Addr×Obj))(σ:St)(Q:List V→Hp→Prop)(us:List Value)(s':Shared):Prop:=∃vs H',Inv X aJ σ H' s'∧Vals vs us∧Q vs H'
def SP(X:Cx)(aJ:List (Addr×Obj))(D:Ends)(f:Flow)(s':Shared):Prop:=
 match f with
 | .next=>∃σ' H',Inv X aJ σ' H' s'∧D.nx σ' H'
 | .brk=>∃σ' H',Inv X aJ σ' H' s'∧D.bk σ' H'
 | .cont=>∃σ' H',Inv X aJ σ' H' s'∧D.ct σ' H'
 | .ret u=>∃v σ' H',Inv X aJ σ' H' s'∧RelV v u∧D.rt v H'
def PE(X:Cx)(e:Expr)(t:TE):Prop:=
 ∀(aJ:List (Addr×Obj))(s:Shared)(σ:St)(H:Hp)(Q:VK),Inv X aJ σ H s→t σ H Q→wpAny (model X.prog X.w) X.A (eval e X.env) (EP X aJ σ Q) X.xe s
def PT(X:Cx)(e:Expr)(t:TT):Prop:=
 ∀(aJ:List (Addr×Obj))(s:Shared)(σ:St)(H:Hp)(Q:Bool→Hp→Prop),Inv X aJ σ H s→t σ H Q→wpAny (model X.prog X.w) X.A (isTrue e X.env (eval e X.env)) (TP X aJ σ Q) X.xe s
def PW(X:Cx)(e:Expr)(t:TT):Prop:=
 ∀(qG:Sem Value)(aJ:List (Addr×Obj))(s:Shared)(σ:St)(H:Hp)(Q:Bool→Hp→Prop),Inv X aJ σ H s→t σ H Q→wpAny (model X.prog X.w) X.A (isTrue e X.env qG) (TP X aJ σ Q) X.xe s
theorem PW.pt{t:TT}(h:PW X e t):PT X e t:=h _
def PA(X:Cx)(es:List Expr)(t:TA):Prop:=
 ∀(pos:Pos)(aJ:List (Addr×Obj))(s:Shared)(σ:St)(H:Hp)(Q:List V→Hp→Prop),Inv X aJ σ H s→t σ H Q→wpAny (model X.prog X.w) X.A (spliced (backTo pos (starEach es X.env))) (AP X aJ σ Q) X.xe s
def PS(X:Cx)(st:Stmt)(t:TS):Prop:=
 ∀(aJ:List (Addr×Obj))(s:Shared)(σ:St)(H:Hp)(D:Ends),Inv X aJ σ H s→t D σ H→wpAny (model X.prog X.w) X.A (exec st X.env) (SP X aJ D) X.xe s
def jb(X:Cx)(st:List Stmt)(t:TS):Prop:=
 ∀(aJ:List (Addr×Obj))(s:Shared)(σ:St)(H:Hp)(D:Ends),Inv X aJ σ H s→t D σ H→wpAny (model X.prog X.w) X.A (execs st X.env) (SP X aJ D) X.xe s
theorem aZ{α:Type}{t:Sem α}{Q Q':α→Shared→Prop}(h:wpAny M A t Q E s)(hQ:∀a s,Q a s→Q' a s):wpAny M A t Q' E s:=ah h hQ λ_ _ x=>x
section
variable{X:Cx}
theorem bin{a b:Expr}{ta tb:TE}(ha:PE X a ta)(hb:PE X b tb){R:V→V→Hp→Prop}(I:Inv X aJ σ H s)(h:ta σ H λx H1=>tb σ H1 λy H2=>R x y H2)
  {α:Type} {Q:α→Shared→Prop} {f:Value→Value→Sem α}
  (hf:∀v u s2 x y H2,Inv X aJ σ H2 s2→RelV x v→RelV y u→R x y H2→wpAny (model X.prog X.w) X.A (f v u) Q X.xe s2) :
  wpAny (model X.prog X.w) X.A (eval a X.env) (λv s₁=>wpAny (model X.prog X.w) X.A (eval b X.env) (λu s₂=>wpAny (model X.prog X.w) X.A (f v u) Q X.xe s₂) X.xe s₁) X.xe s:=by
 refine aZ (ha aJ s σ H _ I h) λv s1 ⟨x,H1,I1,r1,q1⟩=>?_;refine aZ (hb aJ s1 σ H1 _ I1 q1) λu s2 ⟨y,H2,I2,r2,q2⟩=>?_;exact hf v u s2 x y H2 I2 r1 r2 q2
def aW(i:Nat):TE:=λσ H Q=>∃v,σ[i]?=some (some v)∧Q v H
def tC(v:V):TE:=λ_ H Q=>Q v H
theorem L5{pos:Pos}(hN:X.N[i]?=some x)(hv:ve X.env.scope x)(hd:(x==("__debug__":Str))=false:=by decide)(gM:(x==("__classdict__":Str))=false:=by decide):PE X (.Name x pos) (aW i):=by
 intro aJ s σ H Q I h;obtain⟨v,e,h⟩:=h;obtain⟨m,hn,hl⟩:=I.loc;obtain⟨u,r,l⟩:=hl i x v hN e hv;have fin:EP X aJ σ Q u s:=⟨v,H,I,r,h⟩;rcases l with⟨hk,hm⟩|⟨hk,c,hc,vh⟩
 ·exact wpAny_Name (wpAny_loadName_local I.ok.kind hk hn hm fin) hd
 ·rcases hk with hk|hk
  ·exact wpAny_Name (wpAny_loadName_cell I.ok.kind hk hc vh fin) hd
  ·exact wpAny_Name (wpAny_loadName_free I.ok.kind hk hc vh fin gM) hd
theorem aR{i j pos}:PE X (.Constant (.int i) j pos) (tC (.int i)):=λ_ _ _ H _ I h=>wpAny_Constant_int ⟨.int i,H,I.tok _,⟨_,rfl⟩,h⟩
theorem tL{b j pos}:PE X (.Constant (.bool b) j pos) (tC (.bl b)):=λ_ _ _ H _ I h=>Constant_bool ⟨.bl b,H,I,rfl,h⟩
theorem oT{j pos}:PE X (.Constant .none j pos) (tC .cm):=λ_ _ _ H _ I h=>Constant_none ⟨.cm,H,I,rfl,h⟩
theorem cq{x j pos}:PE X (.Constant (.str x) j pos) (tC (.str x)):=λ_ _ _ H _ I h=>Calls.Constant_str ⟨.str x,H,I.tok _,⟨_,rfl⟩,h⟩
def Gl(X:Cx)(x:Str):Prop:=X.env.kindOf x=some .globalImplicit
theorem xI{pos:Pos}{Q:QV}(I:Inv X aJ σ H s)(hg:Gl X x)(hm:X.mg x=some u)(h:Q u s)
  (hd:(x==("__debug__":Str))=false:=by decide):wpAny (model X.prog X.w) X.A (eval (.Name x pos) X.env) Q E s:=
 Calls.Name_function_global I.ok.kind hg (Calls.loadGlobal_global (by rw[I.ok.glob];exact I.mod.glob.keeps I.bk) hm h) hd
theorem rO{pos:Pos}{Q:QV}(I:Inv X aJ σ H s)(hg:Gl X x)(hm:X.mg x=none)(hv:bootBuiltins x=some u)(h:Q u s)
  (hn:x ≠ "__name__":=by decide) (hd:(x==("__debug__":Str))=false:=by decide):wpAny (model X.prog X.w) X.A (eval (.Name x pos) X.env) Q E s:=by
 obtain⟨mb,h1,h2⟩:=I.mod.blt;exact Calls.Name_function_global I.ok.kind hg (Calls.loadGlobal_builtin (by rw[I.ok.glob];exact I.mod.glob.keeps I.bk) hm (by rw[I.ok.blt];exact h1.keeps I.bk) ((h2 x hn).trans hv) h) hd
theorem lK{pos:Pos}(hg:Gl X x)(hm:X.mg x=some u)(r:RelV v u)(hd:(x==("__debug__":Str))=false:=by decide):PE X (.Name x pos) (tC v):=
 λ_ _ _ H _ I h=>xI I hg hm ⟨v,H,I,r,h⟩ hd
theorem Vx{pos:Pos}(hg:Gl X x)(hm:X.mg x=none)(hv:bootBuiltins x=some u)(r:RelV v u)(hn:x ≠ "__name__":=by decide)(hd:(x==("__debug__":Str))=false:=by decide):PE X (.Name x pos) (tC v):=
 λ_ _ _ H _ I h=>rO I hg hm hv ⟨v,H,I,r,h⟩ hn hd
def Vy(ta tb:TE)(k:Int→Int→Hp→Prop):St→Hp→Prop:=λσ H=>ta σ H λx H1=>tb σ H1 λy H2=>∃i j,x=.int i∧y=.int j∧k i j H2
variable{a b:Expr}{ta tb:TE}{pos:Pos}
def PC(X:Cx)(op:CmpOp)(a b:Expr)(t:TE):Prop:=
 ∀(aJ:List (Addr×Obj))(s:Shared)(σ:St)(H:Hp)(Q:VK),Inv X aJ σ H s→t σ H Q→
  wpAny (model X.prog X.w) X.A (eval a X.env) (λv s₁=>wpAny (model X.prog X.w) X.A (eval b X.env) (λu s₂=>wpAny (model X.prog X.w) X.A (compareOp op v u) (EP X aJ σ Q) X.xe s₂) X.xe s₁) X.xe s
theorem Vz(b:Expr)(h:op≠.In)(h2:op≠.NotIn):behindInMarks op b=false:=by
 have e1:(op==CmpOp.In)=false:=by cases op<;>first|rfl|exact absurd rfl h
 have e2:(op==CmpOp.NotIn)=false:=by cases op<;>first|rfl|exact absurd rfl h2
 cases b<;>simp[behindInMarks,e1,e2]
def L6(p:Int→Int→Bool)(ta tb:TE):TE:=λσ H Q=>Vy ta tb (λi j H2=>Q (.bl (p i j)) H2) σ H
abbrev VA:TE→TE→TE:=L6 λi j=>decide (i≤j)
theorem VB{p:Int→Int→Bool}(ha:PE X a ta)(hb:PE X b tb)
  (rule:∀(i j:Int)(t u:Tok)(Q:QV)(s:Shared),Q (.bool (p i j)) s→wpAny (model X.prog X.w) X.A (compareOp op (.int i t) (.int j u)) Q X.xe s):PC X op a b (L6 p ta tb):=by
 intro aJ s σ H Q I h;refine bin ha hb I h λv u s2 x y H2 I2 rx ry q=>?_;obtain⟨i,j,rfl,rfl,q⟩:=q;obtain⟨t,rfl⟩:=rx;obtain⟨t',rfl⟩:=ry;exact rule i j t t' _ s2 ⟨.bl _,H2,I2,rfl,q⟩
theorem L7(ha:PE X a ta)(hb:PE X b tb):PC X .LtE a b (VA ta tb):=VB ha hb λ_ _ _ _ _ _ h=>le_int h
def tB(t:TE):TT:=λσ H Q=>t σ H λx H1=>∃c,x=.bl c∧Q c H1
theorem Fl(h:PC X op a b t)(h1:behindInMarks op b=false:=by first|exact Vz _ (by decide) (by decide)|rfl):PT X (.Compare a [op] [b] pos) (tB t):=by
 intro aJ s σ H Q I hw;refine wpAny_isTrue_Compare1 (aZ (h aJ s σ H _ I hw) λv s1 h1=>aZ h1 λu s2 h2=>aZ h2 λc s3 ⟨x,H1,I1,r1,q1⟩=>?_) h1;obtain⟨d,rfl,q⟩:=q1;cases r1;exact ai ⟨H1,I1,q⟩
theorem ju(h:PE X e t)(he:∀qG,isTrue e X.env qG=(do let v ← qG;standAt e.pos;holding [v] (truthy v)):=by intro _;rfl):PT X e (tB t):=by
 intro aJ s σ H Q I hw;refine isTrue_plain (aZ (h aJ s σ H _ I hw) λv s1 ⟨x,H1,I1,r1,q1⟩=>?_) (he _);obtain⟨d,rfl,q⟩:=q1;cases r1;exact ai ⟨H1,I1,q⟩
variable{tA Ba:TT}{du:List Expr}
def Bb(t u:TT):TT:=λσ H Q=>t σ H λc H1=>if c=true then u σ H1 Q else Q false H1
def Bc(t u:TT):TT:=λσ H Q=>t σ H λc H1=>if c=true then Q true H1 else u σ H1 Q
def L8(t:TT):TT:=λσ H Q=>t σ H λc H1=>Q (!c) H1
theorem xJ(ha:PT X a tA):PW X (.BoolOp .And [a] pos) tA:=by
 intro wh aJ s σ H Q I h;refine isTrue_and (aZ (ha aJ s σ H Q I h) λc s1 e=>?_);cases c with
 |true=>exact isTrue_and_nil e
 |false=>exact e
theorem tM(ha:PT X a tA):PW X (.BoolOp .Or [a] pos) tA:=by
 intro wh aJ s σ H Q I h;refine isTrue_or (aZ (ha aJ s σ H Q I h) λc s1 e=>?_);cases c with
 |false=>exact isTrue_or_nil e
 |true=>exact e
theorem rP(ha:PT X a tA)(hb:PW X (.BoolOp .And (b::du) pos) Ba):PW X (.BoolOp .And (a::b::du) pos) (Bb tA Ba):=by
 intro wh aJ s σ H Q I h;refine isTrue_and (aZ (ha aJ s σ H _ I h) λc s1 ⟨H1,I1,q1⟩=>?_);cases c with
 |true=>exact hb wh aJ s1 σ H1 Q I1 q1
 |false=>exact⟨H1,I1,q1⟩
theorem nT(ha:PT X a tA)(hb:PW X (.BoolOp .Or (b::du) pos) Ba):PW X (.BoolOp .Or (a::b::du) pos) (Bc tA Ba):=by
 intro wh aJ s σ H Q I h;refine isTrue_or (aZ (ha aJ s σ H _ I h) λc s1 ⟨H1,I1,q1⟩=>?_);cases c with
 |true=>exact⟨H1,I1,q1⟩
 |false=>exact hb wh aJ s1 σ H1 Q I1 q1
theorem p4(ha:PT X a tA):PT X (.UnaryOp .Not a pos) (L8 tA):=by
 intro aJ s σ H Q I h;exact isTrue_not (ha aJ s σ H (λc H1=>Q (!c) H1) I h)
def L9(ta tb:TE):TE:=λσ H Q=>ta σ H λx H1=>∃c,x=.bl c∧if c=true then tb σ H1 Q else Q (.bl false) H1
def Ma(ta:TE):TE:=λσ H Q=>ta σ H λx H1=>∃c,x=.bl c∧Q (.bl (!c)) H1
theorem Fm{op}(h:PE X a t):PE X (.BoolOp op [a] pos) t:=λaJ s σ H Q I hw=>BoolOp_one (h aJ s σ H Q I hw)
theorem Fo(ha:PE X a ta)(hb:PE X (.BoolOp .And (b::du) pos) tb):PE X (.BoolOp .And (a::b::du) pos) (L9 ta tb):=by
 intro aJ s σ H Q I h;refine BoolOp_and (aZ (ha aJ s σ H _ I h) λv s1 ⟨x,H1,I1,r1,q1⟩=>?_);obtain⟨c,rfl,q1⟩:=q1;cases r1;refine ai ?_;cases c with
 |true=>exact hb aJ s1 σ H1 Q I1 q1
 |false=>exact⟨.bl false,H1,I1,rfl,q1⟩
theorem VC(ha:PE X a ta):PE X (.UnaryOp .Not a pos) (Ma ta):=by
 intro aJ s σ H Q I h;refine UnaryOp_ (aZ (ha aJ s σ H _ I h) λv s1 ⟨x,H1,I1,r1,q1⟩=>?_);obtain⟨c,rfl,q1⟩:=q1;cases r1;exact not_of (ai ⟨.bl (!c),H1,I1,rfl,q1⟩)
def VD(t:TT)(ta tb:TE):TE:=λσ H Q=>t σ H λc H1=>if c=true then ta σ H1 Q else tb σ H1 Q
theorem Fp(hc:PT X c tA)(ha:PE X a ta)(hb:PE X b tb):PE X (.IfExp c a b pos) (VD tA ta tb):=by
 intro aJ s σ H Q I h;refine wpAny_IfExp (aZ (hc aJ s σ H _ I h) λd s1 ⟨H1,I1,q1⟩=>?_);cases d with
 |true=>exact ha aJ s1 σ H1 Q I1 q1
 |false=>exact hb aJ s1 σ H1 Q I1 q1
end
def di(K:Frag)(H:Hp)(a:Addr)(xs:List V):Prop:=
 Rd H a (.lst xs) ∨
  ∃(o:Obj)(its:Array Value)(n:Nat),K.lookup a=some o∧o.cls=.type "list"∧o.dict=none∧o.data=.seq its n∧its.size≤sizeLine∧Vals xs its.toList
def bc(K:Frag)(H:Hp)(a:Addr)(xs:List V):Prop:=
 Rd H a (.tup xs) ∨
  ∃(o:Obj)(its:Array Value)(n:Nat),K.lookup a=some o∧o.cls=.type "tuple"∧o.data=.seq its n∧its.size≤sizeLine∧Vals xs its.toList
noncomputable def VE:Value→Option V
 | .none=>some .cm
 | .bool b=>some (.bl b)
 | .int i _=>some (.int i)
 | .str x _=>some (.str x)
 | .bytes b _=>some (.mI b)
 | .float b _=>some (.vc b)
 | .ref a=>some (.ref a)
 | .type n=>some (.ty n)
 |_=>none
theorem RelV.abs{x:V}(r:RelV x u):VE u=some x:=by
 cases x with
 |cm=>cases r;rfl
 |bl _=>cases r;rfl
 |int _=>obtain⟨t,rfl⟩:=r;rfl
 |str _=>obtain⟨t,rfl⟩:=r;rfl
 |mI _=>obtain⟨t,rfl⟩:=r;rfl
 |vc _=>obtain⟨t,rfl⟩:=r;rfl
 |ref _=>cases r;rfl
 |ty _=>cases r;rfl
theorem RelV.inj{x y:V}{u:Value}(r:RelV x u)(q:RelV y u):x=y:=c7 (r.abs.symm.trans q.abs)
theorem Vals.inj:∀{xs ys:List V}{us:List Value},Vals xs us→Vals ys us→xs=ys
 |_,_,_,.nil,.nil=>rfl
 |_,_,_,.cons r t,.cons r' t'=>by rw[r.inj r',Vals.inj t t']
section
variable{X:Cx}{aJ:List (Addr×Obj)}{σ:St}{H:Hp}{s:Shared}{a:Addr}{xs ys:List V}
theorem di.of{K:Frag}(h:H a=some (.lst xs)):di K H a xs:=.inl (.inl h)
theorem bc.of{K:Frag}(h:H a=some (.tup xs)):bc K H a xs:=.inl (.inl h)
theorem Inv.list(I:Inv X aJ σ H s)(h:di X.K H a xs):∃its:List Value,Vals xs its∧PlainL s.heap a its.toArray∧xs.length≤sizeLine:=by
 rcases h with h|⟨o,its,n,hk,hc,hd,hs,hz,r⟩
 ·obtain⟨z,its,n,r,e⟩:=h.ok I.br;exact⟨its,r,⟨_,n,e,rfl,rfl,rfl⟩,z⟩
 ·refine⟨its.toList,r,⟨o,n,I.eR a o hk,hc,hd,by simpa using hs⟩,?_⟩;have e:=r.length;simp only[Array.length_toList]at e;lia
theorem Inv.tuple(I:Inv X aJ σ H s)(h:bc X.K H a xs):∃its:List Value,Vals xs its∧IsTup s.heap a its.toArray∧xs.length≤sizeLine:=by
 rcases h with h|⟨o,its,n,hk,hc,hs,hz,r⟩
 ·obtain⟨z,its,r,p⟩:=h.ok I.br;exact⟨its,r,p,z⟩
 ·refine⟨its.toList,r,⟨o,I.eR a o hk,hc,n,by simpa using hs⟩,?_⟩;have e:=r.length;simp only[Array.length_toList]at e;lia
theorem Inv.Mb(I:Inv X aJ σ H s)(h:di X.K H a xs)(h':di X.K H a ys):xs=ys:=by
 obtain⟨its,r,⟨o,n,e,_,_,d⟩,_⟩:=I.list h;obtain⟨its',r',⟨o',n',e',_,_,d'⟩,_⟩:=I.list h';rw[e]at e';cases e';rw[d]at d';injection d' with d1 _
 have:its=its':=by simpa using aj Array.toList d1
 subst this;exact r.inj r'
theorem Inv.Mc(I:Inv X aJ σ H s)(h:bc X.K H a xs)(h':bc X.K H a ys):xs=ys:=by
 obtain⟨its,r,⟨o,e,_,n,d⟩,_⟩:=I.tuple h;obtain⟨its',r',⟨o',e',_,n',d'⟩,_⟩:=I.tuple h';rw[e]at e';cases e';rw[d]at d';injection d' with d1 _
 have:its=its':=by simpa using aj Array.toList d1
 subst this;exact r.inj r'
end
noncomputable abbrev Cx.oU(X:Cx)(E:QV):Cx:={ X with xe:=E }
noncomputable abbrev Cx.lL(X:Cx):Cx:=X.oU λ_ _=>False
theorem Cx.Ok.oU{X:Cx}(ok:X.Ok)(E:QV):(X.oU E).Ok:=
 ⟨ok.mod,ok.kind,ok.glob,ok.blt,ok.above,ok.inj,ok.has,ok.xB,ok.hd,ok.frames,ok.rN,ok.xC,ok.bs,ok.qC,ok.xD,ok.vf,ok.mK,ok.qD⟩
theorem Cx.Ok.qH(ok:(X.oU E).Ok):X.Ok:=
 ⟨ok.mod,ok.kind,ok.glob,ok.blt,ok.above,ok.inj,ok.has,ok.xB,ok.hd,ok.frames,ok.rN,ok.xC,ok.bs,ok.qC,ok.xD,ok.vf,ok.mK,ok.qD⟩
section
variable{X:Cx}{aJ:List (Addr×Obj)}{σ:St}{H:Hp}{s:Shared}{E:QV}
theorem Inv.oU(I:Inv X aJ σ H s)(E:QV):Inv (X.oU E) aJ σ H s:=⟨I.ok.oU E,I.os,I.bare,I.base,I.loc,I.cell,I.free,I.nS,I.pin,I.br,I.len⟩
theorem Inv.qH(I:Inv (X.oU E) aJ σ H s):Inv X aJ σ H s:=⟨I.ok.qH,I.os,I.bare,I.base,I.loc,I.cell,I.free,I.nS,I.pin,I.br,I.len⟩
theorem SP.qH{D:Ends}{f:Flow}{s':Shared}(h:SP (X.oU E) aJ D f s'):SP X aJ D f s':=by
 cases f with
 |next=>obtain⟨σ',H',I,q⟩:=h;exact⟨σ',H',I.qH,q⟩
 |brk=>obtain⟨σ',H',I,q⟩:=h;exact⟨σ',H',I.qH,q⟩
 |cont=>obtain⟨σ',H',I,q⟩:=h;exact⟨σ',H',I.qH,q⟩
 |ret u=>obtain⟨v,σ',H',I,r,q⟩:=h;exact⟨v,σ',H',I.qH,r,q⟩
theorem PE.lL{e:Expr}{t:TE}(h:PE X.lL e t):PE X e t:=λaJ s σ H Q I hw=>
 ah (h aJ s σ H Q (I.oU _) hw) (λ_ _ ⟨v,H',I',r,q⟩=>⟨v,H',I'.qH,r,q⟩) λ_ _ z=>False.elim z
theorem jb.lL{st:List Stmt}{t:TS}(h:jb X.lL st t):jb X st t:=λaJ s σ H D I hw=>
 ah (h aJ s σ H D (I.oU _) hw) (λ_ _ q=>q.qH) λ_ _ z=>False.elim z
end
section
variable{X:Cx}{st:Stmt}{du:List Stmt}{t u:TS}{e:Expr}{te:TE}{pos:Pos}
def ik:TS:=λD σ H=>D.nx σ H
def cI(t u:TS):TS:=λD σ H=>t { D with nx:=u D } σ H
theorem df:jb X [] ik:=λ_ _ σ H _ I h=>ak ⟨σ,H,I,h⟩
theorem aX(h1:PS X st t)(h2:jb X du u):jb X (st::du) (cI t u):=by
 intro aJ s σ H D I h;refine wpAny_execs_cons (aZ (h1 aJ s σ H { D with nx:=u D } I h) λf s1 q=>?_);cases f with
 |next=>
  obtain⟨σ',H',I',q⟩:=q;exact h2 aJ s1 σ' H' D I' q
 |ret v=>exact q
 |brk=>exact q
 |cont=>exact q
theorem bg(h1:PS X st t):jb X [st] t:=by
 intro aJ s σ H D I h;refine wpAny_execs_cons (aZ (h1 aJ s σ H D I h) λf s1 q=>?_);cases f with
 |next=>exact ak q
 |ret v=>exact q
 |brk=>exact q
 |cont=>exact q
theorem Inv.quiet(I:Inv X aJ σ H s):interactive X.env=false:=by simp[interactive,I.ok.kind]
def Bd(te:TE):TS:=λD σ H=>te σ H λ_ H1=>D.nx σ H1
theorem jv(he:PE X e te)(hs:swapsWith e none pos.line X.env=pure false:=by rfl):PS X (.Expr e pos) (Bd te):=by
 intro aJ s σ H D I h;exact wpAny_Expr_any (aZ (he aJ s σ H _ I h) λv s1 ⟨x,H1,I1,r1,q1⟩=>⟨σ,H1,I1,q1⟩) I.quiet hs
def fK(te:TE):TS:=λD σ H=>te σ H D.rt
theorem bY(he:PE X e te):PS X (.Return (some e) pos) (fK te):=by
 intro aJ s σ H D I h;exact wpAny_Return_some (aZ (he aJ s σ H _ I h) λv s1 ⟨x,H1,I1,r1,q1⟩=>⟨x,σ,H1,I1,r1,q1⟩)
def eG(c:TT)(t u:TS):TS:=λD σ H=>c σ H λb H1=>if b=true then t D σ H1 else u D σ H1
theorem cN{a b:List Stmt}{tc:TT}(hc:PT X c tc)(ha:jb X a t)(hb:jb X b u):PS X (.If c a b pos) (eG tc t u):=by
 intro aJ s σ H D I h;refine wpAny_If (aZ (hc aJ s σ H _ I h) λd s1 ⟨H1,I1,q1⟩=>?_);cases d with
 |true=>exact ha aJ s1 σ H1 D I1 q1
 |false=>exact hb aJ s1 σ H1 D I1 q1
def Md:TS:=λ_ _ _=>False
theorem VF:PS X st Md:=λ_ _ _ _ _ _ h=>h.elim
theorem vi{VG:List Stmt}:jb X VG Md:=λ_ _ _ _ _ _ h=>h.elim
end
abbrev TG:=V→St→Hp→(St→Hp→Prop)→Prop
abbrev p5:=List V→St→Hp→(St→Hp→Prop)→Prop
def PG(X:Cx)(target:Expr)(t:TG):Prop:=
 ∀(aJ:List (Addr×Obj))(s:Shared)(σ:St)(H:Hp)(v:V)(u:Value)(Q:St→Hp→Prop),Inv X aJ σ H s→RelV v u→t v σ H Q→
  wpAny (model X.prog X.w) X.A (assign target X.env u) (λ_ s'=>∃σ' H',Inv X aJ σ' H' s'∧Q σ' H') X.xe s
def vj(X:Cx)(ts:List Expr)(t:p5):Prop:=
 ∀(aJ:List (Addr×Obj))(s:Shared)(σ:St)(H:Hp)(vs:List V)(us:List Value)(Q:St→Hp→Prop),Inv X aJ σ H s→Vals vs us→t vs σ H Q→
  wpAny (model X.prog X.w) X.A (assignInOrder ((assignEach ts X.env).map (·.2)) us) (λ_ s'=>∃σ' H',Inv X aJ σ' H' s'∧Q σ' H') X.xe s
abbrev Fq:=V→V→V→Hp→(Hp→Prop)→Prop
def Me(X:Cx)(t:Fq):Prop:=
 ∀(aJ:List (Addr×Obj))(s:Shared)(σ:St)(H:Hp)(o i v:V)(ov iv u:Value)(Q:Hp→Prop),Inv X aJ σ H s→RelV o ov→RelV i iv→RelV v u→t o i v H Q→
  wpAny (model X.prog X.w) X.A (setItem ov iv u) (λ_ s'=>∃H',Inv X aJ σ H' s'∧Q H') X.xe s
section
variable{X:Cx}{pos:Pos}
def bN(i:Nat):TG:=λv σ H Q=>Q (σ.set i (some v)) H
theorem cj(hN:X.N.Nodup)(hi:X.N[i]?=some x)(hx:Loc X.env.scope x)(hf:X.fn x=true∨X.env.scope.names.lookup x=some .local:=by first|exact .inl rfl|exact .inr rfl|assumption):PG X (.Name x pos) (bN i):=by
 intro aJ s σ H v u Q I r h;exact wpAny_assign_Name (vg I hN hi hx r (λs' I'=>⟨_,H,I',h⟩) hf)
def rQ:p5:=λvs σ H Q=>vs=[]∧Q σ H
def iE(t:TG)(u:p5):p5:=λvs σ H Q=>∃v r,vs=v::r∧t v σ H λσ' H'=>u r σ' H' Q
theorem jT:vj X [] rQ:=by
 intro aJ s σ H vs us Q I r h;obtain⟨e,h⟩:=h;subst e;cases r;exact assignInOrder_nil ⟨σ,H,I,h⟩
theorem dJ{es:List Expr}{t:TG}{u:p5}(h1:PG X e t)(h2:vj X es u)
  (hs:(assignEach (e::es) X.env).map (·.2)=assign e X.env::(assignEach es X.env).map (·.2):=by rfl):vj X (e::es) (iE t u):=by
 intro aJ s σ H vs us Q I r h;obtain⟨v,vr,e1,h⟩:=h;subst e1;cases r with
 |cons r rr=>
  rw[hs];refine assignInOrder_cons (aZ (h1 aJ s σ H _ _ _ I r h) λ_ s1 ⟨σ1,H1,I1,q1⟩=>?_);exact h2 aJ s1 σ1 H1 _ _ Q I1 rr q1
def Fs(K:Frag)(n:Nat)(t:p5):TG:=λv σ H Q=>∃a xs,v=.ref a∧bc K H a xs∧xs.length=n∧t xs σ H Q
theorem VH{es:List Expr}{k:Nat}{t:p5}(hc:X.calm=true)(h:vj X es t)
  (hn:(assignEach es X.env).length=n:=by rfl) (xK:(assignEach es X.env).findIdx? (·.1)=none:=by rfl):PG X (.Tuple es k pos) (Fs X.K n t):=by
 intro aJ s σ H v u Q I r hw;obtain⟨a,xs,e1,hq,hl,hw⟩:=hw;subst e1;cases r;obtain⟨its,rv,ht,hz⟩:=I.tuple hq;refine assign_Tuple_tuple (I.ok.hd hc) ht (by simp[hn,← hl,rv.length]) xK λh' hx=>?_;have I1:Inv X aJ σ H { s with heap:=h' }:=I.kept (t':=s.toks) λb o e=>hx b o (fZ (dF e)) e;exact h aJ _ σ H xs _ Q I1 (by simpa using rv) hw
def Mf(to ti:TE)(t:Fq):TG:=λv σ H Q=>to σ H λo H1=>ti σ H1 λi H2=>t o i v H2 λH3=>Q σ H3
theorem Ft{o i:Expr}{to ti:TE}{t:Fq}(ho:PE X o to)(hi:PE X i ti)(hs:Me X t)
  (ha:∀v,assign (.Subscript o i pos) X.env v=(do
   let ov ← holding [v] (eval o X.env)
   let iv ← holding [v,ov] (eval i X.env)
   standAt pos
   holding [v,ov,iv] (setItem ov iv v)
   release [v,ov,iv] []):=by intro _;rfl):PG X (.Subscript o i pos) (Mf to ti t):=by
 intro aJ s σ H v u Q I r h;rw[ha];refine ao (aq (aZ (ho aJ s σ H _ I h) λov s1 ⟨x,H1,I1,r1,q1⟩=>?_));refine ao (aq (aZ (hi aJ s1 σ H1 _ I1 q1) λiv s2 ⟨y,H2,I2,r2,q2⟩=>?_));refine ao (wpAny_standAt (ao (aq (aZ (hs aJ s2 σ H2 x y v ov iv u _ I2 r1 r2 r q2) λ_ s3 ⟨H3,I3,q3⟩=>?_))));exact wpAny_release ⟨σ,H3,I3,q3⟩
def dj(te:TE)(g:TG):TS:=λD σ H=>te σ H λx H1=>g x σ H1 D.nx
theorem lM{te:TE}(he:PE X e te)(hg:PG X tg g)(hs:swapsWithSole [tg] e pos.line X.env=pure false:=by rfl)(hw:swappedStores [tg] e X.env=pure none:=by rfl)
  (h1:(assignEach [tg] X.env).map (·.2)=[assign tg X.env]:=by rfl):PS X (.Assign [tg] e pos) (dj te g):=by
 intro aJ s σ H D I h;refine wpAny_Assign_stores (aZ (he aJ s σ H _ I h) λv s1 ⟨x,H1,I1,r1,q1⟩=>?_) hs hw;rw[h1];exact aZ (hg aJ s1 σ H1 x v _ I1 r1 q1) λ_ s2 q=>q
theorem bH{te:TE}{oV:Pos}(hN:X.N.Nodup)(hi:X.N[i]?=some x)(hx:Loc X.env.scope x)(he:PE X e te)(hs:swapsWith e (some (.Name x oV)) pos.line X.env=pure false:=by rfl)(hf:X.fn x=true∨X.env.scope.names.lookup x=some .local:=by first|exact .inl rfl|exact .inr rfl|assumption) :
  PS X (.Assign [.Name x oV] e pos) (dj te (bN i)):=by
 intro aJ s σ H D I h;refine wpAny_Assign_Name (aZ (he aJ s σ H _ I h) λv s1 ⟨y,H1,I1,r1,q1⟩=>?_) hs;exact vg I1 hN hi hx r1 (λs2 I2=>⟨_,H1,I2,q1⟩) hf
def VI(i j:Nat)(ta:TA):TS:=λD σ H=>ta σ H λvs H1=>∃v w,vs=[v,w]∧D.nx ((σ.set i (some v)).set j (some w)) H1
theorem VJ{y:Str}{a b:Expr}{ta:TA}{px py pt:Pos}{kt k2 Fu}(hc:X.calm=true)(hN:X.N.Nodup)(hi:X.N[i]?=some x)(hj:X.N[j]?=some y)(VL:i≠j)
  (hx:X.env.scope.names.lookup x=some .local) (hy:X.env.scope.names.lookup y=some .local) (ha:PA X [a,b] ta)
  (hw:swappedStores [.Tuple [.Name x px,.Name y py] kt pt] (.Tuple [a,b] k2 Fu) X.env=pure (some [x,y]))
  (hs:swapsWithSole [.Tuple [.Name x px,.Name y py] kt pt] (.Tuple [a,b] k2 Fu) pos.line X.env=pure false:=by rfl) :
  PS X (.Assign [.Tuple [.Name x px,.Name y py] kt pt] (.Tuple [a,b] k2 Fu) pos) (VI i j ta):=by
 intro aJ s σ H D I h;rw[exec_Assign_arm];refine ao (wpAny_standAt ?_);rw[hs];refine ao (ar ?_);rw[ag (by decide)];refine ao (Tuple_ (aZ (ha _ aJ s σ H _ I h) λus s1 ⟨vs,H1,I1,r1,q1⟩=>?_));obtain⟨v,w,e1,q1⟩:=q1;subst e1;obtain⟨u1,u2,rfl,rv,oW⟩:∃u1 u2,us=[u1,u2]∧RelV v u1∧RelV w u2:=by
  cases r1 with
  |cons p q=>
   cases q with
   |cons p' q'=>
    cases q';exact⟨_,_,rfl,p,p'⟩
 refine au ?_ (by show 2≤sizeLine;decide);have I2:Inv X aJ σ H1 { s1 with heap:=s1.heap.push { cls:=.type "tuple",data:=.seq [u1,u2].toArray } }:=I1.kept (t':=s1.toks) λb o e=>dD _ e;rw[hw];refine ao (ar ?_);show wpAny (model X.prog X.w) X.A (do rule "assign.swapped-stores";let items ← unpackItems (.ref s1.heap.objs.size) 2 none;assignInOrder [λv=>bindName X.env y v,λv=>bindName X.env x v] items.reverse;pure Flow.next) _ _ _
 refine ao (wpAny_rule (ao (unpackItems_tuple (items:=#[u1,u2]) (I.ok.hd hc) (IsTup.new s1.heap _) λh' fb=>?_)));have I3:=I2.kept (h':=h') (t':=s1.toks) λb o e=>fb b o (fZ (dF e)) e;show wpAny _ _ (assignInOrder [λv=>bindName X.env y v,λv=>bindName X.env x v] [u2,u1] >>= λ_=>pure Flow.next) _ _ _;refine ao (assignInOrder_cons (wpAny_bindName (vg I3 hN hj (.inl hy) oW (λs2 I4=>?_) (.inr hy))));refine assignInOrder_cons (wpAny_bindName (vg I4 hN hi (.inl hx) rv (λs3 I5=>assignInOrder_nil (ar ?_)) (.inr hx)));rw[List.set_comm _ _ (Ne.symm VL)]at I5;exact⟨_,H1,I5,q1⟩
end
section
variable{X:Cx}{pos:Pos}
def VM(c:TT)(tb:TS):TS:=λD σ H=>∃W:Nat→St→Hp→Prop,(∃m,W m σ H)∧∀m σ H,W m σ H→
 c σ H λb H1=>if b=true then ∃N:St→Hp→Prop,(∀σ' H',N σ' H'→∃m',m'<m∧W m' σ' H')∧tb { D with nx:=N,ct:=N,bk:=D.nx } σ H1 else D.nx σ H1
theorem VN{tc:TT}(hp:PassesOwn (model X.prog X.w) X.A X.env X.xe)(hc:PT X c tc)(hb:jb X body tb):PS X (.While c body [] pos) (VM tc tb):=by
 intro aJ s σ H D I h;obtain⟨W,⟨m0,w0⟩,oX⟩:=h;refine wpAny_While (codeAny_whileLoop (λn s'=>∃σ' H',Inv X aJ σ' H' s'∧W n σ' H') ?_ m0 ⟨σ,H,I,w0⟩);rintro n s1 ⟨σ1,H1,I1,w1⟩;refine av hp (aZ (hc aJ s1 σ1 H1 _ I1 (oX n σ1 H1 w1)) λb s2 ⟨H2,I2,q2⟩=>?_);cases b with
 |true=>
  obtain⟨N,hN,q2⟩:=q2;rw[af rfl];refine av hp (aZ (hb aJ s2 σ1 H2 _ I2 q2) λf s3 q3=>?_);cases f with
  |next=>
   obtain⟨σ3,H3,I3,n3⟩:=q3;obtain⟨m',hm,w3⟩:=hN σ3 H3 n3;exact⟨m',hm,σ3,H3,I3,w3⟩
  |cont=>
   obtain⟨σ3,H3,I3,n3⟩:=q3;obtain⟨m',hm,w3⟩:=hN σ3 H3 n3;exact⟨m',hm,σ3,H3,I3,w3⟩
  |brk=>exact q3
  |ret v=>exact q3
 |false=>
  rw[ag gJ];exact ak ⟨σ1,H2,I2,q2⟩
end
structure It where
 go:Nat→Hp→Prop
 p6:Nat→Hp→V→Hp→Prop
 stop:Nat→Hp→Prop
def jc(X:Cx)(aJ:List (Addr×Obj))(H:Hp)(b:Addr):Prop:=
 H b=none∧b≠X.env.locals∧b ∉ X.fs∧(b∈X.ex∨X.s₀.heap.objs.size≤b)∧(∀x c,X.env.cells.lookup x=some c→c≠b)∧∀p∈X.pn++aJ,p.1≠b
theorem Inv.nU{H':Hp}(I:Inv X aJ σ H s)(hb:s.heap.objs.size≤b)(hn:H' b=none):jc X aJ H' b:=by
 refine⟨hn,Nat.ne_of_gt (iA I.lt hb),I.Vv hb,.inr (fg I.sz hb),λx c e z=>?_,λp hp z=>?_⟩
 ·obtain⟨v,q⟩:=I.cell x c e;exact absurd (iA q.lt (by rw[z];exact hb)) (uT _)
 ·exact absurd (iA (dF (I.pin p hp).1) (by rw[z];exact hb)) (uT _)
structure Turn(P:Program)(w:World)(K:Frag)(tg:Expr)(J:It)(fp:List Addr)(it:Addr)(tn:Nat→Heap→Prop):Prop where
 mem:it∈fp
 obj:∀i h,tn i h→∀b∈fp,∃o,h.get? b=some o∧∀v,o.data≠.cell v
 keep:∀i h h',tn i h→(∀b∈fp,∀o,h.get? b=some o→h'.get? b=some o)→tn i h'
 item:∀(X:Cx),X.prog=P→X.w=w→X.K=K→X.calm=true→∀(i:Nat)(aJ:List (Addr×Obj))(s:Shared)(σ:St)(H:Hp)(E:QV),Inv X aJ σ H s→(∀b∈fp,jc X aJ H b)→tn i s.heap→J.go i H→
  wpAny (model P w) X.A (pyNext (.ref it)) (λr s1=>∃u,r=some u∧
   wpAny (model P w) X.A (letOwnedTupleGo tg (.ref it) u) (λ_ s2=>∃x H',Inv X aJ σ H' s2∧RelV x u∧J.p6 i H x H'∧tn (i+1) s2.heap∧∀b∈fp,H' b=none) E s1) E s
 done:∀(X:Cx),X.prog=P→X.w=w→X.K=K→X.calm=true→∀(i:Nat)(aJ:List (Addr×Obj))(s:Shared)(σ:St)(H:Hp)(E:QV),Inv X aJ σ H s→(∀b∈fp,jc X aJ H b)→tn i s.heap→J.stop i H→
  wpAny (model P w) X.A (pyNext (.ref it)) (λr s1=>r=none∧Inv X aJ σ H s1) E s
 self:∀(A:Around)(i:Nat)(s:Shared)(Q:QV)(E:QV),tn i s.heap→Q (.ref it) s→wpAny (model P w) A (pyIter (.ref it)) Q E s
abbrev TI:=St→Hp→(It→Hp→Prop)→Prop
def Fv(X:Cx)(aJ:List (Addr×Obj))(σ:St)(tg:Expr)(R:It→Hp→Prop)(Be:Value)(s2:Shared):Prop:=
 ∃(it:Addr)(fp:List Addr)(tn:Nat→Heap→Prop)(J:It)(H':Hp),Be=.ref it∧Inv X aJ σ H' s2∧Turn X.prog X.w X.K tg J fp it tn∧tn 0 s2.heap∧(∀b∈fp,jc X aJ H' b)∧R J H'
def PI(X:Cx)(tg iter:Expr)(wi:TI):Prop:=
 ∀(aJ:List (Addr×Obj))(s:Shared)(σ:St)(H:Hp)(R:It→Hp→Prop),Inv X aJ σ H s→wi σ H R→
  wpAny (model X.prog X.w) X.A (eval iter X.env) (λv s1=>wpAny (model X.prog X.w) X.A (pyIter v) (Fv X aJ σ tg R) X.xe s1) X.xe s
theorem xM{it:Addr}{o:Obj}{n:String}{vs:Array Value}(ho:s.heap.get? it=some o)(hc:o.cls=.type n)(hd:o.data=.fields vs)
  (hn:["enumerate","zip","dict_itemiterator","dict_reverseitemiterator","odict_iterator","itertools.zip_longest","itertools.pairwise"].contains n=false) (hQ:Q () s):wpAny M A (letOwnedTupleGo tg (.ref it) u) Q E s:=by
 unfold letOwnedTupleGo;cases tg<;>first
  |exact ar hQ
  |(cases u<;>first
    |exact ar hQ
    |(refine ao (wpAny_load ho ?_);rw[hc,hd];show wpAny M A (if(["enumerate","zip","dict_itemiterator","dict_reverseitemiterator","odict_iterator","itertools.zip_longest","itertools.pairwise"].contains n&&vs[0]? == some (rawInt _))=true then _ else _) Q E s;rw[ag (by intro h;rw[hn,Bool.false_and]at h;cases h)];exact ar hQ))
noncomputable def qI(K:Frag)(a:Addr):It:=
 ⟨λi H=>∃xs x,di K H a xs∧xs[i]?=some x,λi H x H'=>H'=H∧∀xs,di K H a xs→xs[i]?=some x,λi H=>∃xs,di K H a xs∧xs.length≤i⟩
noncomputable def qJ(K:Frag)(a:Addr):It:=
 ⟨λi H=>∃xs x,bc K H a xs∧xs[i]?=some x,λi H x H'=>H'=H∧∀xs,bc K H a xs→xs[i]?=some x,λi H=>∃xs,bc K H a xs∧xs.length≤i⟩
noncomputable def rR(lo:Int)(n:Nat):It:=⟨λi _=>i<n,λi H x H'=>H'=H∧x=.int (lo+i),λi _=>n≤i⟩
theorem VO{P:Program}{w:World}{K:Frag}(a it:Addr):Turn P w K tg (qI K a) [it] it (λi h=>h.IsListIter it a i) where
 mem:=by simp
 obj:=λi h st b hb=>by
  have e:b=it:=by simpa using hb
  subst e;obtain⟨o,e,c,d⟩:=st;exact⟨o,e,λv z=>by rw[d]at z;cases z⟩
 keep:=λi h h' st k=>st.at λo e=>k it (by simp) o e
 item:=by
  intro X hP hw hK hc i aJ s σ H E I hf st hg;subst hP hw hK;obtain⟨xs,x,hq,hx⟩:=hg;obtain⟨its,rv,p,hz⟩:=I.list hq;obtain⟨u,hu,ru⟩:=rv.get hx;obtain⟨f0,f1,f2,f3,f4,f5⟩:=hf it (by simp);refine wpAny_pyNext_list_item st p.isList (x:=u) (by simpa using hu) λh' lN sb=>?_;have I1:Inv X aJ σ H { s with heap:=h' }:=I.turned (t':=s.toks) (λb o hb e=>(sb.2 b hb).trans e) f0 f1 f3 f4 f5;obtain⟨o,e,c,d⟩:=id lN;exact⟨u,rfl,xM (s:={ s with heap:=h' }) e c d (by decide) ⟨x,H,I1,ru,⟨rfl,λys hy=>by rw[I.Mb hy hq];exact hx⟩,lN,λb hb=>(hf b hb).1⟩⟩
 done:=by
  intro X hP hw hK hc i aJ s σ H E I hf st hg;subst hP hw hK;obtain⟨xs,hq,hx⟩:=hg;obtain⟨its,rv,p,hz⟩:=I.list hq;obtain⟨f0,f1,f2,f3,f4,f5⟩:=hf it (by simp);have hl:=rv.length;exact wpAny_pyNext_list_end (I.ok.hd hc) st p.isList (by simp;lia) λh' eb=>⟨rfl,I.turned (t':=s.toks) (λb o hb e=>eb b o hb e) f0 f1 f3 f4 f5⟩
 self:=λ_ _ _ _ _ st h=>wpAny_pyIter_listiter st h
theorem VP{P:Program}{w:World}{K:Frag}(a it:Addr):Turn P w K tg (qJ K a) [it] it (λi h=>h.IsTupleIter it a i) where
 mem:=by simp
 obj:=λi h st b hb=>by
  have e:b=it:=by simpa using hb
  subst e;obtain⟨o,e,c,d⟩:=st;exact⟨o,e,λv z=>by rw[d]at z;cases z⟩
 keep:=λi h h' st k=>st.at λo e=>k it (by simp) o e
 item:=by
  intro X hP hw hK hc i aJ s σ H E I hf st hg;subst hP hw hK;obtain⟨xs,x,hq,hx⟩:=hg;obtain⟨its,rv,p,hz⟩:=I.tuple hq;obtain⟨u,hu,ru⟩:=rv.get hx;obtain⟨f0,f1,f2,f3,f4,f5⟩:=hf it (by simp);refine wpAny_pyNext_tuple_item st (show s.heap.IsTuple a its.toArray from p) (x:=u) (by simpa using hu) λh' lN sb=>?_
  have I1:Inv X aJ σ H { s with heap:=h' }:=I.turned (t':=s.toks) (λb o hb e=>(sb.2 b hb).trans e) f0 f1 f3 f4 f5;obtain⟨o,e,c,d⟩:=id lN;exact⟨u,rfl,xM (s:={ s with heap:=h' }) e c d (by decide) ⟨x,H,I1,ru,⟨rfl,λys hy=>by rw[I.Mc hy hq];exact hx⟩,lN,λb hb=>(hf b hb).1⟩⟩
 done:=by
  intro X hP hw hK hc i aJ s σ H E I hf st hg;subst hP hw hK;obtain⟨xs,hq,hx⟩:=hg;obtain⟨its,rv,p,hz⟩:=I.tuple hq;obtain⟨f0,f1,f2,f3,f4,f5⟩:=hf it (by simp);have hl:=rv.length;exact wpAny_pyNext_tuple_end (I.ok.hd hc) st (show s.heap.IsTuple a its.toArray from p) (by simp;lia) λh' eb=>⟨rfl,I.turned (t':=s.toks) (λb o hb e=>eb b o hb e) f0 f1 f3 f4 f5⟩
 self:=λ_ _ _ _ _ st h=>wpAny_pyIter_tupleiter st h
theorem VQ{P:Program}{w:World}{K:Frag}(it:Addr)(lo:Int)(n:Nat):Turn P w K tg (rR lo n) [it] it (λi h=>IsRangeIter h it (lo+(i:Nat)*1) ((n:Int)-(i:Nat)) 1) where
 mem:=by simp
 obj:=λi h st b hb=>by
  have e:b=it:=by simpa using hb
  subst e;exact⟨_,st,λv z=>by
   have z':Data.fields _=Data.cell v:=z;cases z'⟩
 keep:=λi h h' st k=>k it (by simp) _ st
 item:=by
  intro X hP hw hK hc i aJ s σ H E I hf st hg;subst hP hw hK;obtain⟨f0,f1,f2,f3,f4,f5⟩:=hf it (by simp);have W:=Walks.range (prog:=X.prog) (w:=X.w) (I.ok.hd hc) it lo 1 n;refine W.item i s _ _ hg st λv h' tk hv lN kk=>?_;obtain⟨t,rfl⟩:=hv;have I1:Inv X aJ σ H { s with heap:=h',toks:=tk }:=I.turned (λb o hb e=>kk b o (by simpa using hb) e) f0 f1 f3 f4 f5;refine⟨_,rfl,xM (s:={ s with heap:=h',toks:=tk }) (n := "range_iterator") lN rfl rfl (by decide) ⟨.int (lo+i),H,I1,⟨t,?_⟩,⟨rfl,rfl⟩,lN,λb hb=>(hf b hb).1⟩⟩;rw[Int.mul_one]
 done:=by
  intro X hP hw hK hc i aJ s σ H E I hf st hg;subst hP hw hK;obtain⟨f0,f1,f2,f3,f4,f5⟩:=hf it (by simp);exact wpAny_pyNext_range_end (I.ok.hd hc) st (by have:n≤i:=hg;lia) λh' eb=>⟨rfl,I.turned (t':=s.toks) (λb o hb e=>eb b o hb e) f0 f1 f3 f4 f5⟩
 self:=λ_ _ _ _ _ st h=>wpAny_pyIter_rangeiter st h
section
variable{X:Cx}{tg:Expr}
def Bf(K:Frag)(tl:TE):TI:=λσ H R=>tl σ H λx H1=>∃a,x=.ref a∧(∃xs,di K H1 a xs)∧R (qI K a) H1
def rS(K:Frag)(tl:TE):TI:=λσ H R=>tl σ H λx H1=>∃a,x=.ref a∧(∃xs,bc K H1 a xs)∧R (qJ K a) H1
theorem VR{l:Expr}{tl:TE}(hl:PE X l tl):PI X tg l (Bf X.K tl):=by
 intro aJ s σ H R I h;refine aZ (hl aJ s σ H _ I h) λv s1 ⟨x,H1,I1,r1,q1⟩=>?_;obtain⟨a,e,⟨xs,hq⟩,q⟩:=q1;subst e;cases r1;obtain⟨its,rv,p,hz⟩:=I1.list hq;refine wpAny_pyIter_list p.isList ?_;refine⟨s1.heap.objs.size,[s1.heap.objs.size],_,_,H1,rfl,I1.kept (t':=s1.toks) λb o e=>dD _ e,VO a _,⟨_,gK _ rfl,rfl,rfl⟩,λb hb=>?_,q⟩;have e:b=s1.heap.objs.size:=by simpa using hb
 subst e;exact I1.nU (bX _) (I1.br.fresh (bX _))
theorem VT{l:Expr}{tl:TE}(hl:PE X l tl):PI X tg l (rS X.K tl):=by
 intro aJ s σ H R I h;refine aZ (hl aJ s σ H _ I h) λv s1 ⟨x,H1,I1,r1,q1⟩=>?_;obtain⟨a,e,⟨xs,hq⟩,q⟩:=q1;subst e;cases r1;obtain⟨its,rv,p,hz⟩:=I1.tuple hq;refine wpAny_pyIter_tuple (show s1.heap.IsTuple a its.toArray from p) ?_
 refine⟨s1.heap.objs.size,[s1.heap.objs.size],_,_,H1,rfl,I1.kept (t':=s1.toks) λb o e=>dD _ e,VP a _,⟨_,gK _ rfl,rfl,rfl⟩,λb hb=>?_,q⟩;have e:b=s1.heap.objs.size:=by simpa using hb
 subst e;exact I1.nU (bX _) (I1.br.fresh (bX _))
theorem VU{R:It→Hp→Prop}{lo hi:Int}{t u v:Tok}{tk:Nat}(I:Inv X aJ σ H s)(h1:-(2^62)≤lo)(h2:lo<2^62)(h3:-(2^62)≤hi)(h4:hi<2^62)
  (q:R (rR lo (hi-lo).toNat) H):wpAny (model X.prog X.w) X.A (pyIter (.ref s.heap.objs.size)) (Fv X aJ σ tg R) E { s with heap:=s.heap.push { cls:=.type "range",data:=.fields #[.int lo t,.int hi u,.int 1 v] },toks:=tk }:=by
 refine wpAny_pyIter_range (IsRange.new ..) (small_one h1 h2 h3 h4) ?_;have I1:Inv X aJ σ H { s with heap:=s.heap.push { cls:=.type "range",data:=.fields #[.int lo t,.int hi u,.int 1 v] },toks:=tk }:=I.kept λb o e=>dD _ e;refine⟨(s.heap.push { cls:=.type "range",data:=.fields #[.int lo t,.int hi u,.int 1 v] }).objs.size,[(s.heap.push { cls:=.type "range",data:=.fields #[.int lo t,.int hi u,.int 1 v] }).objs.size],_,_,H,rfl,
  I1.kept (t':=tk) λb o e=>dD _ e,VQ _ lo (hi-lo).toNat,?_,λb hb=>?_,q⟩
 ·have e1:lo+((0:Nat):Int)*1=lo:=by simp
  have e2:(((hi-lo).toNat:Nat):Int)-((0:Nat):Int)=Builtin.Range.rangeSize lo hi 1:=by rw[rangeSize_one];split<;>lia
  show IsRangeIter _ _ (lo+((0:Nat):Int)*1) ((((hi-lo).toNat:Nat):Int)-((0:Nat):Int)) 1;rw[e1,e2];exact gK _ rfl
 ·have e:b=(s.heap.push { cls:=.type "range",data:=.fields #[.int lo t,.int hi u,.int 1 v] }).objs.size:=by simpa using hb
  subst e;exact I1.nU (bX _) (I1.br.fresh (bX _))
def VW(ta:TA):TI:=λσ H R=>ta σ H λvs H1=>∃j:Int,vs=[.int j]∧-(2^62)≤j∧j<2^62∧R (rR 0 j.toNat) H1
theorem vk{a:Expr}{ta:TA}{p pos:Pos}(hg:Gl X "range")(hm:X.mg "range"=none)(ha:PA X [a] ta)(hs:starEach [a] X.env=[(false,eval a X.env)]:=by rfl):PI X tg (.Call (.Name "range" p) [a] [] pos) (VW ta):=by
 intro aJ s σ H R I h;refine Call_ (rO I hg hm boot_range (AK (aZ (ha pos aJ s σ H _ I h) λus s1 ⟨vs,H1,I1,r1,q1⟩=>?_) hs rfl));obtain⟨j,e,q1,q2,q⟩:=q1;subst e;cases r1 with
 |cons r rr=>
  cases rr;obtain⟨t,rfl⟩:=r;exact call_range_1 (VU I1 (by lia) (by lia) q1 q2 (by simpa using q))
def VX(wi:TI)(g:TG)(tb:TS):TS:=λD σ H=>wi σ H λJ H1=>∃W:Nat→Nat→St→Hp→Prop,(∃m,W 0 m σ H1)∧∀i m σ H,W i m σ H→
 (J.stop i H∧D.nx σ H)∨(J.go i H∧∃N:St→Hp→Prop,(∀σ' H',N σ' H'→∃m',m'<m∧W (i+1) m' σ' H')∧∀x H',J.p6 i H x H'→g x σ H' λσ2 H2=>tb { D with nx:=N,ct:=N,bk:=D.nx } σ2 H2)
noncomputable def xN(fp:List Addr)(h:Heap):List (Addr×Obj):=fp.filterMap λb=>(h.get? b).map λo=>(b,o)
theorem Bg{o:Obj}(hb:b∈fp)(e:h.get? b=some o):(b,o)∈xN fp h:=List.mem_filterMap.mpr ⟨b,hb,by rw[e];rfl⟩
theorem VY{p:Addr×Obj}(hp:p∈xN fp h):p.1∈fp∧h.get? p.1=some p.2:=by
 obtain⟨b,hb,e⟩:=List.mem_filterMap.mp hp;cases q:h.get? b with
 |none=>rw[q]at e;cases e
 |some o=>
  rw[q]at e;have e':(b,o)=p:=c7 e;subst e';exact⟨hb,q⟩
theorem Inv.pinned(I:Inv X aJ σ H s)(hf:∀b∈fp,jc X aJ H b)(ho:∀b∈fp,∃o,s.heap.get? b=some o∧∀v,o.data≠.cell v):Inv X (aJ++xN fp s.heap) σ H s:=
 I.AZ λp hp=>(c9.mp hp).elim (λz=>I.pin p (gY _ z)) λz=>by
  obtain⟨hb,e⟩:=VY z;obtain⟨f0,f1,f2,_⟩:=hf p.1 hb;obtain⟨o,e',d⟩:=ho p.1 hb;rw[e]at e';cases e';exact⟨e,f0,f1,f2,d⟩
theorem Inv.Fw{pl:List (Addr×Obj)}(I:Inv X (aJ++pl) σ H s):Inv X aJ σ H s:=I.AZ λp hp=>I.pin p (gY _ (lG _ hp))
theorem jw{iter:Expr}{wi:TI}{pos:Pos}(hp:PassesOwn (model X.prog X.w) X.A X.env X.xe)(hc:X.calm=true)(hi:PI X tg iter wi)(hg:PG X tg g)(hb:jb X body tb)
  (hs:∀x,foldedSetIterable iter X.env x=pure x:=by intro _;rfl):PS X (.For tg iter body [] pos) (VX wi g tb):=by
 intro aJ s σ H D I h;refine wpAny_For (aZ (hi aJ s σ H _ I h) λv s1 h1=>aZ h1 λBe s2 h2=>?_) hs;obtain⟨it,fp,tn,J,H2,e,I2,T,lO,f2,W,⟨m0,w0⟩,oX⟩:=h2;subst e;have Fx:∀{H':Hp},(∀b∈fp,H' b=none)→∀b∈fp,jc X aJ H' b:=λhn b hb=>⟨hn b hb,(f2 b hb).2⟩;refine codeAny_forLoop_any (λn s'=>∃i σ' H',Inv X aJ σ' H' s'∧tn i s'.heap∧(∀b∈fp,H' b=none)∧W i n σ' H') ?_ m0 ⟨0,σ,H2,I2,lO,λb hb=>(f2 b hb).1,w0⟩;rintro n s3 ⟨i,σ3,H3,I3,Mh,Mi,w3⟩;rcases oX i n σ3 H3 w3 with⟨stop,qn⟩|⟨go,N,hN,step⟩
 ·refine av hp (aZ (T.done X rfl rfl rfl hc i aJ s3 σ3 H3 X.xe I3 (Fx Mi) Mh stop) λr s4 ⟨hr,I4⟩=>?_);subst hr;exact ak ⟨σ3,H3,I4,qn⟩
 ·refine av hp (aZ (T.item X rfl rfl rfl hc i aJ s3 σ3 H3 X.xe I3 (Fx Mi) Mh go) λr s4 ⟨u,hr,h4⟩=>?_);subst hr;refine av hp (aZ h4 λ_ s5 ⟨x,H5,I5,r5,y5,Fy,Bh⟩=>?_);have VZ:=I5.pinned (Fx Bh) (T.obj _ _ Fy);refine av hp (aZ (hg _ s5 σ3 H5 x u _ VZ r5 (step x H5 y5)) λ_ s6 ⟨σ6,H6,I6,q6⟩=>?_);refine av hp (aZ (hb _ s6 σ6 H6 _ I6 q6) λf s7 q7=>?_);have again:∀{σ7:St}{H7:Hp},Inv X (aJ++xN fp s5.heap) σ7 H7 s7→N σ7 H7→∃m,m<n∧∃i σ' H',Inv X aJ σ' H' s7∧tn i s7.heap∧(∀b∈fp,H' b=none)∧W i m σ' H':=λ{σ7 H7} I7 n7=>by
   obtain⟨m',hm,w7⟩:=hN σ7 H7 n7;refine⟨m',hm,i+1,σ7,H7,I7.Fw,T.keep _ _ _ Fy λb hb o e=>(I7.pin (b,o) (gY _ (gY _ (Bg hb e)))).1,λb hb=>?_,w7⟩;obtain⟨o,e,d⟩:=T.obj _ _ Fy b hb;exact(I7.pin (b,o) (gY _ (gY _ (Bg hb e)))).2.1
  cases f with
  |next=>obtain⟨σ7,H7,I7,n7⟩:=q7;exact again I7 n7
  |cont=>obtain⟨σ7,H7,I7,n7⟩:=q7;exact again I7 n7
  |brk=>obtain⟨σ7,H7,I7,q7⟩:=q7;exact⟨σ7,H7,I7.Fw,q7⟩
  |ret v=>obtain⟨x7,σ7,H7,I7,r7,q7⟩:=q7;exact⟨x7,σ7,H7,I7.Fw,r7,q7⟩
end
theorem vm{K:Frag}(Pv:Nat→St→Hp→Prop)(h0:Pv 0 σ H)(hl:∀i σ H,i≤xs.length→Pv i σ H→di K H a xs)
  (hs:∀i x σ H,xs[i]?=some x→Pv i σ H→g x σ H λσ2 H2=>tb { D with nx:=Pv (i+1),ct:=Pv (i+1),bk:=D.nx } σ2 H2) (hd:∀σ H,Pv xs.length σ H→D.nx σ H) :
  ∃W:Nat→Nat→St→Hp→Prop,(∃m,W 0 m σ H)∧∀i m σ H,W i m σ H→
   ((qI K a).stop i H∧D.nx σ H)∨((qI K a).go i H∧∃N:St→Hp→Prop,(∀σ' H',N σ' H'→∃m',m'<m∧W (i+1) m' σ' H')∧∀x H',(qI K a).p6 i H x H'→g x σ H' λσ2 H2=>tb { D with nx:=N,ct:=N,bk:=D.nx } σ2 H2):=by
 refine⟨λi m σ H=>m=xs.length-i∧i≤xs.length∧Pv i σ H,⟨xs.length,by simp,jq _,h0⟩,?_⟩;rintro i m σ H ⟨rfl,hi,p⟩;have q:=hl i σ H hi p;by_cases cX:i<xs.length
 ·refine .inr ⟨⟨xs,xs[i],q,by simp[cX]⟩,Pv (i+1),λσ' H' p'=>⟨xs.length-(i+1),by lia,rfl,cX,p'⟩,λx H' y=>?_⟩;obtain⟨e,y⟩:=y;subst e;exact hs i x σ _ (y xs q) p
 ·have e:i=xs.length:=by lia
  subst e;exact .inl ⟨⟨xs,q,bX _⟩,hd σ H p⟩
theorem Bi{K:Frag}(Pv:Nat→St→Hp→Prop)(h0:Pv 0 σ H)(hl:∀i σ H,i≤xs.length→Pv i σ H→bc K H a xs)
  (hs:∀i x σ H,xs[i]?=some x→Pv i σ H→g x σ H λσ2 H2=>tb { D with nx:=Pv (i+1),ct:=Pv (i+1),bk:=D.nx } σ2 H2) (hd:∀σ H,Pv xs.length σ H→D.nx σ H) :
  ∃W:Nat→Nat→St→Hp→Prop,(∃m,W 0 m σ H)∧∀i m σ H,W i m σ H→
   ((qJ K a).stop i H∧D.nx σ H)∨((qJ K a).go i H∧∃N:St→Hp→Prop,(∀σ' H',N σ' H'→∃m',m'<m∧W (i+1) m' σ' H')∧∀x H',(qJ K a).p6 i H x H'→g x σ H' λσ2 H2=>tb { D with nx:=N,ct:=N,bk:=D.nx } σ2 H2):=by
 refine⟨λi m σ H=>m=xs.length-i∧i≤xs.length∧Pv i σ H,⟨xs.length,by simp,jq _,h0⟩,?_⟩;rintro i m σ H ⟨rfl,hi,p⟩;have q:=hl i σ H hi p;by_cases cX:i<xs.length
 ·refine .inr ⟨⟨xs,xs[i],q,by simp[cX]⟩,Pv (i+1),λσ' H' p'=>⟨xs.length-(i+1),by lia,rfl,cX,p'⟩,λx H' y=>?_⟩;obtain⟨e,y⟩:=y;subst e;exact hs i x σ _ (y xs q) p
 ·have e:i=xs.length:=by lia
  subst e;exact .inl ⟨⟨xs,q,bX _⟩,hd σ H p⟩
theorem xO{lo:Int}(Pv:Nat→St→Hp→Prop)(h0:Pv 0 σ H)
  (hs:∀i σ H,i<n→Pv i σ H→g (.int (lo+i)) σ H λσ2 H2=>tb { D with nx:=Pv (i+1),ct:=Pv (i+1),bk:=D.nx } σ2 H2) (hd:∀σ H,Pv n σ H→D.nx σ H) :
  ∃W:Nat→Nat→St→Hp→Prop,(∃m,W 0 m σ H)∧∀i m σ H,W i m σ H→
   ((rR lo n).stop i H∧D.nx σ H)∨((rR lo n).go i H∧∃N:St→Hp→Prop,(∀σ' H',N σ' H'→∃m',m'<m∧W (i+1) m' σ' H')∧∀x H',(rR lo n).p6 i H x H'→g x σ H' λσ2 H2=>tb { D with nx:=N,ct:=N,bk:=D.nx } σ2 H2):=by
 refine⟨λi m σ H=>m=n-i∧i≤n∧Pv i σ H,⟨n,by simp,jq _,h0⟩,?_⟩;rintro i m σ H ⟨rfl,hi,p⟩;by_cases cX:i<n
 ·refine .inr ⟨cX,Pv (i+1),λσ' H' p'=>⟨n-(i+1),by lia,rfl,cX,p'⟩,λx H' y=>?_⟩;obtain⟨e,y⟩:=y;subst e y;exact hs i σ _ cX p
 ·have e:i=n:=by lia
  subst e;exact .inl ⟨bX _,hd σ H p⟩
abbrev R2:=V→V→Hp→VK→Prop
def dY(X:Cx)(f:Value→Value→Sem Value)(r:R2):Prop:=
 ∀(aJ:List (Addr×Obj))(s:Shared)(σ:St)(H:Hp)(x y:V)(v u:Value)(Q:VK),Inv X aJ σ H s→RelV x v→RelV y u→r x y H Q→
  wpAny (model X.prog X.w) X.A (f v u) (EP X aJ σ Q) X.xe s
def Fz(X:Cx)(f:Value→Sem Value)(r:V→Hp→VK→Prop):Prop:=
 ∀(aJ:List (Addr×Obj))(s:Shared)(σ:St)(H:Hp)(x:V)(v:Value)(Q:VK),Inv X aJ σ H s→RelV x v→r x H Q→
  wpAny (model X.prog X.w) X.A (f v) (EP X aJ σ Q) X.xe s
def fq(X:Cx)(f:Value)(r:List V→Hp→VK→Prop):Prop:=
 ∀(aJ:List (Addr×Obj))(s:Shared)(σ:St)(H:Hp)(xs:List V)(us:List Value)(Q:VK),Inv X aJ σ H s→Vals xs us→r xs H Q→
  wpAny (model X.prog X.w) X.A (call f us) (EP X aJ σ Q) X.xe s
def V0(X:Cx)(r:V→Hp→(Bool→Hp→Prop)→Prop):Prop:=
 ∀(aJ:List (Addr×Obj))(s:Shared)(σ:St)(H:Hp)(x:V)(v:Value)(Q:Bool→Hp→Prop),Inv X aJ σ H s→RelV x v→r x H Q→
  wpAny (model X.prog X.w) X.A (truthy v) (TP X aJ σ Q) X.xe s
def bp(r:R2)(ta tb:TE):TE:=λσ H Q=>ta σ H λx H1=>tb σ H1 λy H2=>r x y H2 Q
def Mj(r:V→Hp→VK→Prop)(ta:TE):TE:=λσ H Q=>ta σ H λx H1=>r x H1 Q
def rI(C:Int→Int→Prop)(g:Int→Int→V):R2:=λx y H Q=>∃i j,x=.int i∧y=.int j∧C i j∧Q (g i j) H
def eS(g:Int→Int→V):R2:=λx y H Q=>∃i j,x=.int i∧y=.int j∧Q (g i j) H
def rU(g:Int→V):V→Hp→VK→Prop:=λx H Q=>∃i,x=.int i∧Q (g i) H
section
variable{X:Cx}{a b c:Expr}{ta tb tc:TE}{pos:Pos}
theorem FD(ha:PE X a ta)(hb:PE X b tb){R:V→V→Hp→Prop}(I:Inv X aJ σ H s)
  (h:ta σ H λx H1=>tb σ H1 λy H2=>R x y H2) {Q:QV} {f:Value→Value→Sem Value}
  (hf:∀v u s2 x y H2,Inv X aJ σ H2 s2→RelV x v→RelV y u→R x y H2→wpAny (model X.prog X.w) X.A (f v u) Q X.xe s2) :
  wpAny (model X.prog X.w) X.A (eval a X.env) (λv s₁=>wpAny (model X.prog X.w) X.A (eval b X.env) (λu s₂=>wpAny (model X.prog X.w) X.A (f v u) Q X.xe s₂) X.xe s₁) X.xe s:=by
 refine aZ (ha aJ s σ H _ I h) λv s1 ⟨x,H1,I1,r1,q1⟩=>?_;refine aZ (hb aJ s1 σ H1 _ I1 q1) λu s2 ⟨y,H2,I2,r2,q2⟩=>?_;exact hf v u s2 x y H2 I2 r1 r2 q2
theorem aV{op:Operator}{r:R2}(ho:dY X (binaryOp op) r)(ha:PE X a ta)(hb:PE X b tb):PE X (.BinOp a op b pos) (bp r ta tb):=by
 intro aJ s σ H Q I h;exact wpAny_BinOp (FD ha hb I h λv u s2 x y H2 I2 rx ry q=>ho aJ s2 σ H2 x y v u Q I2 rx ry q)
theorem rT{op:UnaryOp}{r:V→Hp→VK→Prop}(ho:Fz X (unaryOp op) r)(ha:PE X a ta):PE X (.UnaryOp op a pos) (Mj r ta):=by
 intro aJ s σ H Q I h;exact UnaryOp_ (aZ (ha aJ s σ H _ I h) λv s1 ⟨x,H1,I1,r1,q1⟩=>ho aJ s1 σ H1 x v Q I1 r1 q1)
theorem FE{C:Int→Int→Prop}{g:Int→Int→Int}
  (rule:∀(i j:Int)(t u:Tok)(s:Shared)(Q:QV)(E:QV),C i j→Q (.int (g i j) s.toks) { s with toks:=s.toks+1 }→wpAny (model X.prog X.w) X.A (f (.int i t) (.int j u)) Q E s) :
  dY X f (rI C λi j=>.int (g i j)):=by
 intro aJ s σ H x y v u Q I rx ry h;obtain⟨i,j,rfl,rfl,hc,q⟩:=h;obtain⟨t,rfl⟩:=rx;obtain⟨t',rfl⟩:=ry;exact rule i j t t' s _ _ hc ⟨.int (g i j),H,I.tok _,⟨_,rfl⟩,q⟩
theorem Mk{g:Int→Int→Int}
  (rule:∀(i j:Int)(t u:Tok)(s:Shared)(Q:QV)(E:QV),Q (.int (g i j) s.toks) { s with toks:=s.toks+1 }→wpAny (model X.prog X.w) X.A (f (.int i t) (.int j u)) Q E s) :
  dY X f (eS λi j=>.int (g i j)):=by
 intro aJ s σ H x y v u Q I rx ry h;obtain⟨i,j,rfl,rfl,q⟩:=h;obtain⟨t,rfl⟩:=rx;obtain⟨t',rfl⟩:=ry;exact rule i j t t' s _ _ ⟨.int (g i j),H,I.tok _,⟨_,rfl⟩,q⟩
theorem FF{g:Int→Int→Bool}
  (rule:∀(i j:Int)(t u:Tok)(s:Shared)(Q:QV)(E:QV),Q (.bool (g i j)) s→wpAny (model X.prog X.w) X.A (f (.int i t) (.int j u)) Q E s) :
  dY X f (eS λi j=>.bl (g i j)):=by
 intro aJ s σ H x y v u Q I rx ry h;obtain⟨i,j,rfl,rfl,q⟩:=h;obtain⟨t,rfl⟩:=rx;obtain⟨t',rfl⟩:=ry;exact rule i j t t' s _ _ ⟨.bl (g i j),H,I,rfl,q⟩
def qK(i j:Int):Prop:=0<j∧j<1073741824
def FG(i j:Int):Prop:=(-(2^64)<i∧i<2^64)∨(-(2^64)<j∧j<2^64)
theorem FG.ok{i j:Int}(h:FG i j):IntMulOk i j:=by
 rcases h with⟨h1,h2⟩|⟨h1,h2⟩
 ·exact .of_left (intBits_le_64 h1 h2)
 ·exact .of_right (intBits_le_64 h1 h2)
theorem eB:dY X (binaryOp .Add) (eS λi j=>.int (i+j)):=Mk λ_ _ _ _ _ _ _ q=>add_int q
theorem jU:dY X (binaryOp .Sub) (eS λi j=>.int (i-j)):=Mk λ_ _ _ _ _ _ _ q=>sub_int q
theorem xP:dY X (binaryOp .Mult) (rI FG λi j=>.int (i*j)):=FE λ_ _ _ _ _ _ _ hc q=>mul_int q hc.ok
theorem iU:dY X (binaryOp .FloorDiv) (rI qK λi j=>.int (i/j)):=FE λi j _ _ _ _ _ hc q=>by
 have h1:(0:Int)<j:=hc.1;have h2:j<1073741824:=hc.2;exact floordiv_int (by lia) (by rw[Int.fdiv_eq_ediv_of_nonneg i (by lia)];exact q) (.inl (PyProof.noPylong_small (by lia)))
theorem ft:dY X (binaryOp .Mod) (rI (λ_ j=>0<j) λi j=>.int (i%j)):=FE λi j _ _ _ _ _ hc q=>by
 have h1:(0:Int)<j:=hc;exact mod_int' (by lia) (by rw[Int.fmod_eq_emod_of_nonneg i (by lia)];exact q)
theorem V1{f:Value→Sem Value}{g:Int→Int}
  (rule:∀(i:Int)(t:Tok)(s:Shared)(Q:QV)(E:QV),Q (.int (g i) s.toks) { s with toks:=s.toks+1 }→wpAny (model X.prog X.w) X.A (f (.int i t)) Q E s) :
  Fz X f (rU λi=>.int (g i)):=by
 intro aJ s σ H x v Q I rx h;obtain⟨i,rfl,q⟩:=h;obtain⟨t,rfl⟩:=rx;exact rule i t s _ _ ⟨.int (g i),H,I.tok _,⟨_,rfl⟩,q⟩
theorem rV:Fz X (unaryOp .USub) (rU λi=>.int (-i)):=V1 λ_ _ _ _ _ q=>neg_int q
end
noncomputable def Ml:V→V→Bool
 | .cm,.cm=>true | .cm,.int _=>true | .int _,.cm=>true | .cm,.bl _=>true | .bl _,.cm=>true | .cm,.str _=>true | .str _,.cm=>true
 | .int _,.int _=>true | .bl _,.bl _=>true | .str _,.str _=>true | .mI _,.mI _=>true
 | .int _,.str _=>true | .str _,.int _=>true | .bl _,.str _=>true | .str _,.bl _=>true
 |_,_=>false
def oY:R2:=λx y H Q=>Ml x y=true∧Q (.bl (decide (x=y))) H
def V2:R2:=λx y H Q=>Ml x y=true∧Q (.bl (!decide (x=y))) H
theorem FH{i j:Int}:decide (V.int i=V.int j)=(i==j):=by
 rw[Bool.eq_iff_iff];simp
theorem Mm{i j:Bool}:decide (V.bl i=V.bl j)=(i==j):=by
 rw[Bool.eq_iff_iff];simp
theorem Mn{i j:Str}:decide (V.str i=V.str j)=(i==j):=by
 rw[Bool.eq_iff_iff];simp
theorem Mo{i j:Array UInt8}:decide (V.mI i=V.mI j)=(i.toList==j.toList):=by
 rw[Bool.eq_iff_iff];cases i;cases j;simp
section
variable{X:Cx}{a b c:Expr}{ta tb tc:TE}{pos:Pos}
theorem eT{Q:VK}{k k':Bool}(I:Inv X aJ σ H s)(q:Q (.bl k) H)(e:k=k'):EP X aJ σ Q (.bool k') s:=by
 subst e;exact⟨.bl k,H,I,rfl,q⟩
theorem dM:dY X (compareOp .Eq) oY:=by
 intro aJ s σ H x y v u Q I rx ry h;obtain⟨hs,q⟩:=h;cases x with
 |cm=>
  cases rx;cases y with
  |cm=>cases ry;exact PySem.EqNone.eq_none_none (eT I q (by simp))
  |bl j=>cases ry;exact PySem.EqNone.eq_none_bool (eT I q (by simp))
  |int j=>obtain⟨t',rfl⟩:=ry;exact PySem.EqNone.eq_none_int (eT I q (by simp))
  |str j=>obtain⟨t',rfl⟩:=ry;exact PySem.EqNone.eq_none_str (eT I q (by simp))
  |_=>exact absurd (show false=true from hs) gJ
 |bl i=>
  cases rx;cases y with
  |cm=>cases ry;exact PySem.EqNone.eq_bool_none (eT I q (by simp))
  |bl j=>cases ry;exact eq_bool (eT I q Mm)
  |str j=>obtain⟨t',rfl⟩:=ry;exact PySem.EqMixed.eq_bool_str (eT I q (by simp))
  |_=>exact absurd (show false=true from hs) gJ
 |int i=>
  obtain⟨t,rfl⟩:=rx;cases y with
  |cm=>cases ry;exact PySem.EqNone.eq_int_none (eT I q (by simp))
  |int j=>obtain⟨t',rfl⟩:=ry;exact eq_int (eT I q FH)
  |str j=>obtain⟨t',rfl⟩:=ry;exact PySem.EqMixed.eq_int_str (eT I q (by simp))
  |_=>exact absurd (show false=true from hs) gJ
 |str i=>
  obtain⟨t,rfl⟩:=rx;cases y with
  |cm=>cases ry;exact PySem.EqNone.eq_str_none (eT I q (by simp))
  |bl j=>cases ry;exact PySem.EqMixed.eq_str_bool (eT I q (by simp))
  |int j=>obtain⟨t',rfl⟩:=ry;exact PySem.EqMixed.eq_str_int (eT I q (by simp))
  |str j=>obtain⟨t',rfl⟩:=ry;exact eq_str (eT I q Mn)
  |_=>exact absurd (show false=true from hs) gJ
 |mI i=>
  obtain⟨t,rfl⟩:=rx;cases y with
  |mI j=>obtain⟨t',rfl⟩:=ry;exact PySem.W.eq_bytes (eT I q Mo)
  |_=>exact absurd (show false=true from hs) gJ
 |_=>cases y<;>exact absurd (show false=true from hs) gJ
theorem oZ:dY X (compareOp .NotEq) V2:=by
 intro aJ s σ H x y v u Q I rx ry h;obtain⟨hs,q⟩:=h;cases x with
 |cm=>
  cases rx;cases y with
  |cm=>cases ry;exact PySem.EqNone.ne_none_none (eT I q (by simp))
  |bl j=>cases ry;exact PySem.EqNone.ne_none_bool (eT I q (by simp))
  |int j=>obtain⟨t',rfl⟩:=ry;exact PySem.EqNone.ne_none_int (eT I q (by simp))
  |str j=>obtain⟨t',rfl⟩:=ry;exact PySem.EqNone.ne_none_str (eT I q (by simp))
  |_=>exact absurd (show false=true from hs) gJ
 |bl i=>
  cases rx;cases y with
  |cm=>cases ry;exact PySem.EqNone.ne_bool_none (eT I q (by simp))
  |bl j=>cases ry;exact ne_bool (eT I q (aj not Mm))
  |str j=>obtain⟨t',rfl⟩:=ry;exact PySem.EqMixed.ne_bool_str (eT I q (by simp))
  |_=>exact absurd (show false=true from hs) gJ
 |int i=>
  obtain⟨t,rfl⟩:=rx;cases y with
  |cm=>cases ry;exact PySem.EqNone.ne_int_none (eT I q (by simp))
  |int j=>obtain⟨t',rfl⟩:=ry;exact ne_int (eT I q (aj not FH))
  |str j=>obtain⟨t',rfl⟩:=ry;exact PySem.EqMixed.ne_int_str (eT I q (by simp))
  |_=>exact absurd (show false=true from hs) gJ
 |str i=>
  obtain⟨t,rfl⟩:=rx;cases y with
  |cm=>cases ry;exact PySem.EqNone.ne_str_none (eT I q (by simp))
  |bl j=>cases ry;exact PySem.EqMixed.ne_str_bool (eT I q (by simp))
  |int j=>obtain⟨t',rfl⟩:=ry;exact PySem.EqMixed.ne_str_int (eT I q (by simp))
  |str j=>obtain⟨t',rfl⟩:=ry;exact ne_str (eT I q (aj not Mn))
  |_=>exact absurd (show false=true from hs) gJ
 |mI i=>
  obtain⟨t,rfl⟩:=rx;cases y with
  |mI j=>obtain⟨t',rfl⟩:=ry;exact PySem.W.ne_bytes (eT I q (aj not Mo))
  |_=>exact absurd (show false=true from hs) gJ
 |_=>cases y<;>exact absurd (show false=true from hs) gJ
theorem FJ:dY X (compareOp .Lt) (eS λi j=>.bl (decide (i<j))):=FF λ_ _ _ _ _ _ _ q=>lt_int q
theorem FK:dY X (compareOp .LtE) (eS λi j=>.bl (decide (i≤j))):=FF λ_ _ _ _ _ _ _ q=>le_int q
theorem tN:dY X (compareOp .Gt) (eS λi j=>.bl (decide (j<i))):=FF λ_ _ _ _ _ _ _ q=>gt_int q
theorem Mp:dY X (compareOp .Is) (λx y H Q=>y=.cm∧Q (.bl (decide (x=.cm))) H):=by
 intro aJ s σ H x y v u Q I rx ry h;obtain⟨rfl,q⟩:=h;cases ry;refine is_none_gen (eT I q ?_);cases x<;>first
  |(cases rx;rfl)
  |(obtain⟨t,rfl⟩:=rx;rfl)
theorem Mq:dY X (compareOp .IsNot) (λx y H Q=>y=.cm∧Q (.bl (!decide (x=.cm))) H):=by
 intro aJ s σ H x y v u Q I rx ry h;obtain⟨rfl,q⟩:=h;cases ry;refine isnot_none_gen (eT I q ?_);cases x<;>first
  |(cases rx;rfl)
  |(obtain⟨t,rfl⟩:=rx;rfl)
theorem cx(b:Expr)(h:op≠.In:=by decide)(h2:op≠.NotIn:=by decide):behindInMarks op b=false:=by
 have e1:(op==CmpOp.In)=false:=by cases op<;>first|rfl|exact absurd rfl h
 have e2:(op==CmpOp.NotIn)=false:=by cases op<;>first|rfl|exact absurd rfl h2
 cases b<;>simp[behindInMarks,e1,e2]
theorem nV{r:R2}(ho:dY X (compareOp op) r)(ha:PE X a ta)(hb:PE X b tb)(hm:behindInMarks op b=false):PE X (.Compare a [op] [b] pos) (bp r ta tb):=by
 intro aJ s σ H Q I h;exact wpAny_Compare1 (FD ha hb I h λv u s2 x y H2 I2 rx ry q=>ho aJ s2 σ H2 x y v u Q I2 rx ry q) hm
def jx(t:TE):TT:=λσ H Q=>t σ H λx H'=>∃k,x=.bl k∧Q k H'
theorem cC{r:R2}(ho:dY X (compareOp op) r)(ha:PE X a ta)(hb:PE X b tb)(hm:behindInMarks op b=false):PT X (.Compare a [op] [b] pos) (jx (bp r ta tb)):=by
 intro aJ s σ H Q I h;refine wpAny_isTrue_Compare1 (aZ (ha aJ s σ H _ I h) λv s1 ⟨x,H1,I1,r1,q1⟩=>aZ (hb aJ s1 σ H1 _ I1 q1) λu s2 ⟨y,H2,I2,r2,q2⟩=>
  aZ (ho aJ s2 σ H2 x y v u _ I2 r1 r2 q2) λc s3 ⟨z,H3,I3,r3,k,e,q3⟩=>?_) hm
 subst e;cases r3;exact ai ⟨H3,I3,q3⟩
def V3(r r':R2)(ta tb tc:TE):TE:=λσ H Q=>ta σ H λx H1=>tb σ H1 λy H2=>r x y H2 λz H3=>∃k,z=.bl k∧
 (if k=true then tc σ H3 λw' H4=>r' y w' H4 Q else Q (.bl false) H3)
theorem V4{FN:CmpOp}{r r':R2}(ho:dY X (compareOp op) r)(qF:dY X (compareOp FN) r')(ha:PE X a ta)(hb:PE X b tb)(hc:PE X c tc)
  (hm:lastMarks [op,FN] [b,c]=false:=by with_unfolding_all rfl):PT X (.Compare a [op,FN] [b,c] pos) (jx (V3 r r' ta tb tc)):=by
 intro aJ s σ H Q I h;refine isTrue_chain (aZ (ha aJ s σ H _ I h) λv s1 ⟨x,H1,I1,r1,q1⟩=>test_link (aZ (hb aJ s1 σ H1 _ I1 q1) λu s2 ⟨y,H2,I2,r2,q2⟩=>
  aZ (ho aJ s2 σ H2 x y v u _ I2 r1 r2 q2) λd s3 ⟨z,H3,I3,r3,k,e,q3⟩=>?_)) hm
 subst e;cases r3;refine ai ?_;cases k with
 |false=>
  obtain⟨k',e',q'⟩:=q3;cases e';exact ite_ff ⟨H3,I3,q'⟩
 |true=>
  refine ite_tt (test_last (aZ (hc aJ s3 σ H3 _ I3 q3) λw' s4 ⟨z',H4,I4,r4,q4⟩=>aZ (qF aJ s4 σ H4 y z' u w' _ I4 r2 r4 q4) λd' s5 ⟨z2,H5,I5,r5,k2,e2,q5⟩=>?_));subst e2;cases r5;exact ai ⟨H5,I5,q5⟩
def Mr(K:Frag)(x:V)(H:Hp)(k:Bool):Prop:=
 match x with
 | .cm=>k=false
 | .bl b=>k=b
 | .int i=>k=(i != 0)
 | .str y=>y.length≤sizeLine∧k=((y.length:Int) != 0)
 | .mI y=>y.size≤sizeLine∧k=((y.size:Int) != 0)
 | .ref p=>(∃xs,di K H p xs∧k=!xs.isEmpty)∨(∃xs,bc K H p xs∧k=!xs.isEmpty)∨∃aU,H p=some (.dK aU)∧k=!aU.isEmpty
 |_=>False
theorem V5{κ:Type}{aU:List (κ×V)}{vs:List (κ×Value)}(r:KV aU vs):(!vs.isEmpty)=!aU.isEmpty:=by
 cases r<;>rfl
theorem Ms{its:List Value}(r:Vals xs its):(!its.toArray.isEmpty)=!xs.isEmpty:=by
 cases r<;>simp
theorem xQ:(sizeLine:Nat)<2^63:=by rw[sizeLine_eq];decide
theorem V6:V0 X (λx H Q=>∃k,Mr X.K x H k∧Q k H):=by
 intro aJ s σ H x v Q I rx h;obtain⟨k,e,q⟩:=h;have hl:=xQ;have hs:sizeLine=16777216:=sizeLine_eq;cases x with
 |cm=>
  cases rx;have e':k=false:=e;subst e';exact truthy_none ⟨H,I,q⟩
 |bl b=>
  cases rx;have e':k=b:=e;subst e';exact ai ⟨H,I,q⟩
 |int i=>
  obtain⟨t,rfl⟩:=rx;have e':k=(i != 0):=e;subst e';exact PySem.P.truthy_int ⟨H,I,q⟩
 |str y=>
  obtain⟨t,rfl⟩:=rx;obtain⟨hy,e'⟩:y.length≤sizeLine∧k=((y.length:Int) != 0):=e;subst e';exact PySem.P.truthy_str (by lia) ⟨H,I.tok _,q⟩
 |mI y=>
  obtain⟨t,rfl⟩:=rx;obtain⟨hy,e'⟩:y.size≤sizeLine∧k=((y.size:Int) != 0):=e;subst e';exact PySem.W.truthy_bytes (by lia) ⟨H,I.tok _,q⟩
 |ref p=>
  cases rx;have e':(∃xs,di X.K H p xs∧k=!xs.isEmpty)∨(∃xs,bc X.K H p xs∧k=!xs.isEmpty)∨∃aU,H p=some (.dK aU)∧k=!aU.isEmpty:=e;rcases e' with⟨xs,hx,e'⟩|⟨xs,hx,e'⟩|⟨aU,hx,e'⟩
  ·subst e';obtain⟨its,r,pl,hz⟩:=I.list hx;have cE:=r.length;exact wpAny_truthy_list pl.isList (by simp only[dG];lia) ⟨H,I.tok _,by rw[Ms r];exact q⟩
  ·subst e';obtain⟨its,r,pl,hz⟩:=I.tuple hx;have cE:=r.length;exact truthy_tuple pl (by simp only[dG];lia) ⟨H,I.tok _,by rw[Ms r];exact q⟩
  ·subst e';obtain⟨hz,hS,vs,r,m⟩:aU.length≤sizeLine∧(p==sysModules)=false∧∃vs,KV aU vs∧s.heap.DictOf (jS X.prog X.w) p vs:=I.br p _ hx;have cE:aU.length=vs.length:=Paired.length r;exact wpAny_truthy_dict hS m (by lia) ⟨H,I.tok _,by rw[V5 r];exact q⟩
 |_=>exact(show False from e).elim
theorem FO(ha:PE X a ta)(he:∀qG,isTrue a X.env qG=(do let v ← qG;standAt a.pos;holding [v] (truthy v))) :
  PT X a (λσ H Q=>ta σ H λx H'=>∃k,Mr X.K x H' k∧Q k H'):=by
 intro aJ s σ H Q I h;exact isTrue_plain (aZ (ha aJ s σ H _ I h) λv s1 ⟨x,H1,I1,r1,q1⟩=>V6 aJ s1 σ H1 x v Q I1 r1 q1) (he _)
theorem vals1{x:V}(r:Vals [x] us):∃u,us=[u]∧RelV x u:=by
 cases r with
 |cons r1 r2=>cases r2;exact⟨_,rfl,r1⟩
theorem vals2{x y:V}(r:Vals [x,y] us):∃u w',us=[u,w']∧RelV x u∧RelV y w':=by
 cases r with
 |cons r1 r2=>
  cases r2 with
  |cons r3 r4=>cases r4;exact⟨_,_,rfl,r1,r3⟩
theorem FP(hc:X.calm=true):fq X (.builtin "max") (λxs H Q=>∃i j,xs=[.int i,.int j]∧Q (.int (if j>i then j else i)) H):=by
 intro aJ s σ H xs us Q I r h;obtain⟨i,j,rfl,q⟩:=h;obtain⟨u,w',rfl,⟨t,rfl⟩,⟨t',rfl⟩⟩:=vals2 r;refine max_two_ints (I.ok.hd hc) λh' tk k=>⟨_,H,I.kept k,?_,q⟩;by_cases hj:j>i
 ·rw[af hj,af hj];exact⟨_,rfl⟩
 ·rw[ag hj,ag hj];exact⟨_,rfl⟩
theorem V7:fq X (.type "int") (λxs H Q=>(∃i,xs=[.int i]∧Q (.int i) H)∨∃k,xs=[.bl k]∧Q (.int (if k then 1 else 0)) H):=by
 intro aJ s σ H xs us Q I r h;rcases h with⟨i,rfl,q⟩|⟨k,rfl,q⟩
 ·obtain⟨u,rfl,t,rfl⟩:=vals1 r;exact call_int_int ⟨.int i,H,I,⟨_,rfl⟩,q⟩
 ·obtain⟨u,rfl,r1⟩:=vals1 r;cases r1;exact call_int_bool ⟨.int (if k then 1 else 0),H,I.tok _,⟨_,rfl⟩,q⟩
end
structure FQ(h:Heap)(x dx C:Addr)(mA:Str→Option Value):Prop where
 obj:h.get? x=some (PySem.W.instObj C dx)
 ns:h.Ns1 dx mA
 ne:dx≠x
theorem V8{dx:Addr}{mA:Str→Option Value}(n:h.Ns1 dx mA):∃od,h.get? dx=some od∧∀name,PySem.W.lookIn name od=some (mA name):=by
 obtain⟨o,es,ep,ho,hd,hk,_,hm⟩:=n;refine⟨o,ho,λname=>?_⟩;have e:=hm name;unfold nsFind findBy at e;rw[← Array.find?_toList]at e;unfold PySem.W.lookIn;rw[hd];dsimp only;split
 ·rename_i y q
  rw[q]at e;exact aj some e
 ·rename_i q
  rw[q]at e;have a:es.toList.any (·.refKey)=false:=by
   rw[List.any_eq_false];intro y hy;obtain⟨z,t,V9⟩:=hk y (Array.mem_toList_iff.mp hy);simp[DictEntry.refKey,V9]
  have a':¬es.toList.any (·.refKey)=true:=by rw[a];exact gJ
  rw[ag a'];exact aj some e
theorem FQ.look{x dx C:Addr}{mA:Str→Option Value}(I:FQ h x dx C mA):∃od,PySem.W.InstAt h x (PySem.W.instObj C dx) C (some od)∧∀name,PySem.W.lookIn name od=some (mA name):=
 let ⟨od,ho,hl⟩:=V8 I.ns
 ⟨od,⟨I.obj,rfl,rfl,ho⟩,hl⟩
section
variable{prog:Program}{w:World}{A:Around}{E:QV}{s:Shared}{K:Frag}{x dx C f:Addr}{mA:Str→Option Value}{name:Str}{v:Value}
end
theorem oR.some_of{o:Option Value}(r:oR (some v) o):∃u,o=some u∧RelV v u:=by
 cases o with
 |none=>exact(show False from r).elim
 |some u=>exact⟨u,rfl,r⟩
section
variable{P:Program}{w:World}{H H':Hp}{h h':Heap}{a C dx:Addr}{fs xy:List (Str×V)}
theorem Wa(br:dI P w H h)(e:H a=some (.ins C dx fs)):∃mA,FQ h a dx C mA∧(∀f,oR (fs.lookup f) (mA f))∧PySem.Within mA (fs.map (·.1))∧fs.length≤1000∧H dx=some (.own a):=by
 obtain⟨d,z,ne,ob,mA,n,r,q⟩:=(show ek P w H h a (.ins C dx fs) from br a _ e)
 exact⟨mA,⟨ob,n,ne⟩,r,q,z,d⟩
end
structure FR(K:Frag)(C:Addr):Prop where
 pg:PySem.W.plainGet K C Str.empty=true
 hd:PySem.W.hasDictIn K C=true
 po:PySem.W.plainOver K C=true
 sa:PySem.W.findIn K (.ref C) "__setattr__"=some (some (.builtin "object.__setattr__"))
theorem FR.get{K:Frag}{C:Addr}(c:FR K C)(f:Str):PySem.W.plainGet K C f=true:=c.pg
section
variable{X:Cx}{aJ:List (Addr×Obj)}{σ:St}{H:Hp}{s:Shared}{a C dx:Addr}{fs:List (Str×V)}{f:Str}{v:V}{A:Around}{E:QV}
end
section
variable{X:Cx}{o e value:Expr}{f:Str}{pos oV Wb:Pos}{ta tv:TE}
end
section
variable{X:Cx}{aJ:List (Addr×Obj)}{σ:St}{H:Hp}{s:Shared}{A:Around}{E:QV}{Q:QV}{c:Value}{b:Bool}
inductive mV(K:Frag)(H:Hp):V→Value→Prop where
 |cm:mV K H .cm (.type "NoneType")
 |bl (x:Bool):mV K H (.bl x) (.type "bool")
 |int (i:Int):mV K H (.int i) (.type "int")
 |str (x:Str):mV K H (.str x) (.type "str")
 |vc (x:UInt64):mV K H (.vc x) (.type "float")
 |lst {a:Addr} {xs:List V} (e:H a=some (.lst xs)):mV K H (.ref a) (.type "list")
 |ja {a:Addr} {o:Obj} {xs:List V} (e:H a=some (.ja o (.lst xs))):mV K H (.ref a) (.type "list")
 |tup {a:Addr} {xs:List V} (e:H a=some (.tup xs)):mV K H (.ref a) (.type "tuple")
 |dK {a:Addr} {aU:List (Key×V)} (e:H a=some (.dK aU)):mV K H (.ref a) (.type "dict")
 |dT {a:Addr} {aU:List (List Key×V)} (e:H a=some (.dT aU)):mV K H (.ref a) (.type "dict")
 |ins {a C dx:Addr} {fs:List (Str×V)} (e:H a=some (.ins C dx fs)) (cl:FR K C) (ha:PySem.W.findIn K (.ref C) "__class__"=some (some (.builtin "object.__class__")))
   (hn:PySem.W.specialIn K (.builtin "object.__class__") "__get__"=some (some (.builtin "getset_descriptor.__get__"))) (rW:PySem.W.takesIn K (.builtin "object.__class__")=some true)
   (hm:PySem.W.mroIn K C (.type "object")=some true):mV K H (.ref a) (.ref C)
theorem Wc{x:V}{t:Value}(I:Inv X aJ σ H s)(rx:RelV x u)(ty:mV X.K H x t)(e:kitOne X.K t c=some b)(h:∀tk,Q (.bool b) { s with toks:=tk }) :
  wpAny (model X.prog X.w) A (call (.builtin "isinstance") [u,c]) Q E s:=by
 cases ty with
 |cm=>cases(show u=Value.none from rx);exact oK PySem.W.kitx_none I.eR True.intro e (λz=>nomatch z) h
 |bl y=>cases(show u=Value.bool y from rx);exact oK PySem.W.kitx_bool I.eR True.intro e (λz=>nomatch z) h
 |int i=>obtain⟨t,q⟩:=(show ∃t,u=Value.int i t from rx);cases q;exact oK PySem.W.kitx_int I.eR True.intro e (λz=>nomatch z) h
 |str y=>obtain⟨t,q⟩:=(show ∃t,u=Value.str y t from rx);cases q;exact oK PySem.W.kitx_str I.eR True.intro e (λz=>nomatch z) h
 |vc y=>obtain⟨t,q⟩:=(show ∃t,u=Value.float y t from rx);cases q;exact oK PySem.W.kitx_float I.eR True.intro e (λz=>nomatch z) h
 | @lst a xs ea=>
  cases(show u=Value.ref a from rx)
  obtain⟨_,_,n,_,h1⟩:=(show ek X.prog X.w H s.heap a (.lst xs) from I.br a _ ea)
  exact oK PySem.W.kitx_list I.eR ⟨_,h1,rfl⟩ e (λz=>nomatch z) h
 | @ja a ob xs ea=>
  cases(show u=Value.ref a from rx)
  obtain⟨_,_,_,n,_,h1⟩:=(show ek X.prog X.w H s.heap a (.ja ob (.lst xs)) from I.br a _ ea)
  exact oK PySem.W.kitx_list I.eR ⟨_,h1,rfl⟩ e (λz=>nomatch z) h
 | @tup a xs ea=>
  cases(show u=Value.ref a from rx)
  obtain⟨_,_,_,p⟩:=(show ek X.prog X.w H s.heap a (.tup xs) from I.br a _ ea)
  obtain⟨o,h1,h2,_⟩:=p;exact oK PySem.W.kitx_tuple I.eR ⟨o,h1,h2⟩ e (λz=>nomatch z) h
 | @dK a aU ea=>
  cases(show u=Value.ref a from rx)
  obtain⟨_,_,vs,_,p⟩:=(show ek X.prog X.w H s.heap a (.dK aU) from I.br a _ ea)
  obtain⟨o,es,ep,h1,h2,_⟩:=p;exact oK PySem.W.kitx_dict I.eR ⟨o,h1,h2.1⟩ e (λz=>nomatch z) h
 | @dT a aU ea=>
  cases(show u=Value.ref a from rx)
  obtain⟨_,_,xs,_,o,es,ep,h1,h2,_⟩:=(show ek X.prog X.w H s.heap a (.dT aU) from I.br a _ ea)
  exact oK PySem.W.kitx_dict I.eR ⟨o,h1,h2.1⟩ e (λz=>nomatch z) h
 | @ins a C dx fs ea cl ha hn rW hm=>
  cases(show u=Value.ref a from rx)
  obtain⟨mA,O,_⟩:=Wa I.br ea;obtain⟨od,J,_⟩:=O.look;exact oK (PySem.W.kitx_own (cl.get _) cl.hd ha hn rW hm) I.eR J e (λz=>nomatch z) h
end
structure dk(k:Nat)(A:Around):Prop where
 hd:A.handled=none
 dp:A.depth+3*k+5<recursionLimit
 un:A.units+16*k+200<cLine
theorem dk.mono{k:Nat}(r:dk k A)(h:j≤k):dk j A:=⟨r.hd,by have:=r.dp;lia,by have:=r.un;lia⟩
theorem dk.deeper{k:Nat}{A:Around}(r:dk (k+1) A)(env:Env):dk k (A.deeper env):=
 ⟨r.hd,by have:=r.dp;show A.depth+1+3*k+5<_;lia,by have:=r.un;show A.units+3+16*k+200<_;lia⟩
theorem dk.depth{k:Nat}{A:Around}(r:dk k A):A.depth<recursionLimit:=by have:=r.dp;lia
theorem dk.units{k:Nat}{A:Around}(r:dk k A):A.units+64<cLine:=by have:=r.un;lia
def bV:TA:=λ_ H Q=>Q [] H
def aY(ta:TE)(tr:TA):TA:=λσ H Q=>ta σ H λx H1=>tr σ H1 λxs H2=>Q (x::xs) H2
section
variable{X:Cx}{e:Expr}{es:List Expr}{te:TE}{t:TA}{pos:Pos}
theorem aM:PA X [] bV:=λ_ _ _ _ H Q I h=>Calls.spliced_nil ⟨[],H,I,.nil,h⟩
theorem aK(ha:PE X e te)(hr:PA X es t)(hs:starEach (e::es) X.env=(false,eval e X.env)::starEach es X.env:=by rfl):PA X (e::es) (aY te t):=by
 intro pos aJ s σ H Q I h;rw[hs];show wpAny _ _ (spliced ((false,eval e X.env)::backTo pos (starEach es X.env))) _ _ s;refine Calls.spliced_cons (aZ (ha aJ s σ H _ I h) λu s1 ⟨x,H1,I1,r1,q1⟩=>?_);exact aZ (hr pos aJ s1 σ H1 _ I1 q1) λus s2 ⟨xs,H2,I2,r2,q2⟩=>⟨x::xs,H2,I2,.cons r1 r2,q2⟩
def lP(t:TA):TE:=λσ H Q=>t σ H λxs H1=>xs.length≤sizeLine∧∀p,H1 p=none→Q (.ref p) (upd H1 p (.tup xs))
def cS(t:TA):TE:=λσ H Q=>t σ H λxs H1=>xs.length≤sizeLine∧∀p,H1 p=none→Q (.ref p) (upd H1 p (.lst xs))
theorem fu{x1}(h:PA X es t):PE X (.Tuple es x1 pos) (lP t):=by
 intro aJ s σ H Q I hq;refine wpAny_Tuple_spliced (aZ (h pos aJ s σ H _ I hq) λus s1 ⟨xs,H1,I1,r,z,q⟩=>⟨by rw[← r.length];exact z,?_⟩);have hf:H1 s1.heap.objs.size=none:=I1.br.fresh (bX _);refine⟨.ref s1.heap.objs.size,upd H1 s1.heap.objs.size (.tup xs),I1.laid (t':=s1.toks) (λb u e=>dD _ e) (bX _) ?_,rfl,q _ hf⟩;exact⟨z,us,r,⟨_,gK _ rfl,rfl,_,rfl⟩⟩
theorem bE(h:PA X es t):PE X (.List es pos) (cS t):=by
 intro aJ s σ H Q I hq;refine wpAny_List_spliced (aZ (h pos aJ s σ H _ I hq) λus s1 ⟨xs,H1,I1,r,z,q⟩=>⟨by rw[← r.length];exact z,?_⟩);have hf:H1 s1.heap.objs.size=none:=I1.br.fresh (bX _);refine⟨.ref s1.heap.objs.size,upd H1 s1.heap.objs.size (.lst xs),I1.laid (t':=s1.toks) (λb u e=>dD _ e) (bX _) ?_,rfl,q _ hf⟩;exact⟨z,us,0,r,gK _ rfl⟩
end
abbrev Sp:=List V→Hp→VK→XK→Prop
abbrev oQ:=List Env→Hp→Shared→XK→Value→Shared→Prop
structure vn(P:Program)(w:World)(K:Frag)(mg:Str→Option Value)(base:Heap)(A:Around)(outer:List Env)(s:Shared)(H:Hp):Prop where
 frames:A.frames=some outer
 mod:Mod K mg base
 bs:∀b o,base.get? b=some o→s.heap.get? b=some o∧H b=none
 qC:base.objs.size≤s.heap.objs.size
 mK:s.heap.FunFrames base outer
 qD:∀b∈dQ outer,H b=none
 br:dI P w H s.heap
 bare:AllBare s.gens
def CE(outer:List Env)(P:Program)(w:World)(H:Hp)(s:Shared)(Q:VK)(u:Value)(s':Shared):Prop:=
 ∃v H',s'.os=s.os∧AllBare s'.gens∧Un (dQ outer) [] H H' s.heap s'.heap∧dI P w H' s'.heap∧RelV v u∧Q v H'
def CR(CX:oQ)(outer:List Env)(P:Program)(w:World)(H:Hp)(s:Shared)(Q:VK)(E:XK)(r:Result)(s':Shared):Prop:=
 match r with
 | .ok (.ret u)=>CE outer P w H s Q u s'
 | .ok _=>False
 | .error e=>CX outer H s E e s'
structure bf(P:Program)(w:World)(K:Frag)(mg:Str→Option Value)(base:Heap)(CX:oQ)(k:Nat)(f:Addr)(fd:FuncData)(ps:List Str)(sp:Sp):Prop where
 len:∀vs H Q E,sp vs H Q E→vs.length=ps.length
 run:∀(A:Around)(outer:List Env)(s:Shared)(H:Hp)(args:Args)(us:List Value)(vs:List V)(Q:VK)(E:XK),dk k A→vn P w K mg base A outer s H→BindsTo s fd args (ps.zip us)→Vals vs us→sp vs H Q E→
  codeAny (model P w) A (.call (.ref f) args) (CR CX outer P w H s Q E) s
theorem bf.mono{P:Program}{w:World}{K:Frag}{mg:Str→Option Value}{base:Heap}{CX:oQ}{j k:Nat}{f:Addr}{fd:FuncData}{ps:List Str}{sp:Sp}(F:bf P w K mg base CX j f fd ps sp)(h:j≤k) :
  bf P w K mg base CX k f fd ps sp:=⟨F.len,λA outer s H args us vs Q E hr=>F.run A outer s H args us vs Q E (hr.mono h)⟩
theorem bf.imp{P:Program}{w:World}{K:Frag}{mg:Str→Option Value}{base:Heap}{k:Nat}{f:Addr}{fd:FuncData}{sp xR:Sp}(F:bf P w K mg base CX k f fd ps sp)
  (h:∀vs H Q E,xR vs H Q E→sp vs H Q E):bf P w K mg base CX k f fd ps xR:=
 ⟨λvs H Q E q=>F.len vs H Q E (h _ _ _ _ q),λA outer s H args us vs Q E hr he hb hv hs=>F.run A outer s H args us vs Q E hr he hb hv (h _ _ _ _ hs)⟩
section
variable{X:Cx}{aJ:List (Addr×Obj)}{σ:St}{H:Hp}{s s':Shared}
theorem Inv.Bj(I:Inv X aJ σ H s):vn X.prog X.w X.K X.mg X.base X.A X.stack s H:=
 ⟨I.ok.frames,I.ok.mod,I.bs,fg I.ok.qC I.sz,I.stack,I.AX,I.br,I.bare⟩
theorem Inv.after{Q:VK}(I:Inv X aJ σ H s)(h:CE X.stack X.prog X.w H s Q u s'):EP X aJ σ Q u s':=by
 obtain⟨v,H',os,bare,un,br,r,q⟩:=h;obtain⟨hh,g,d,t,We⟩:=s';obtain rfl:We=s.os:=os;exact⟨v,H',I.call (h':=hh) (g':=g) (d':=d) (t':=t) (ch:=[]) un br bare (λb z=>absurd z (by simp)),r,q⟩
end
def iV(sp:Sp)(rX:List V)(E:XK)(t:TA):TE:=λσ H Q=>t σ H λvs H1=>sp (vs++rX) H1 Q E
def Binds(K:Frag)(fd:FuncData)(ps:List Str)(ds:List Value):Prop:=
 ∀(s:Shared)(us:List Value),K.In s.heap→(us++ds).length=ps.length→BindsTo s fd ⟨us,[]⟩ (ps.zip (us++ds))
theorem Binds.all{K:Frag}{fd:FuncData}(h:∀us:List Value,us.length=ps.length→bindArgs fd ⟨us,[]⟩=pure (ps.zip us)):Binds K fd ps []:=λs us _ hl=>by
 rw[iB]at hl ⊢;exact .of_eq (h us hl)
def Passes(CX:oQ)(X:Cx)(E:XK):Prop:=∀(aJ:List (Addr×Obj))(σ:St)(H:Hp)(s:Shared)(e:Value)(s':Shared),Inv X aJ σ H s→CX X.stack H s E e s'→X.xe e s'
section
variable{X:Cx}{CX:oQ}{k:Nat}{f C:Addr}{fd:FuncData}{ps:List Str}{sp:Sp}{rX:List V}{ds:List Value}{E:XK}{x m:Str}{p pos kn:Pos}{e o:Expr}{es:List Expr}{ta:TE}{t:TA}
theorem Wf{Q:VK}{vs:List V}(F:bf X.prog X.w X.K X.mg X.base CX k f fd ps sp)(hr:dk k X.A)(hb:Binds X.K fd ps ds)(hd:Vals rX ds)(hx:Passes CX X E)
  (I:Inv X aJ σ H s) (r:Vals vs us) (h:sp (vs++rX) H Q E):wpAny (model X.prog X.w) X.A (call (.ref f) us) (EP X aJ σ Q) X.xe s:=by
 have r2:Vals (vs++rX) (us++ds):=r.append hd;have hl:(us++ds).length=ps.length:=by rw[← r2.length];exact F.len _ _ _ _ h
 refine wpAny_call (codeAny_mono (F.run X.A X.stack s H ⟨us,[]⟩ (us++ds) (vs++rX) Q E hr I.Bj (hb s us I.eR hl) r2 h) λr s' hq=>?_);cases r with
 |error e=>exact hx aJ σ H s e s' I hq
 |ok fl=>
  cases fl with
  |ret u=>exact I.after hq
  |next=>exact False.elim hq
  |brk=>exact False.elim hq
  |cont=>exact False.elim hq
theorem ck(F:bf X.prog X.w X.K X.mg X.base CX k f fd ps sp)(hr:dk k X.A)(hg:Gl X x)(hm:X.mg x=some (.ref f))(hk:Kp X.K f)(hb:Binds X.K fd ps ds)(hd:Vals rX ds)(hx:Passes CX X E)
  (ha:PA X (e::es) t) (qL:(x==("__debug__":Str))=false:=by decide) (he:starEach (e::es) X.env=(false,eval e X.env)::starEach es X.env:=by rfl) (iF:(backTo pos (starEach es X.env)).any (·.1)=false:=by rfl) :
  PE X (.Call (.Name x p) (e::es) [] pos) (iV sp rX E t):=by
 intro aJ s σ H Q I h;refine ax (xI I hg hm ?_ qL);refine PySem.W.callWith_K (h₀:=X.base) I.ok.mod.qB hk (aZ (ha pos aJ s σ H _ I h) λus s1 ⟨vs,H1,I1,r,q⟩=>⟨I1.eR,?_⟩) he iF;exact Wf F hr hb hd hx I1 r q
end
section
variable{X:Cx}{CX:oQ}{k:Nat}{f C:Addr}{fd:FuncData}{ps ks:List Str}{sp:Sp}{E:XK}{x m:Str}{p pos kn adU:Pos}{e o:Expr}{es:List Expr}{kws:List Keyword}{te ta:TE}{t tk:TA}{nm:Option Str}
variable{g:List Value→List Value→List Value}{gV:List V→List V→List V}
end
structure c8(N P:List Str)(sc:Scope):Prop where
 kind:sc.kind=.function
 co:sc.isCoroutine=false
 gen:sc.isGenerator=false
 nd:N.Nodup
 pre:N.take P.length=P
 par:∀x∈P,sc.names.lookup x=some .local∨sc.names.lookup x=some .cell
 Wg:∀y∈sc.names,y.2≠.free
theorem dv{N P:List Str}{sc:Scope}(a:sc.kind=.function)(b:sc.isCoroutine=false)(c:sc.isGenerator=false)(h:N.Nodup∧(∀x∈P,sc.names.lookup x=some .local∨sc.names.lookup x=some .cell)∧∀y∈sc.names,y.2≠.free)(e:N.take P.length=P):c8 N P sc:=⟨a,b,c,h.1,e,h.2.1,h.2.2⟩
theorem Mt{kindOf:Str→Option NameKind}{x:Str}:∀{binds:List (Str×Value)}{m:Str→Option Value},(∀v,(x,v) ∉ binds)→bindL kindOf binds m x=m x
 | [],_,_=>rfl
 |(n,v)::r,m,h=>by
  unfold bindL;rw[Mt λw hw=>h w (gp _ hw)];split
  ·have:x≠n:=by rintro rfl;exact h v dN
   simp[this]
  ·rfl
theorem Mu{kindOf:Str→Option NameKind}{x:Str}:∀{binds:List (Str×Value)}{m:Str→Option Value},(∀v,(x,v) ∉ binds)→bindC kindOf binds m x=m x
 | [],_,_=>rfl
 |(n,v)::r,m,h=>by
  unfold bindC;rw[Mu λw hw=>h w (gp _ hw)];split
  ·rfl
  ·have:x≠n:=by rintro rfl;exact h v dN
   simp[this]
theorem Mv{kindOf:Str→Option NameKind}{x:Str}{v:Value}:∀{P:List Str}{vs:List Value}{i:Nat}{m:Str→Option Value},P.Nodup→P[i]?=some x→vs[i]?=some v→kindOf x=some .local→
  bindL kindOf (P.zip vs) m x=some v
 | [],_,_,_,_,h,_,_=>by simp at h
 |_::_,[],_,_,_,_,h,_=>by simp at h
 |p::P,w::vs,0,m,nd,h1,h2,hk=>by
  simp at h1 h2;subst h1;subst h2;show bindL kindOf ((p,w)::P.zip vs) m p=_;unfold bindL;rw[Mt λv hv=>(List.nodup_cons.mp nd).1 (qx hv).1,af hk];simp
 |p::P,w::vs,i+1,m,nd,h1,h2,hk=>by
  show bindL kindOf ((p,w)::P.zip vs) m x=_;unfold bindL;exact Mv (i:=i) (List.nodup_cons.mp nd).2 (by simpa using h1) (by simpa using h2) hk
theorem Mw{kindOf:Str→Option NameKind}{x:Str}{v:Value}:∀{P:List Str}{vs:List Value}{i:Nat}{m:Str→Option Value},P.Nodup→P[i]?=some x→vs[i]?=some v→kindOf x≠some .local→
  bindC kindOf (P.zip vs) m x=some v
 | [],_,_,_,_,h,_,_=>by simp at h
 |_::_,[],_,_,_,_,h,_=>by simp at h
 |p::P,w::vs,0,m,nd,h1,h2,hk=>by
  simp at h1 h2;subst h1;subst h2;show bindC kindOf ((p,w)::P.zip vs) m p=_;unfold bindC;rw[Mu λv hv=>(List.nodup_cons.mp nd).1 (qx hv).1,ag hk];simp
 |p::P,w::vs,i+1,m,nd,h1,h2,hk=>by
  show bindC kindOf ((p,w)::P.zip vs) m x=_;unfold bindC;exact Mw (i:=i) (List.nodup_cons.mp nd).2 (by simpa using h1) (by simpa using h2) hk
noncomputable def start(N:List Str)(vs:List V):St:=vs.map some++List.replicate (N.length-vs.length) none
noncomputable def jy(CX:oQ)(P:Program)(w:World)(K:Frag)(mg:Str→Option Value)(base:Heap)(N:List Str)(qual:Str)(scope:Scope)(f:Addr)(cd:Value)(A:Around)(outer:List Env)(s:Shared)(H:Hp)(E:XK):Cx where
 prog:=P
 w:=w
 K:=K
 mg:=mg
 base:=base
 A:=A.deeper (envOfC qual scope s.heap.objs.size f cd)
 N:=N
 s₀:=s
 H₀:=H
 env:=envOfC qual scope s.heap.objs.size f cd
 outer:=outer
 stack:=envOfC qual scope s.heap.objs.size f cd::outer
 ex:=[]
 calm:=true
 fn:=λ_=>true
 pn:=[]
 xe:=λe s'=>wpAny (model P w) (A.deeper (envOfC qual scope s.heap.objs.size f cd)) (leaving (envOfC qual scope s.heap.objs.size f cd) e) (λ_ p7=>CX outer H s E e p7) (λe' p7=>CX outer H s E e' p7) s'
theorem FU{sc:Scope}(h:sc.names.lookup x=some .cell):∃c,(cellsFrom n sc.names []).lookup x=some c:=by
 have q:=E8 sc.names n [] (.inl h);exact AL.mp q
theorem FV{P:Program}{w:World}{K:Frag}{mg:Str→Option Value}{base:Heap}{N:List Str}{qual:Str}{scope:Scope}{f:Addr}{cd:Value}{outer:List Env}{s1:Shared}{E:XK}{vs:List V}
  (S:c8 N ps scope) (hd:A.handled=none) (e0:vn P w K mg base A outer s H) (hl:vs.length=ps.length) (r:Vals vs us)
  (x:InCallC s s.heap.objs.size (bindL (envOfC qual scope s.heap.objs.size f cd).kindOf (ps.zip us) λ_=>none) (cellsFrom (s.heap.objs.size+1) scope.names []) (bindC (envOfC qual scope s.heap.objs.size f cd).kindOf (ps.zip us) λ_=>none) s1) :
  Inv (jy CX P w K mg base N qual scope f cd A outer s H E) [] (start N vs) H s1:=by
 have iF:ps.length≤N.length:=by have:=aj List.length S.pre;rw[cH]at this;lia
 obtain⟨h1,tk,rfl,hk⟩:=x.done;have tO:∀b:Addr,b ∉ (jy CX P w K mg base N qual scope f cd A outer s H E).ex:=λb z=>absurd (show b∈([]:List Addr) from z) (by simp)
 refine⟨⟨e0.mod,S.kind,rfl,rfl,bX _,λy z c h1 h2=>?_,λy hy=>?_,λy c _ h=>?_,λ_=>hd,Around.frames_deeper e0.frames,.inr ⟨rfl,rfl⟩,λb z=>absurd z (tO b),e0.bs,e0.qC,λb _ _=>tO b,λb z=>absurd z (tO b),e0.mK,e0.qD⟩,
  rfl,e0.bare,Un.kept hk,⟨_,x.toInCall.ns,λi y v h1 h2 h3=>?_⟩,λy c h=>⟨_,x.cell y c h⟩,e0.br.fresh (bX _),λy c h=>?_,λp hp=>absurd (show p∈([]:List (Addr×Obj)) from hp) (by simp),e0.br.kept hk,?_⟩
 ·exact name_of_addr x.apart (pT h1) (pT h2)
 ·have hy:scope.names.lookup y=some .cell∨scope.names.lookup y=some .free:=hy;rcases hy with hy|hy
  ·exact FU hy
  ·exact absurd rfl (S.Wg _ (pT hy))
 ·exact Nat.le_of_lt (x.above y c (pT h))
 ·have hi:i<vs.length:=by
   unfold start at h2;by_cases hi:i<vs.length
   ·exact hi
   ·rw[iC (by simpa using hi)]at h2;rw[E9]at h2;split at h2<;>cases h2
  have ha:vs[i]?=some v:=by
   unfold start at h2;rw[gy (by simpa using hi),eE]at h2;cases e:vs[i]? with
   |none=>rw[e]at h2;cases h2
   |some a=>rw[e]at h2;cases h2;rfl
  obtain⟨u,hu,rv⟩:=r.get ha;have hp:ps[i]?=some y:=by
   rw[← S.pre,List.getElem?_take_of_lt (by lia)];exact h1
  have Mx:ps.Nodup:=by rw[← S.pre];exact S.nd.sublist (List.take_sublist _ _)
  refine⟨u,rv,?_⟩;rcases S.par y (da hp)with k|k
  ·exact .inl ⟨k,Mv Mx hp hu k⟩
  ·obtain⟨c,e⟩:=FU (n:=s.heap.objs.size+1) k;refine .inr ⟨.inl k,c,e,?_⟩;have q:=x.cell y c e;rw[Mw Mx hp hu (by show scope.names.lookup y≠_;rw[k];decide)]at q;exact q
 ·exact e0.br.fresh (Nat.le_of_lt (x.above y c (pT h)))
 ·unfold start;show _=N.length;rw[bK,ba,dq];lia
theorem FW{P:Program}{w:World}{K:Frag}{mg:Str→Option Value}{base:Heap}{k:Nat}{f:Addr}{name qual:Str}{params:Arguments}{scope:Scope}{dV kV doc pm bt ct oc:Value}{an od:Option Addr}
  {lQ:Array (Option Value)} {N ps:List Str} {sp:Sp} (lk:K.lookup f=some ⟨oc,od,.func (fnOf name qual params body scope dV kV doc pm an bt ct),lQ⟩) (gM:PySem.W.codeIn K bt qual=true) (S:c8 N ps scope)
  (len:∀vs H Q E,sp vs H Q E→vs.length=ps.length)
  (o4:∀(A:Around)(outer:List Env)(s:Shared)(H:Hp)(vs:List V)(Q:VK)(E:XK),dk k (A.deeper (envOfC qual scope s.heap.objs.size f bt))→sp vs H Q E→
   ∃t,jb (jy CX P w K mg base N qual scope f bt A outer s H E) body t∧t { nx:=λ_ H'=>Q .cm H',rt:=Q } (start N vs) H) :
  bf P w K mg base CX (k+1) f (fnOf name qual params body scope dV kV doc pm an bt ct) ps sp:=by
 refine⟨len,λA outer s H args us vs Q E hr e0 hb r iW=>?_⟩;have hl:=len _ _ _ _ iW;have KX:K.In s.heap:=e0.mod.qB.keeps λb o e=>(e0.bs b o e).1;have tP:s.heap.NoLimit:=e0.mod.nolimit.keeps λb o e=>(e0.bs b o e).1;have xS:∀y∈ps.zip us,scope.names.lookup y.1=some .local∨(scope.names.lookup y.1=some .cell∧((cellsFrom (s.heap.objs.size+1) scope.names []).lookup y.1).isSome=true):=λ⟨n,v⟩ hy=>by
  rcases S.par n (qx hy).1 with q|q
  ·exact .inl q
  ·exact .inr ⟨q,E8 _ _ _ (.inl q)⟩
 refine codeAny_call_function hr.depth (KX _ _ lk) rfl S.co S.gen rfl (PySem.W.codeRec_of KX gM) (hb _ _ _ _ ?_);refine ay S.kind xS λenv he s1 x=>?_;subst he;refine⟨tP.keeps x.toInCall.keep,codeAny_func ?_⟩;obtain⟨t,ht,hq⟩:=o4 A outer s H vs Q E (hr.deeper _) iW;have I:Inv (jy CX P w K mg base N qual scope f bt A outer s H E) [] (start N vs) H s1:=FV S hr.hd e0 hl r x;refine ah (ht [] s1 (start N vs) H _ I hq) (λfl s' hs=>?_) λe s' hs=>hs;have fin:∀{σ':St}{H':Hp}{v:V}{u:Value},Inv (jy CX P w K mg base N qual scope f bt A outer s H E) [] σ' H' s'→RelV v u→Q v H'→CE outer P w H s Q u s':=
  λ{σ' H' v u} J rv q=>⟨v,H',J.os,J.bare,J.base,J.br,rv,q⟩
 cases fl with
 |ret u=>
  obtain⟨v,σ',H',J,rv,q⟩:=hs;exact fin J rv q
 |next=>
  obtain⟨σ',H',J,q⟩:=hs;exact fin (v:=V.cm) (u:=Value.none) J rfl q
 |brk=>
  obtain⟨_,_,_,q⟩:=hs;exact False.elim q
 |cont=>
  obtain⟨_,_,_,q⟩:=hs;exact False.elim q
section
variable{X:Cx}{x:Str}{p pos:Pos}{e:Expr}{es:List Expr}{t:TA}{id T:String}{r:List V→Hp→VK→Prop}
def ko(r:List V→Hp→VK→Prop)(t:TA):TE:=λσ H Q=>t σ H λvs H1=>r vs H1 Q
theorem dO(hc:fq X (.builtin id) r)(hg:Gl X x)(hm:X.mg x=none)(hv:bootBuiltins x=some (.builtin id))(ha:PA X (e::es) t)(hn:x ≠ "__name__":=by decide)(qL:(x==("__debug__":Str))=false:=by decide)
  (he:starEach (e::es) X.env=(false,eval e X.env)::starEach es X.env:=by rfl) (iF:(backTo pos (starEach es X.env)).any (·.1)=false:=by rfl):PE X (.Call (.Name x p) (e::es) [] pos) (ko r t):=by
 intro aJ s σ H Q I h;refine ax (rO I hg hm hv ?_ hn qL);exact PyProof.Rows.callWith_builtin1 (aZ (ha pos aJ s σ H _ I h) λus s1 ⟨vs,H1,I1,r1,q1⟩=>hc aJ s1 σ H1 vs us Q I1 r1 q1) he iF
theorem fw(hc:fq X (.type T) r)(hg:Gl X x)(hm:X.mg x=none)(hv:bootBuiltins x=some (.type T))(ha:PA X (e::es) t)(hn:x ≠ "__name__":=by decide)(qL:(x==("__debug__":Str))=false:=by decide)
  (he:starEach (e::es) X.env=(false,eval e X.env)::starEach es X.env:=by rfl) (iF:(backTo pos (starEach es X.env)).any (·.1)=false:=by rfl):PE X (.Call (.Name x p) (e::es) [] pos) (ko r t):=by
 intro aJ s σ H Q I h;refine ax (rO I hg hm hv ?_ hn qL);exact AK (aZ (ha pos aJ s σ H _ I h) λus s1 ⟨vs,H1,I1,r1,q1⟩=>hc aJ s1 σ H1 vs us Q I1 r1 q1) he iF
end
end L2
namespace HT
open PySem PyProof.Rows
section
open PySem.SeqAt
open PySem.AutoSeq1 (wpAny_loadPart')
open PySem.MeetsSeq PySem.MeetsSeq2 PySem.MeetsSeq3
end
section
variable{prog:Program}{w:World}{A:Around}{E:QV}{s:Shared}
theorem Wh{t b:Addr}{vs ws:List Value}{Q:QV}(ht:IsTup s.heap t vs.toArray)(hb:IsTup s.heap b ws.toArray)(hv:vs≠[])
  (h1:ws=[]→Q (.ref t) s) (h2:ws≠[]→Q (.ref s.heap.objs.size) { s with heap:=s.heap.push { cls:=.type "tuple",data:=.seq (vs++ws).toArray } })
  (hsz:vs.length+ws.length≤sizeLine):wpAny (model prog w) A (binaryOp .Add (.ref t) (.ref b)) Q E s:=by
 obtain⟨⟨cls,dd,data,sl⟩,ho,hc,n,hd⟩:=id ht;obtain⟨⟨adV,Bk,data2,Bl⟩,tQ,tR,n2,xT⟩:=id hb;simp only at hc hd tR xT;subst hc hd tR xT;have e:vs.toArray++ws.toArray=(vs++ws).toArray:=by simp
 by_cases hw:ws=[]
 ·exact concat_meets ⟨_,ho,rfl⟩ ⟨_,tQ,rfl⟩ noFill_tuple_add seq_tuple_add PySem.F.slot_tuple_add PySem.F.entry_tuple_add (PySem.F.args_tuple_add_2 _ _)
   (tuple_addW1 t b vs.toArray ws.toArray n n2 dd Bk sl Bl (by simpa using hv) (by simp[hw])) ⟨ho,tQ,h1 hw⟩
 ·refine concat_meets ⟨_,ho,rfl⟩ ⟨_,tQ,rfl⟩ noFill_tuple_add seq_tuple_add PySem.F.slot_tuple_add PySem.F.entry_tuple_add (PySem.F.args_tuple_add_2 _ _)
   (tuple_addW2 t b vs.toArray ws.toArray n n2 dd Bk sl Bl (by simpa using hv) (by simpa using hw) (by rw[dG,dG];exact hsz)) ⟨ho,tQ,?_⟩
  rw[e];exact h2 hw
noncomputable def cF(n d:Nat):Option Int→Nat
 |none=>d
 |some v=>if v<0 then(v+(n:Int)).toNat else min v.toNat n
theorem xU(n d:Nat):cF n d none=d:=rfl
theorem vo(n d k:Nat):cF n d (some (k:Int))=min k n:=by
 show(if(k:Int)<0 then((k:Int)+(n:Int)).toNat else min (k:Int).toNat n)=min k n
 rw[ag (by lia),Int.toNat_natCast]
theorem Wi(n d:Nat)(hd:d≤n)(o:Option Int):cF n d o≤n:=by
 cases o with
 |none=>exact hd
 |some v=>
  show(if v<0 then(v+(n:Int)).toNat else min v.toNat n)≤n
  by_cases hv:v<0
  ·rw[af hv];lia
  ·rw[ag hv];exact Nat.min_le_right _ _
theorem My(v:Int)(n d:Nat):(if v<0 then max (v+(n:Int)) 0 else min v (n:Int))=((cF n d (some v):Nat):Int):=by
 show(if v<0 then max (v+(n:Int)) 0 else min v (n:Int))=(((if v<0 then(v+(n:Int)).toNat else min v.toNat n):Nat):Int)
 by_cases hv:v<0
 ·simp only[af hv];lia
 ·simp only[ag hv];lia
theorem Wj(lo hi:Option Int)(n:Nat):Builtin.Slice.sliceAdjust lo hi 1 (n:Int)=(((cF n 0 lo:Nat):Int),((cF n n hi:Nat):Int)):=by
 have h1:¬((1:Int)<0):=by lia
 unfold Builtin.Slice.sliceAdjust;simp only[h1,if_false];refine Prod.ext ?_ ?_
 ·cases lo with
  |none=>rfl
  |some v=>exact My v n 0
 ·cases hi with
  |none=>rfl
  |some v=>exact My v n n
theorem Wk(i j:Nat):Builtin.Slice.slicePlaces (i:Int) (j:Int) 1=j-i:=by
 unfold Builtin.Slice.slicePlaces;have h1:(1:Int)>0:=by lia
 simp only[h1,if_true,Int.ediv_one];split<;>lia
theorem Mz{v:Value}{o:Option Int}{Q:Option Int→Shared→Prop}(p:IsPart v o)(h:Q o s):wpAny (model prog w) A (Builtin.Slice.slicePartIndex v) Q E s:=by
 cases p with
 |none=>exact slicePart_none h
 |int i t=>exact slicePart_int h
theorem MA{sl:Addr}{vl vu:Value}{lo hi:Option Int}{n:Nat}{Q:Int×Int×Nat→Shared→Prop}(hs:s.heap.IsSliceOf sl vl vu .none)(pl:IsPart vl lo)(pu:IsPart vu hi)
  (h:Q (((cF n 0 lo:Nat):Int),1,cF n n hi-cF n 0 lo) s):wpAny (model prog w) A (Builtin.Slice.sliceApplied (.ref sl) (pure (n:Int))) Q E s:=by
 obtain⟨os,tS,Bm,xV⟩:=id hs;unfold Builtin.Slice.sliceApplied Builtin.Slice.sliceFields;refine ao (ao (wpAny_field tS xV (x:=vl) rfl (ao (wpAny_field tS xV (x:=vu) rfl (ao (wpAny_field tS xV (x:=.none) rfl (ar ?_)))))));refine ao (slicePart_none ?_);show wpAny _ _ (if((1:Int)==0)=true then _ else _) _ _ s
 rw[ag (by decide)];refine ao (Mz pl (ao (Mz pu (ao (ar ?_)))));show wpAny _ _ (match Builtin.Slice.sliceAdjust lo hi 1 (n:Int)with|(lo,hi)=>pure (lo,(1:Int),Builtin.Slice.slicePlaces lo hi 1)) _ _ s
 rw[Wj lo hi n];show wpAny _ _ (pure (((cF n 0 lo:Nat):Int),(1:Int),Builtin.Slice.slicePlaces ((cF n 0 lo:Nat):Int) ((cF n n hi:Nat):Int) 1)) _ _ s;rw[Wk];exact ar h
theorem Wl(xs:Array Value)(i k:Nat):((List.range k).filterMap λ(m:Nat)=>xs[((i:Int)+(m:Int)*1).toNat]?).toArray=((xs.toList.drop i).take k).toArray:=by
 have e:(λ(m:Nat)=>xs[((i:Int)+(m:Int)*1).toNat]?)=λm=>xs[i+m]?:=by
  funext m
  have:((i:Int)+(m:Int)*1).toNat=i+m:=by lia
  rw[this]
 rw[e]
 have:=pick_run xs i k
 rw[List.filterMap_map]at this;have e2:((λx=>xs[x]?) ∘ λx=>i+x)=λm=>xs[i+m]?:=rfl;rw[e2]at this;rw[this]
theorem Wm{t sl:Addr}{items:Array Value}{vl vu:Value}{lo hi:Option Int}{Q:QV}(ht:IsTup s.heap t items)(hs:s.heap.IsSliceOf sl vl vu .none)(pl:IsPart vl lo)(pu:IsPart vu hi)
  (hw:¬(cF items.size 0 lo=0∧cF items.size items.size hi=items.size))
  (h:Q (.ref s.heap.objs.size) { s with heap:=s.heap.push { cls:=.type "tuple",data:=.seq ((items.toList.drop (cF items.size 0 lo)).take (cF items.size items.size hi-cF items.size 0 lo)).toArray } })
  (hsz:items.size≤sizeLine):wpAny (model prog w) A (getItem (.ref t) (.ref sl)) Q E s:=by
 have Bn:sizeOk (.seq ((items.toList.drop (cF items.size 0 lo)).take (cF items.size items.size hi-cF items.size 0 lo)).toArray):=by
  show((items.toList.drop (cF items.size 0 lo)).take (cF items.size items.size hi-cF items.size 0 lo)).toArray.size≤sizeLine;rw[dG,cH,dH,Array.length_toList];lia
 have hj:cF items.size items.size hi≤items.size:=Wi _ _ (bX _) hi;obtain⟨os,tS,Bm,xV⟩:=id hs;have FX:s.TypeIs (.ref sl) "slice":=⟨os,tS,Bm⟩;unfold getItem
 try with_reducible refine aq ?_
 first|refine ao (ar ?_)|skip
 refine ao (wpAny_sequenceKey ht.typeIs (by decide) ?_);refine ao (aA (name:=Str.ofString "__getitem__") ht.typeIs AM (aC AM ht.typeIs entry_tuple_getitem ?_ (args_tuple_getitem _ _)));show wpAny _ _ (Builtin.Tuple.tupleItemsOf (.ref t) >>= _) _ _ s;refine ao (tupleItemsOf_ ht ?_);refine ao (wpAny_typeOf FX ?_);rw[af (by decide)];refine ao (MA hs pl pu ?_);have lR:¬((((cF items.size 0 lo:Nat):Int)==0&&(1:Int)==1&&(cF items.size items.size hi-cF items.size 0 lo)==items.size)=true):=by
  intro q;rw[eF,eF]at q;have q1:((cF items.size 0 lo:Nat):Int)=0:=eq_of_beq q.1.1;have q2:cF items.size items.size hi-cF items.size 0 lo=items.size:=eq_of_beq q.2;exact hw ⟨by lia,by lia⟩
 show wpAny _ _ (if(((cF items.size 0 lo:Nat):Int)==0&&(1:Int)==1&&(cF items.size items.size hi-cF items.size 0 lo)==items.size)=true then _ else _) _ _ s
 rw[ag lR,Wl];first
  |exact ao (m:=Builtin.Tuple.tupleExact _) (au (ar ⟨_,rfl,ar h⟩) Bn)
  |exact ao (m:=Builtin.Tuple.tupleExact _) (au (ao (ar (ar ⟨_,rfl,ar h⟩))) Bn)
  |exact ao (ao (m:=Builtin.Tuple.tupleExact _) (au (ar (ar ⟨_,rfl,ar h⟩)) Bn))
  |exact ao (ao (m:=Builtin.Tuple.tupleExact _) (au (ar ⟨_,rfl,ar h⟩) Bn))
end
end HT
namespace L2
open PySem PySem.Spec PyProof.Rows
variable{its:List Value}{n:Nat}{s:Shared}{x:V}{α:Type}
abbrev TO:=St→Hp→(Option Int→Hp→Prop)→Prop
def PO(X:Cx)(e:Option Expr)(t:TO):Prop:=
 ∀(aJ:List (Addr×Obj))(s:Shared)(σ:St)(H:Hp)(Q:Option Int→Hp→Prop),Inv X aJ σ H s→t σ H Q→
  wpAny (model X.prog X.w) X.A (evalPart e X.env) (λu s'=>∃o H',Inv X aJ σ H' s'∧IsPart u o∧Q o H') X.xe s
def jd:TO:=λ_ H Q=>Q none H
def hU(t:TE):TO:=λσ H Q=>t σ H λx H1=>∃i,x=.int i∧Q (some i) H1
section
variable{X:Cx}{e:Expr}{te:TE}{lo hi:Option Expr}{tl th:TO}{pos p2:Pos}
theorem dZ:PO X none jd:=by
 intro aJ s σ H Q I h;rw[evalPart_none];exact ar ⟨none,H,I,.none,h⟩
theorem cZ(h:PE X e te):PO X (some e) (hU te):=by
 intro aJ s σ H Q I hw;rw[evalPart_some];refine aZ (h aJ s σ H _ I hw) λu s1 ⟨x,H1,I1,r1,q1⟩=>?_;obtain⟨i,rfl,q⟩:=q1;obtain⟨t,rfl⟩:=r1;exact⟨some i,H1,I1,.int i t,q⟩
def vp(X:Cx)(r:V→Option Int→Option Int→Hp→VK→Prop):Prop:=
 ∀(aJ:List (Addr×Obj))(s:Shared)(σ:St)(H:Hp)(x:V)(v vl vu:Value)(lo hi:Option Int)(sl:Addr)(Q:VK),Inv X aJ σ H s→RelV x v→s.heap.IsSliceOf sl vl vu .none→IsPart vl lo→IsPart vu hi→r x lo hi H Q→
  ∃T id,typeLookup (.type T) "__getitem__"=pure (some (.builtin id))∧s.TypeIs v T∧wpAny (model X.prog X.w) X.A (getItem v (.ref sl)) (EP X aJ σ Q) X.xe s
def iG(r:V→Option Int→Option Int→Hp→VK→Prop)(te:TE)(tl th:TO):TE:=λσ H Q=>te σ H λx H1=>tl σ H1 λl H2=>th σ H2 λu H3=>r x l u H3 Q
theorem dB{r:V→Option Int→Option Int→Hp→VK→Prop}(hr:vp X r)(he:PE X e te)(hl:PO X lo tl)(hu:PO X hi th):PE X (.Subscript e (.Slice lo hi none p2) pos) (iG r te tl th):=by
 intro aJ s σ H Q I h;refine Subscript_ (aZ (he aJ s σ H _ I h) λv s1 ⟨x,H1,I1,r1,q1⟩=>?_);refine wpAny_Slice (aZ (hl aJ s1 σ H1 _ I1 q1) λvl s2 ⟨l,H2,I2,pl,q2⟩=>aZ (hu aJ s2 σ H2 _ I2 q2) λvu s3 ⟨u,H3,I3,pu,q3⟩=>?_);rw[evalPart_none];refine ar ?_;have I4:Inv X aJ σ H3 { s3 with heap:=s3.heap.push { cls:=.type "slice",data:=.fields #[vl,vu,.none] } }:=I3.kept (t':=s3.toks) λb ob q=>dD _ q;obtain⟨T,id,hT,ht,hg⟩:=hr aJ { s3 with heap:=s3.heap.push { cls:=.type "slice",data:=.fields #[vl,vu,.none] } } σ H3 x v vl vu l u s3.heap.objs.size Q I4 r1 (Heap.IsSliceOf.new ..) pl pu q3;show wpAny (model X.prog X.w) X.A (subscriptTail e (.Slice lo hi none p2) v (.ref s3.heap.objs.size)) (EP X aJ σ Q) X.xe { s3 with heap:=s3.heap.push { cls:=.type "slice",data:=.fields #[vl,vu,.none] } };exact tail_any (ops:=[.ref s3.heap.objs.size,v]) ht hT hg (by with_unfolding_all rfl)
noncomputable def fh(xs:List V)(lo hi:Option Int):List V:=(xs.drop (HT.cF xs.length 0 lo)).take (HT.cF xs.length xs.length hi-HT.cF xs.length 0 lo)
theorem MB(xs:List V)(lo hi:Option Int):(fh xs lo hi).length≤xs.length:=by
 unfold fh;rw[cH,dH];lia
def Wn(K:Frag):V→Option Int→Option Int→Hp→VK→Prop:=λx lo hi H Q=>∃a xs,x=.ref a∧bc K H a xs∧
 ¬(HT.cF xs.length 0 lo=0∧HT.cF xs.length xs.length hi=xs.length)∧∀p,H p=none→Q (.ref p) (upd H p (.tup (fh xs lo hi)))
theorem Wo:vp X (Wn X.K):=by
 intro aJ s σ H x v vl vu lo hi sl Q I rx hs pl pu h;obtain⟨a,xs,rfl,hx,hw,q⟩:=h;cases rx;obtain⟨its,r,ht,hz⟩:=I.tuple hx;have cE:its.toArray.size=xs.length:=by rw[dG];exact r.length.symm
 refine⟨"tuple",_,AM.lookup,ht.typeIs,?_⟩;refine HT.Wm ht hs pl pu (by rw[cE];exact hw) ?_ (by rw[cE];exact hz);rw[cE];refine⟨.ref s.heap.objs.size,_,I.laid (t':=s.toks) (o:=.tup (fh xs lo hi)) (λb ob q=>dD _ q) (bX _) ?_,rfl,q _ (I.br.fresh (bX _))⟩;exact⟨fg (MB xs lo hi) hz,_,(r.drop (HT.cF xs.length 0 lo)).take (HT.cF xs.length xs.length hi-HT.cF xs.length 0 lo),IsTup.new _ _⟩
def Wq(K:Frag):R2:=λx y H Q=>∃a b xs ys,x=.ref a∧y=.ref b∧bc K H a xs∧bc K H b ys∧xs≠[]∧xs.length+ys.length≤sizeLine∧
 (ys=[]→Q (.ref a) H)∧(ys≠[]→∀p,H p=none→Q (.ref p) (upd H p (.tup (xs++ys))))
theorem Vals.Bo{xs:List V}{us:List Value}(r:Vals xs us):us=[]↔xs=[]:=by
 cases r with
 |nil=>simp
 |cons _ _=>simp
theorem Wr:dY X (binaryOp .Add) (Wq X.K):=by
 intro aJ s σ H x y v u Q I rx ry h;obtain⟨a,b,xs,ys,rfl,rfl,ha,hb,hx,hz,q1,q2⟩:=h;cases rx;cases ry;obtain⟨its,r1,p1,_⟩:=I.tuple ha;obtain⟨vq,r2,p2,_⟩:=I.tuple hb;refine HT.Wh p1 p2 (λz=>hx (r1.Bo.mp z)) (λz=>⟨.ref a,H,I,rfl,q1 (r2.Bo.mp z)⟩) (λz=>?_) (by rw[← r1.length,← r2.length];exact hz);refine⟨.ref s.heap.objs.size,_,I.laid (t':=s.toks) (o:=.tup (xs++ys)) (λb ob q=>dD _ q) (bX _) ?_,rfl,q2 (λw=>z (r2.Bo.mpr w)) _ (I.br.fresh (bX _))⟩;exact⟨by rw[bK];exact hz,_,r1.append r2,IsTup.new _ _⟩
end
noncomputable def mX(n:Nat)(i:Int):Option Nat:=if 0≤i then(if i<n then some i.toNat else none)else if -(n:Int)≤i then some (i+n).toNat else none
noncomputable def o5(xs:List α)(i:Int):Option α:=(mX xs.length i).bind λj=>xs[j]?
theorem MC{i:Int}{j:Nat}(h:mX n i=some j):seqIndex? i n=some j∧j<n∧-(n:Int)≤i∧i<n:=by
 unfold mX at h;by_cases h0:0≤i
 ·rw[af h0]at h;by_cases h1:i<n
  ·rw[af h1]at h;have e:i.toNat=j:=c7 h;exact⟨by rw[seqIndex_of h0 h1,e],by lia,by lia,h1⟩
  ·rw[ag h1]at h;cases h
 ·rw[ag h0]at h;by_cases h1:-(n:Int)≤i
  ·rw[af h1]at h;have e:(i+n).toNat=j:=c7 h;exact⟨by rw[seqIndex_neg (by lia) h1,e],by lia,h1,by lia⟩
  ·rw[ag h1]at h;cases h
theorem MD{xs:List α}{i:Int}{v:α}(h:o5 xs i=some v):∃j,seqIndex? i xs.length=some j∧xs[j]?=some v∧j<xs.length∧-(xs.length:Int)≤i∧i<xs.length:=by
 unfold o5 at h;cases e:mX xs.length i with
 |none=>rw[e]at h;cases h
 |some j=>
  rw[e]at h;obtain⟨h1,h2,h3,h4⟩:=MC e;exact⟨j,h1,h,h2,h3,h4⟩
theorem bu{xs:List α}{j:Nat}{v:α}(h:xs[j]?=some v):o5 xs (j:Int)=some v:=by
 have hj:j<xs.length:=(dz.mp h).1;have e:mX xs.length (j:Int)=some j:=by
  unfold mX;rw[af (by lia),af (by lia)];simp
 unfold o5;rw[e];exact h
theorem ME(xs:List α)(v:α):o5 (xs++[v]) (-1)=some v:=by
 have hl:(xs++[v]).length=xs.length+1:=by simp
 have e:mX (xs++[v]).length (-1)=some xs.length:=by
  unfold mX;rw[hl,ag (by decide),af (by lia)]
  congr 1
  lia
 unfold o5;rw[e];show(xs++[v])[xs.length]?=some v;simp
def Ws(b:Expr):Prop:=∀o i,subscripted b false o i=operate [o,i] (getItem o i)
def xW(X:Cx)(r:R2):Prop:=
 ∀(value slice:Expr)(aJ:List (Addr×Obj))(s:Shared)(σ:St)(H:Hp)(x y:V)(v u:Value)(Q:VK),Inv X aJ σ H s→RelV x v→RelV y u→r x y H Q→
  subscripted slice false v u=operate [v,u] (getItem v u)→wpAny (model X.prog X.w) X.A (subscriptTail value slice v u) (EP X aJ σ Q) X.xe s
def MF(X:Cx)(id:String)(r:V→List V→Hp→VK→Prop):Prop:=
 ∀(aJ:List (Addr×Obj))(s:Shared)(σ:St)(H:Hp)(x:V)(xs:List V)(v:Value)(us:List Value)(Q:VK),Inv X aJ σ H s→RelV x v→Vals xs us→r x xs H Q→
  wpAny (model X.prog X.w) X.A (call (.builtin id) (v::us)) (EP X aJ σ Q) X.xe s
section
variable{X:Cx}{a b:Expr}{ta tb:TE}{pos:Pos}
theorem bh{r:R2}(hr:xW X r)(ha:PE X a ta)(hb:PE X b tb)(hs:Ws b):PE X (.Subscript a b pos) (bp r ta tb):=by
 intro aJ s σ H Q I h;exact Subscript_ (FD ha hb I h λv u s2 x y H2 I2 rx ry q=>hr a b aJ s2 σ H2 x y v u Q I2 rx ry q (hs _ _))
def jV(K:Frag):R2:=λx y H Q=>∃p xs i v,x=.ref p∧y=.int i∧di K H p xs∧o5 xs i=some v∧Q v H
def Bp(K:Frag):R2:=λx y H Q=>∃p xs i v,x=.ref p∧y=.int i∧bc K H p xs∧o5 xs i=some v∧Q v H
theorem Wt:xW X (jV X.K):=by
 intro value slice aJ s σ H x y v u Q I rx ry h hs;obtain⟨p,xs,i,z,rfl,rfl,hq,he,q⟩:=h;cases rx;obtain⟨t,rfl⟩:=ry;obtain⟨its,r,pl,hz⟩:=I.list hq;obtain⟨j,h1,h2,h3,h4,h5⟩:=MD he;obtain⟨w,ew,oW⟩:=r.get h2;have hl:=r.length;have hn:=xQ;have fin:EP X aJ σ Q w s:=⟨z,H,I,oW,q⟩;by_cases h0:0≤i
 ·have hj:i.toNat=j:=by
   rw[seqIndex_of h0 h5]at h1;exact c7 h1
  exact item_listR pl.isList h0 (by lia) (by rw[hj];simpa using ew) fin hs
 ·have hj:(i+(its.toArray.size:Int)).toNat=j:=by
   rw[seqIndex_neg (by lia) h4]at h1;rw[dG,← hl];exact c7 h1
  exact subscriptTail_builtinR (x:=w) pl.isList.typeIs slot_list_getitem.lookup
   (wpAny_getItem_list_neg (Q:=λr s'=>r=w∧EP X aJ σ Q r s') pl.isList (by lia) (by rw[dG]<;>lia) (by lia) (by rw[hj];simpa using ew) ⟨rfl,fin⟩) hs
theorem Wu:xW X (Bp X.K):=by
 intro value slice aJ s σ H x y v u Q I rx ry h hs;obtain⟨p,xs,i,z,rfl,rfl,hq,he,q⟩:=h;cases rx;obtain⟨t,rfl⟩:=ry;obtain⟨its,r,pl,hz⟩:=I.tuple hq;obtain⟨j,h1,h2,h3,h4,h5⟩:=MD he;obtain⟨w,ew,oW⟩:=r.get h2;have hl:=r.length;have hn:=xQ;have fin:EP X aJ σ Q w s:=⟨z,H,I,oW,q⟩;exact subscriptTail_builtinR (x:=w) pl.typeIs slot_tuple_getitem.lookup
  (getItem_tuple (j:=j) (Q:=λr s'=>r=w∧EP X aJ σ Q r s') pl (by lia) (by lia) (by rw[dG,← hl];exact h1) (by simpa using ew) ⟨rfl,fin⟩) hs
theorem Wv(its:List Value)(n j:Nat)(u:Value):Obj.mapSeq (·.setIfInBounds j u) { cls:=.type "list",data:=.seq its.toArray n }={ cls:=.type "list",data:=.seq (its.set j u).toArray n }:=by
 simp[Obj.mapSeq]
theorem Inv.lst{aJ:List (Addr×Obj)}{σ:St}{H:Hp}{s:Shared}{p:Addr}{xs:List V}(I:Inv X aJ σ H s)(h:H p=some (.lst xs)) :
  ∃(its:List Value)(n:Nat),Vals xs its∧s.heap.get? p=some { cls:=.type "list",data:=.seq its.toArray n }∧xs.length≤sizeLine:=by
 obtain⟨z,its,n,r,e⟩:=I.br p _ h;exact⟨its,n,r,e,z⟩
theorem Inv.Ww{aJ:List (Addr×Obj)}{σ:St}{H:Hp}{p:Addr}{xs ys:List V}{its':List Value}{n':Nat}{f:Obj→Obj}(I:Inv X aJ σ H s)(h:H p=some (.lst xs))
  (ho:s.heap.get? p=some { cls:=.type "list",data:=.seq its.toArray n }) (hf:f { cls:=.type "list",data:=.seq its.toArray n }={ cls:=.type "list",data:=.seq its'.toArray n' }) (r:Vals ys its') (hz:ys.length≤sizeLine) (t:Nat) :
  Inv X aJ σ (upd H p (.lst ys)) { s with heap:=s.heap.update p f,toks:=t }:=by
 have e:(s.heap.update p f).get? p=some { cls:=.type "list",data:=.seq its'.toArray n' }:=by
  rw[uU f ho (by rw[hf]<;>rfl),hf]
 refine I.write (x:=p) (e:=p) (by rw[h];trivial) (.inl rfl) (λb u hb q=>(Heap.get?_update_other _ _ (Ne.symm hb)).trans q) ⟨_,e⟩ ?_;exact⟨hz,its',n',r,e⟩
def MG:V→V→V→Hp→(Hp→Prop)→Prop:=λo i v H Q=>∃p xs k j,o=.ref p∧i=.int k∧H p=some (.lst xs)∧mX xs.length k=some j∧Q (upd H p (.lst (xs.set j v)))
theorem FY:Me X MG:=by
 intro aJ s σ H o i v ov iv u Q I ro ri rv h;obtain⟨p,xs,k,j,rfl,rfl,hp,hj,q⟩:=h;cases ro;obtain⟨t,rfl⟩:=ri;obtain⟨its,n,r,ho,hz⟩:=I.lst hp;obtain⟨h1,h2,h3,h4⟩:=MC hj;have hl:=r.length;have hn:=xQ;have I':Inv X aJ σ (upd H p (.lst (xs.set j v))) { s with heap:=s.heap.update p (Obj.mapSeq (·.setIfInBounds j u)) }:=
  I.Ww hp ho (Wv its n j u) (r.set rv j) (by rw[List.length_set];exact hz) s.toks
 by_cases h0:0≤k
 ·have hk:k.toNat=j:=by
   rw[seqIndex_of h0 h4]at h1;exact c7 h1
  exact PySem.W.ki_setAt ho h0 (by lia) (by rw[dG,← hl];exact h4) (by rw[hk];exact⟨_,I',q⟩)
 ·have hk:(k+(its.toArray.size:Int)).toNat=j:=by
   rw[seqIndex_neg (by lia) h3]at h1;rw[dG,← hl];exact c7 h1
  exact PySem.W.ki_setBack ho (by lia) (by rw[dG,← hl];exact h3) (by lia) (by rw[hk];exact⟨_,I',q⟩)
theorem Wx(lo hi:Option Int)(n:Nat):(sliceBounds lo hi none n).1=((HT.cF n 0 lo:Nat):Int)∧(sliceBounds lo hi none n).2.1=((HT.cF n n hi:Nat):Int)∧(sliceBounds lo hi none n).2.2=1:=by
 refine⟨?_,?_,rfl⟩
 ·cases lo with
  |none=>simp[sliceBounds,HT.cF]
  |some i=>
   simp only[sliceBounds,HT.cF,Option.getD_none,show(1:Int)>0 by decide,if_true];by_cases h:i<0
   ·simp only[h,if_true]<;>lia
   ·simp only[h,if_false]<;>lia
 ·cases hi with
  |none=>simp[sliceBounds,HT.cF]
  |some i=>
   simp only[sliceBounds,HT.cF,Option.getD_none,show(1:Int)>0 by decide,if_true];by_cases h:i<0
   ·simp only[h,if_true]<;>lia
   ·simp only[h,if_false]<;>lia
theorem Wy(its:List Value)(lo hi:Option Int):slicePick its.toArray lo hi none=((its.drop (HT.cF its.length 0 lo)).take (HT.cF its.length its.length hi-HT.cF its.length 0 lo)).toArray:=by
 obtain⟨h1,h2,h3⟩:=Wx lo hi its.toArray.size;unfold slicePick;rw[h1,h2,h3];simp only[sliceRange_one,pick_run,dG]<;>rfl
def rY(K:Frag):V→Option Int→Option Int→Hp→VK→Prop:=λx lo hi H Q=>∃a xs,x=.ref a∧di K H a xs∧∀p,H p=none→Q (.ref p) (upd H p (.lst (fh xs lo hi)))
theorem Wz:vp X (rY X.K):=by
 intro aJ s σ H x v vl vu lo hi sl Q I rx hs pl pu h;obtain⟨a,xs,rfl,hx,q⟩:=h;cases rx;obtain⟨its,r,ht,hz⟩:=I.list hx;have cE:=r.length;refine⟨"list",_,slot_list_getitem.lookup,ht.isList.typeIs,?_⟩;refine wpAny_getItem_list_slice ht.isList hs pl pu .none (by simp) ?_ (by rw[dG]<;>lia)
 rw[Wy,← cE];refine⟨.ref s.heap.objs.size,_,I.laid (t':=s.toks) (o:=.lst (fh xs lo hi)) (λb ob q=>dD _ q) (bX _) ?_,rfl,q _ (I.br.fresh (bX _))⟩;exact⟨fg (MB xs lo hi) hz,_,0,(r.drop (HT.cF xs.length 0 lo)).take (HT.cF xs.length xs.length hi-HT.cF xs.length 0 lo),gK _ rfl⟩
noncomputable def kq:V→Bool
 | .cm=>true
 | .bl _=>true
 | .int _=>true
 | .str _=>true
 |_=>false
noncomputable def kr:V→V→Bool
 | .cm,.cm=>true
 | .bl a,.bl b=>a==b
 | .bl a,.int b=>(if a then 1 else 0)==b
 | .int a,.bl b=>a==(if b then 1 else 0)
 | .int a,.int b=>a==b
 | .str a,.str b=>a==b
 |_,_=>false
theorem WA{A:Around}{y:V}{u v:Value}(ry:RelV y u)(rx:RelV x v)(fy:kq y=true)(fx:kq x=true):SeqAt.EqAt A s u v (kr y x):=by
 cases y with
 |cm=>
  cases ry;cases x with
  |cm=>cases rx;exact SeqAt.EqAt.same _
  |bl b=>cases rx;exact SeqAt.EqAt.none_bool b
  |int b=>obtain⟨t,rfl⟩:=rx;exact SeqAt.EqAt.none_int b t
  |str b=>obtain⟨t,rfl⟩:=rx;exact SeqAt.EqAt.none_str b t
  |_=>exact absurd (show false=true from fx) gJ
 |bl a=>
  cases ry;cases x with
  |cm=>cases rx;exact SeqAt.EqAt.bool_none a
  |bl b=>cases rx;exact SeqAt.EqAt.bool_bool a b
  |int b=>obtain⟨t,rfl⟩:=rx;exact SeqAt.EqAt.bool_int a b t
  |str b=>obtain⟨t,rfl⟩:=rx;exact SeqAt.EqAt.bool_str a b t
  |_=>exact absurd (show false=true from fx) gJ
 |int a=>
  obtain⟨t',rfl⟩:=ry;cases x with
  |cm=>cases rx;exact SeqAt.EqAt.int_none a t'
  |bl b=>cases rx;exact SeqAt.EqAt.int_bool a t' b
  |int b=>obtain⟨t,rfl⟩:=rx;exact SeqAt.EqAt.int_int a t' b t
  |str b=>obtain⟨t,rfl⟩:=rx;exact SeqAt.EqAt.int_str a t' b t
  |_=>exact absurd (show false=true from fx) gJ
 |str a=>
  obtain⟨t',rfl⟩:=ry;cases x with
  |cm=>cases rx;exact SeqAt.EqAt.str_none a t'
  |bl b=>cases rx;exact SeqAt.EqAt.str_bool a t' b
  |int b=>obtain⟨t,rfl⟩:=rx;exact SeqAt.EqAt.str_int a t' b t
  |str b=>obtain⟨t,rfl⟩:=rx;exact SeqAt.EqAt.str_str a t' b t
  |_=>exact absurd (show false=true from fx) gJ
 |_=>exact absurd (show false=true from fy) gJ
noncomputable def ku(x:V)(u:Value):Bool:=match u with
 | .none=>kr .cm x
 | .bool b=>kr (.bl b) x
 | .int i _=>kr (.int i) x
 | .str z _=>kr (.str z) x
 |_=>false
theorem MH{y:V}{u:Value}(r:RelV y u)(f:kq y=true):ku x u=kr y x:=by
 cases y with
 |cm=>cases r;rfl
 |bl b=>cases r;rfl
 |int i=>obtain⟨t,rfl⟩:=r;rfl
 |str z=>obtain⟨t,rfl⟩:=r;rfl
 |_=>exact absurd (show false=true from f) gJ
theorem xX{x:V}:∀{xs:List V}{us:List Value},Vals xs us→xs.all kq=true→us.any (ku x)=xs.any λy=>kr y x
 |_,_,.nil,_=>rfl
 |y::xs,u::us,.cons r t,f=>by
  rw[List.all_cons,eF]at f;rw[List.any_cons,List.any_cons,MH r f.1,xX t f.2]
theorem xY{A:Around}{s:Shared}{x:V}{v:Value}(rx:RelV x v)(fx:kq x=true):∀{xs:List V}{us:List Value},Vals xs us→xs.all kq=true→∀u∈us,SeqAt.EqAt A s u v (ku x u)
 |_,_,.nil,_=>λu hu=>by cases hu
 |y::xs,u::us,.cons r t,f=>λu' hu=>by
  rw[List.all_cons,eF]at f;rcases dP.mp hu with rfl|hu
  ·rw[MH r f.1];exact WA r rx f.1 fx
  ·exact xY rx fx t f.2 u' hu
noncomputable def nW(x:V)(xs:List V):Bool:=xs.any λy=>kr y x
def Bq(K:Frag)(neg:Bool):R2:=λx y H Q=>∃p xs,y=.ref p∧(di K H p xs∨bc K H p xs)∧kq x=true∧xs.all kq=true∧Q (.bl (if neg then !nW x xs else nW x xs)) H
theorem WB:dY X (compareOp .In) (Bq X.K false):=by
 intro aJ s σ H x y v u Q I rx ry h;obtain⟨p,xs,rfl,hq,fx,fs,q⟩:=h;cases ry;rcases hq with hq|hq
 ·obtain⟨its,r,pl,hz⟩:=I.list hq;refine SeqAt.in_listAt (ku x) pl.isList (λw hw=>xY rx fx r fs w (by simpa using hw)) ⟨.bl _,H,I,rfl,?_⟩;rw[show its.toArray.any (ku x)=its.any (ku x) by simp,xX r fs];exact q
 ·obtain⟨its,r,pl,hz⟩:=I.tuple hq;refine SeqAt.in_tupleAt (ku x) pl (λw hw=>xY rx fx r fs w (by simpa using hw)) ⟨.bl _,H,I,rfl,?_⟩;rw[show its.toArray.any (ku x)=its.any (ku x) by simp,xX r fs];exact q
theorem WC:dY X (compareOp .NotIn) (Bq X.K true):=by
 intro aJ s σ H x y v u Q I rx ry h;obtain⟨p,xs,rfl,hq,fx,fs,q⟩:=h;cases ry;rcases hq with hq|hq
 ·obtain⟨its,r,pl,hz⟩:=I.list hq;refine SeqAt.notIn_listAt (ku x) pl.isList (λw hw=>xY rx fx r fs w (by simpa using hw)) ⟨.bl _,H,I,rfl,?_⟩;rw[show its.toArray.any (ku x)=its.any (ku x) by simp,xX r fs];exact q
 ·obtain⟨its,r,pl,hz⟩:=I.tuple hq;refine SeqAt.notIn_tupleAt (ku x) pl (λw hw=>xY rx fx r fs w (by simpa using hw)) ⟨.bl _,H,I,rfl,?_⟩;rw[show its.toArray.any (ku x)=its.any (ku x) by simp,xX r fs];exact q
theorem WD:fq X (.builtin "len") (λxs H Q=>∃p ys,xs=[.ref p]∧(di X.K H p ys∨bc X.K H p ys)∧Q (.int ys.length) H):=by
 intro aJ s σ H xs us Q I r h;obtain⟨p,ys,rfl,hq,q⟩:=h;obtain⟨u,rfl,rx⟩:=vals1 r;cases rx;have hn:=xQ;rcases hq with hq|hq
 ·obtain⟨its,r',pl,hz⟩:=I.list hq;have cE:=r'.length;exact Calls.call_len_list pl.isList (by simp only[dG]<;>lia) ⟨.int ys.length,H,I.tok _,⟨s.toks+1,by rw[dG,cE]⟩,q⟩
 ·obtain⟨its,r',pl,hz⟩:=I.tuple hq;have cE:=r'.length;exact len_tuple pl (by simp only[dG]<;>lia) ⟨.int ys.length,H,I.tok _,⟨s.toks+1,by rw[dG,cE]⟩,q⟩
theorem WE:fq X (.type "list") (λxs H Q=>∃p ys,xs=[.ref p]∧(di X.K H p ys∨bc X.K H p ys)∧∀l,H l=none→Q (.ref l) (upd H l (.lst ys))):=by
 intro aJ s σ H xs us Q I r h;obtain⟨p,ys,rfl,hq,q⟩:=h;obtain⟨u,rfl,rx⟩:=vals1 r;cases rx;have fin:∀(its:List Value),Vals ys its→ys.length≤sizeLine→∀(h':Heap)(c':Nat),(∀b o',s.heap.get? b=some o'→h'.get? b=some o')→
   h'.get? s.heap.objs.size=some { cls:=.type "list",dict:=none,data:=.seq its.toArray c',slots:=#[] }→EP X aJ σ Q (.ref s.heap.objs.size) { s with heap:=h' }:=λits r' hz h' c' kp e=>
  ⟨.ref s.heap.objs.size,_,I.laid (t':=s.toks) kp (bX _) (show ek X.prog X.w _ h' _ (.lst ys) from⟨hz,its,c',r',e⟩),rfl,q _ (I.br.fresh (bX _))⟩
 rcases hq with hq|hq
 ·obtain⟨its,r',pl,hz⟩:=I.list hq;have cE:=r'.length;obtain⟨o,ho,hc,n,hd⟩:=pl.isList;exact call_list_seq p (.inl rfl) ho hc hd (λh' c' kp e=>fin its r' hz h' c' kp e) (by simp only[dG]<;>lia)
 ·obtain⟨its,r',pl,hz⟩:=I.tuple hq;have cE:=r'.length;obtain⟨o,ho,hc,n,hd⟩:=pl;exact call_list_seq p (.inr rfl) ho hc hd (λh' c' kp e=>fin its r' hz h' c' kp e) (by simp only[dG]<;>lia)
theorem WG:fq X (.type "tuple") (λxs H Q=>∃p ys,xs=[.ref p]∧((di X.K H p ys∧∀l,H l=none→Q (.ref l) (upd H l (.tup ys)))∨(bc X.K H p ys∧Q (.ref p) H))):=by
 intro aJ s σ H xs us Q I r h;obtain⟨p,ys,rfl,h⟩:=h;obtain⟨u,rfl,rx⟩:=vals1 r;cases rx;rcases h with⟨hq,q⟩|⟨hq,q⟩
 ·obtain⟨its,r',pl,hz⟩:=I.list hq;have cE:=r'.length;refine call_tuple_list pl.isList (λh' kp=>?_) (by simp only[dG]<;>lia)
  have I1:Inv X aJ σ H { s with heap:=h' }:=I.kept (t':=s.toks) kp;have I2:Inv X aJ σ (upd H h'.objs.size (.tup ys)) { s with heap:=h'.push { cls:=.type "tuple",data:=.seq its.toArray } }:=
   I1.laid (t':=s.toks) (λb o e=>dD _ e) (bX _) (show ek X.prog X.w _ _ _ (.tup ys) from⟨hz,its,r',IsTup.new _ _⟩)
  exact⟨.ref h'.objs.size,_,I2,rfl,q _ (I1.br.fresh (bX _))⟩
 ·obtain⟨its,r',pl,hz⟩:=I.tuple hq;exact call_tuple_same pl ⟨.ref p,H,I,rfl,q⟩
def FZ(K:Frag)(T:String)(x:V)(H:Hp):Prop:=match x with
 | .str _=>T="str"
 | .int _=>T="int"
 | .ref p=>(T="list"∧∃xs,di K H p xs)∨(T="tuple"∧∃o,K.lookup p=some o∧o.cls=.type "tuple"∧o.dict=none) ∨
   (T="dict"∧((∃aU,H p=some (.dK aU))∨∃aU,H p=some (.dT aU)))∨(T="set"∧∃S n,H p=some (.set S n))
 |_=>False
theorem MI{aJ:List (Addr×Obj)}{σ:St}{H:Hp}{T:String}{v:Value}(I:Inv X aJ σ H s)(r:RelV x v)(ty:FZ X.K T x H) :
  s.TypeIs v T∧∀a,v=.ref a→∃ob,s.heap.get? a=some ob∧ob.dict=none:=by
 cases x with
 |str z=>
  obtain⟨t,rfl⟩:=r;cases(show T="str" from ty)
  exact⟨typeIs_str s z t,λ_ e=>nomatch e⟩
 |int i=>
  obtain⟨t,rfl⟩:=r;cases(show T="int" from ty)
  exact⟨typeIs_int s i t,λ_ e=>nomatch e⟩
 |ref p=>
  cases r;rcases ty with⟨rfl,xs,hq⟩|⟨rfl,o,hk,hc,hd⟩|⟨rfl,hk⟩|⟨rfl,S,n,hk⟩
  ·obtain⟨its,_,pl,_⟩:=I.list hq;refine⟨pl.isList.typeIs,λa e=>?_⟩;cases e;obtain⟨o,n,e,c,hd,_⟩:=pl;exact⟨o,e,hd⟩
  ·refine⟨⟨o,I.eR p o hk,hc⟩,λa e=>?_⟩;cases e;exact⟨o,I.eR _ o hk,hd⟩
  ·have z:∃o,s.heap.get? p=some o∧o.ExactDict:=by
    rcases hk with⟨aU,hk⟩|⟨aU,hk⟩
    ·obtain⟨_,_,_,_,o,_,_,e,ex,_⟩:=I.br p _ hk;exact⟨o,e,ex⟩
    ·obtain⟨_,_,_,_,o,_,_,e,ex,_⟩:=I.br p _ hk;exact⟨o,e,ex⟩
   obtain⟨o,e,ex⟩:=z;refine⟨⟨o,e,ex.1⟩,λa e2=>?_⟩;cases e2;exact⟨o,e,ex.2.1⟩
  ·obtain⟨o,_,_,_,e,ex,_⟩:=I.br p _ hk;refine⟨⟨o,e,ex.1⟩,λa e2=>?_⟩;cases e2;exact⟨o,e,ex.2.1⟩
 |_=>exact False.elim ty
def Br(K:Frag)(T:String)(r:V→List V→Hp→VK→Prop)(to:TE):TE:=λσ H Q=>to σ H λx H1=>FZ K T x H1∧r x [] H1 Q
def F0(K:Frag)(T:String)(r:V→List V→Hp→VK→Prop)(to:TE)(t:TA):TE:=λσ H Q=>to σ H λx H1=>FZ K T x H1∧t σ H1 λxs H2=>r x xs H2 Q
variable{o e:Expr}{es:List Expr}{to:TE}{t:TA}{name:Str}{kn gc:Pos}{T id:String}{r:V→List V→Hp→VK→Prop}
theorem MJ(pa:PlainAttrs T)(slot:Slot T name id)(Ga:typeOf (.builtin id)=pure (.type "method_descriptor"))(hm:MF X id r)(ho:PE X o to)
  (xZ:attributeBase o name X.env (eval o X.env)=eval o X.env:=by rfl) (x4:(kn.endLine==gc.line)=true:=by rfl):PE X (.Call (.Attribute o name kn) [] [] gc) (Br X.K T r to):=by
 intro aJ s σ H Q I h;refine wpAny_Call_method0_late xZ x4 (aZ (ho aJ s σ H _ I h) λv s1 ⟨x,H1,I1,r1,ty,q1⟩=>?_);obtain⟨h1,h2⟩:=MI I1 r1 ty;exact⟨T,id,pa,slot,Ga,h1,h2,Calls.callWith_builtin rfl (PySem.evalArgs_none (hm aJ s1 σ H1 x [] v [] Q I1 r1 .nil q1))⟩
theorem p8(pa:PlainAttrs T)(slot:Slot T name id)(Ga:typeOf (.builtin id)=pure (.type "method_descriptor"))(hm:MF X id r)(ho:PE X o to)(ha:PA X (e::es) t)
  (xZ:attributeBase o name X.env (eval o X.env)=eval o X.env:=by rfl)
  (Gb:((backTo gc (starEach (e::es) X.env)).all (λx=>!x.1)&&(backToKw gc (keywordEach [] X.env)).all (λx=>x.1.isSome)
   && decide ((e::es).length+([]:List Keyword).length+(if([]:List Keyword).isEmpty then 0 else 1)<30))=true:=by rfl)
  (x4:(kn.endLine==gc.line)=true:=by rfl) (hs:starEach (e::es) X.env=(false,eval e X.env)::starEach es X.env:=by rfl) (WH:(backTo gc (starEach es X.env)).any (·.1)=false:=by rfl) :
  PE X (.Call (.Attribute o name kn) (e::es) [] gc) (F0 X.K T r to t):=by
 intro aJ s σ H Q I h;refine wpAny_Call_method_late xZ Gb x4 rfl (aZ (ho aJ s σ H _ I h) λv s1 ⟨x,H1,I1,r1,ty,q1⟩=>?_);obtain⟨h1,h2⟩:=MI I1 r1 ty;refine⟨T,id,pa,slot,Ga,h1,h2,?_⟩;have hA:=ha gc aJ s1 σ H1 _ I1 q1;rw[hs]at hA ⊢;refine Calls.callWith_builtin (by show(false||(backTo gc (starEach es X.env)).any (·.1))=false;rw[WH]<;>rfl) (Calls.evalArgs_plain ?_)
 exact aZ hA λus s2 ⟨vs,H2,I2,r2,q2⟩=>hm aJ s2 σ H2 x vs v us Q I2 r1 r2 q2
end
def Bs(X:Cx)(id:String)(r:V→List V→Hp→VK→Prop):Prop:=
 ∀(aJ:List (Addr×Obj))(s:Shared)(σ:St)(H:Hp)(x:V)(xs:List V)(v:Value)(us:List Value)(Q:VK),Inv X aJ σ H s→RelV x v→Vals xs us→r x xs H Q→
  wpAny (model X.prog X.w) X.A (call (.builtin id) (v::us)) (EP X aJ σ Q) X.xe s
theorem Vals.one:∀{x:V}{us:List Value},Vals [x] us→∃u,us=[u]∧RelV x u
 |_,_,.cons r .nil=>⟨_,rfl,r⟩
theorem Vals.zero:∀{us:List Value},Vals [] us→us=[]
 |_,.nil=>rfl
theorem Vals.dropLast{xs:List V}{us:List Value}(h:Vals xs us):Vals xs.dropLast us.dropLast:=by
 induction h with
 |nil=>exact .nil
 |cons r t ih=>
  cases t with
  |nil=>exact .nil
  |cons q t'=>exact .cons r ih
theorem Vals.eraseIdx:∀{xs:List V}{us:List Value}(i:Nat),Vals xs us→Vals (xs.eraseIdx i) (us.eraseIdx i)
 |_,_,_,.nil=>.nil
 |_,_,0,.cons _ t=>t
 |_,_,i+1,.cons r t=>.cons r (Vals.eraseIdx i t)
theorem Vals.reverse{xs:List V}{us:List Value}(h:Vals xs us):Vals xs.reverse us.reverse:=by
 induction h with
 |nil=>exact .nil
 |cons r t ih=>rw[List.reverse_cons,List.reverse_cons];exact Vals.append ih (.cons r .nil)
theorem Vals.rep{xs:List V}{us:List Value}(h:Vals xs us):∀k:Nat,Vals (List.replicate k xs).flatten (List.replicate k us).flatten
 |0=>.nil
 |k+1=>by
  rw[qy,qy,uV,uV];exact Vals.append h (Vals.rep h k)
theorem WI(l:List α):l.eraseIdx (l.length-1)=l.dropLast:=by
 induction l with
 |nil=>rfl
 |cons a r ih=>
  cases r with
  |nil=>rfl
  |cons b r=>
   have e:(a::b::r).length-1=((b::r).length-1)+1:=by
    have h1:(a::b::r).length=r.length+2:=rfl;have h2:(b::r).length=r.length+1:=rfl;lia
   rw[e,List.eraseIdx_cons_succ,ih];all_goals rfl
theorem MK{α:Type}:∀(l:List α)(i:Nat),(l.eraseIdx i).length≤l.length
 | [],_=>bX _
 |_::_,0=>Nat.le_succ _
 |_::r,i+1=>Nat.succ_le_succ (MK r i)
theorem foldl_rep(its:List Value):∀(k:Nat)(cO:List Value),
  List.foldl (λx1 x2=>x1++x2) cO.toArray (List.replicate k its.toArray)=(cO++(List.replicate k its).flatten).toArray
 |0,cO=>by simp
 |k+1,cO=>by
  have e:cO.toArray++its.toArray=(cO++its).toArray:=by simp
  have e2:(cO++its)++(List.replicate k its).flatten=cO++(List.replicate (k+1) its).flatten:=by
   rw[qy,uV,i9]
  rw[← e2,← foldl_rep its k (cO++its),← e,qy,List.foldl_cons]
section
variable{X:Cx}{aJ:List (Addr×Obj)}{σ:St}{H:Hp}{s:Shared}{l b:Addr}{xs ys zs:List V}
theorem Inv.Bt{its':List Value}{f:Array Value→Array Value}{t':Nat}(I:Inv X aJ σ H s)(hH:H l=some (.lst xs))
  (e:s.heap.get? l=some { cls:=.type "list",data:=.seq its.toArray n }) (hf:f its.toArray=its'.toArray) (hv:Vals ys its') (hz:ys.length≤sizeLine) :
  Inv X aJ σ (upd H l (.lst ys)) { s with heap:=s.heap.update l (Obj.mapSeq f),toks:=t' }:=by
 have q:=PySem.IsL.update e f;rw[hf]at q;refine I.write (x:=l) (e:=l) (by rw[hH];exact trivial) (.inl rfl) (λb' u hb hu=>(Heap.get?_update_other s.heap (Obj.mapSeq f) (Ne.symm hb)).trans hu) ⟨_,q⟩ ?_;exact⟨hz,its',_,hv,q⟩
theorem Inv.ML{t':Nat}(I:Inv X aJ σ H s)(hv:Vals ys its)(hz:ys.length≤sizeLine) :
  Inv X aJ σ (upd H s.heap.objs.size (.lst ys)) { s with heap:=s.heap.push { cls:=.type "list",data:=.seq its.toArray },toks:=t' }:=
 I.laid (λ_ _ q=>dD _ q) (bX _) ⟨hz,its,0,hv,gK _ rfl⟩
theorem Inv.fresh(I:Inv X aJ σ H s):H s.heap.objs.size=none:=I.br.fresh (bX _)
theorem Inv.tT(I:Inv X aJ σ H s)(hH:H l=some (.lst xs)):xs.length≤sizeLine∧∃(its:List Value)(n:Nat),Vals xs its∧xs.length=its.length∧s.heap.get? l=some { cls:=.type "list",data:=.seq its.toArray n }:=by
 obtain⟨z,its,n,r,e⟩:=I.br l _ hH;exact⟨z,its,n,r,r.length,e⟩
theorem WJ(h:n≤sizeLine):Builtin.List.listTooLong n=false:=by
 unfold Builtin.List.listTooLong;exact ae (by lia)
end
section
variable{X:Cx}
def Gd:V→List V→Hp→VK→Prop:=λx vs H Q=>∃l xs y,x=.ref l∧vs=[y]∧H l=some (.lst xs)∧xs.length<sizeLine∧Q .cm (upd H l (.lst (xs++[y])))
theorem qM:Bs X "list.append" Gd:=by
 intro aJ s σ H x vs v us Q I rx rv h;obtain⟨l,xs,y,rfl,rfl,hH,hz,q⟩:=h;cases rx;obtain⟨u,rfl,ru⟩:=rv.one;obtain⟨z,its,n,r,hl,e⟩:=I.tT hH;refine aD F.slot_list_append ⟨_,e,rfl⟩ F.entry_list_append (F.args_list_append_2 _ _) (PySem.list_append l its.toArray n u (by rw[dG];lia)) ⟨e,?_⟩;refine⟨.cm,_,I.Bt (its':=its++[u]) hH e (by simp) (r.append (.cons ru .nil)) ?_,rfl,q⟩;rw[bK,List.length_singleton];lia
def Ge:V→List V→Hp→VK→Prop:=λx vs H Q=>∃l xs y,x=.ref l∧vs=[]∧H l=some (.lst xs)∧xs[xs.length-1]?=some y∧Q y (upd H l (.lst xs.dropLast))
theorem WK:Bs X "list.pop" Ge:=by
 intro aJ s σ H x vs v us Q I rx rv h;obtain⟨l,xs,y,rfl,rfl,hH,hy,q⟩:=h;cases rx;have Gf:=rv.zero;subst Gf;obtain⟨z,its,n,r,hl,e⟩:=I.tT hH;obtain⟨u,hu,ru⟩:=r.get hy;have Bu:its.toArray[its.toArray.size-1]?=some u:=by
  show its.toArray[its.length-1]?=some u;rw[← Array.getElem?_toList,← hl];exact hu
 refine aD F.slot_list_pop ⟨_,e,rfl⟩ F.entry_list_pop (F.args_list_pop_1 _) (MeetsSeq.list_pop_last l its.toArray n u Bu (by rw[dG];lia)) ⟨e,?_⟩;refine⟨y,_,I.Bt (its':=its.dropLast) hH e ?_ r.dropLast ?_,ru,q⟩
 ·show its.toArray.eraseIdxIfInBounds (its.toArray.size-1)=its.dropLast.toArray;rw[dG,List.eraseIdxIfInBounds_toArray,WI]
 ·rw[List.length_dropLast];lia
def MM:V→List V→Hp→VK→Prop:=λx vs H Q=>∃l xs,x=.ref l∧vs=[]∧H l=some (.lst xs)∧Q .cm (upd H l (.lst xs.reverse))
theorem WM:Bs X "list.reverse" MM:=by
 intro aJ s σ H x vs v us Q I rx rv h;obtain⟨l,xs,rfl,rfl,hH,q⟩:=h;cases rx;have Gf:=rv.zero;subst Gf;obtain⟨z,its,n,r,hl,e⟩:=I.tT hH;refine aD F.slot_list_reverse ⟨_,e,rfl⟩ F.entry_list_reverse (F.args_list_reverse_1 _) (AutoSeq1.list_reverse_list_0 l its.toArray n (by rw[dG];lia)) ⟨e,?_⟩;refine⟨.cm,_,I.Bt (its':=its.reverse) hH e (by simp) r.reverse ?_,rfl,q⟩;rw[List.length_reverse];lia
def eh:R2:=λx y H Q=>∃l b xs zs,x=.ref l∧y=.ref b∧H l=some (.lst xs)∧H b=some (.lst zs)∧xs.length+zs.length≤sizeLine∧∀p,H p=none→Q (.ref p) (upd H p (.lst (xs++zs)))
theorem dh:dY X (binaryOp .Add) eh:=by
 intro aJ s σ H x y v u Q I rx ry h;obtain⟨l,b,xs,zs,rfl,rfl,hH,hB,hz,q⟩:=h;cases rx;cases ry;obtain⟨z,its,n,r,hl,e⟩:=I.tT hH;obtain⟨z2,vq,n2,r2,Bv,e2⟩:=I.tT hB;refine PySem.P.add_list e e2 ?_ (by rw[dG,dG];lia);have ea:its.toArray++vq.toArray=(its++vq).toArray:=by simp
 rw[ea];exact⟨.ref _,_,I.ML (t':=s.toks) (r.append r2) (by rw[bK];lia),rfl,q _ I.fresh⟩
def vt:R2:=λx y H Q=>∃l k xs,x=.ref l∧y=.int k∧H l=some (.lst xs)∧-(2^63)≤k∧k<2^63∧xs.length*k.toNat≤sizeLine∧
 ∀p,H p=none→Q (.ref p) (upd H p (.lst (List.replicate k.toNat xs).flatten))
theorem MN(xs:List α)(k:Nat):(List.replicate k xs).flatten.length=k*xs.length:=by
 induction k with
 |zero=>simp
 |succ k ih=>rw[qy,uV,bK,ih,Nat.succ_mul,Nat.add_comm]
theorem ky:dY X (binaryOp .Mult) vt:=by
 intro aJ s σ H x y v u Q I rx ry h;obtain⟨l,k,xs,rfl,rfl,hH,h1,h2,hz,q⟩:=h;cases rx;obtain⟨t,rfl⟩:=ry;obtain⟨z,its,n,r,hl,e⟩:=I.tT hH;have cE:its.toArray.size*k.toNat≤sizeLine:=by rw[dG,← hl];exact hz
 have WN:¬its.toArray.size*k.toNat>(2^63-1)/8:=by
  have:(sizeLine:Nat)≤(2^63-1)/8:=by decide
  lia
 have WO:¬(!Builtin.List.listFitsIndex k)=true:=by
  rw[fitsIndex_both h1 h2];exact gJ
 have WQ:¬Builtin.List.listTooLong (its.toArray.size*k.toNat)=true:=by
  rw[WJ cE];exact gJ
 have WR:List.foldl (λx1 x2=>x1++x2) #[] (List.replicate (if its.toArray.isEmpty=true then 0 else k.toNat) its.toArray)=(List.replicate k.toNat its).flatten.toArray:=by
  have f0:∀m:Nat,List.foldl (λx1 x2=>x1++x2) #[] (List.replicate m its.toArray)=(List.replicate m its).flatten.toArray:=λm=>by
   have:=foldl_rep its m []
   rw[uW]at this;exact this
  rw[f0];cases its with
  |nil=>simp
  |cons a r'=>rw[ag (by simp)]
 refine wpAny_binaryOp_repeat_ref (T := "list") (U := "int") (by decide) ⟨_,e,rfl⟩ (λs'=>typeIs_int s' k t) noFill_list_mul F.fills_int_mul F.slot_int_rmul repeat_list F.slot_int_index.lookup
  (aD F.slot_int_rmul (typeIs_int s k t) F.entry_int_rmul (F.args_int_rmul_2 _ _) (int___rmul___int_list k t l its.toArray n) ⟨e,rfl,⟨_,e,rfl⟩,aD F.slot_list_mul ⟨_,e,rfl⟩ F.entry_list_mul (F.args_list_mul_2 _ _) (AutoListH.list___mul___list_int_3 l its.toArray n k t WO WN WQ) ⟨e,?_⟩⟩)
 rw[WR];exact⟨.ref _,_,I.ML (t':=s.toks) (r.rep k.toNat) (by rw[MN,Nat.mul_comm];exact hz),rfl,q _ I.fresh⟩
end
section
variable{prog:Program}{w:World}{A:Around}{E:QV}{s:Shared}
end
section
variable{X:Cx}
end
end L2
namespace Att
open PySem PySem.W PySem.Calls PyProof.Rows
theorem WU{P:Params}{h:Heap}:∀(ns:List Int)(vs:List Value),WellAll P h vs (ns.map WData.int)→IntsAre vs ns:=by
 intro ns;induction ns with
 |nil=>
  intro vs w;rw[List.map_nil]at w;cases w;exact .nil
 |cons n ns ih=>
  intro vs w;rw[kj]at w;cases w with
  |cons a b=>
   cases a;exact .cons _ _ (ih _ b)
theorem WV{l:OpenLaw}{n:Nat}(hn:l.most=some n){P:Params}{h:Heap}{args:List WData}{Gg:List Value}
  (Bx:l.row.toRowW.claim.pre args=true) (Gh:WellAll P h Gg args) :
  ∃a vs ns,Gg=[Value.ref a]∧args=[WData.list (ns.map WData.int)]∧h.get? a=some { cls:=.type "list",data:=.seq vs.toArray }∧IntsAre vs ns∧ns.length≤n:=by
 have WW:WShape.hasAll [] args [.list .int]=true:=(pre_splitW Bx).1;have hc:l.pre.holds [] { args:=args }=true:=(pre_splitW Bx).2;obtain⟨d,r,rfl,h1,h2⟩:=hasAllW_cons WW;obtain rfl:=hasAllW_nil h2;obtain⟨xs,rfl,h3⟩:=hasW_list h1;obtain⟨ns,rfl⟩:=items_int h3;have cE:ns.length≤n:=by
  unfold OpenLaw.pre at hc;have h4:(WTm.not (.lt (.lit (.int (n:Int))) (.len (.arg 0)))).holds [] { args:=[.list (ns.map .int)] }=true:=by
   have h4:=(holds_andW hc).1;rw[hn]at h4;exact h4
  have h5:=condW_of h4 (w_not (w_lt w_lit (w_len_list (w_arg rfl))));rw[ba]at h5;refine Nat.le_of_not_lt λq=>?_;have q':(n:Int)<((ns.length:Nat):Int):=by lia
  first
   |(rw[aE q']at h5;exact absurd h5 (by decide))
   |(simp at h5;lia)
 cases Gh with
 |cons w1 w2=>
  cases w2;cases w1 with
  |list ho Gi=>exact⟨_,_,ns,rfl,rfl,ho,WU ns _ Gi,cE⟩
theorem WX(l:OpenLaw)(args:List WData):l.row.toRowW.claim.post args (.bool true) args=true:=
 postW_of (r:=l.row.toRowW) (X:=(true==true))
  (show WShape.has [] (.bool true) .bool=true by first|rfl|decide|simp[WShape.has,WShape.arms,WShape.armsAll])
  (show(WTm.eq .res (.lit (.bool true))).value [] { args:=args,res:=some (.bool true),after:=args }=some (.bool (true==true)) from w_eq_bool (w_res rfl) w_lit) rfl
theorem WY{l:OpenLaw}{n:Nat}{q:Program}{vw:List Str}{XP:(Str→Option Value)→Heap→Prop}{YP:World→Heap→Prop}{d:DefRec}
  (hn:l.most=some n) (x5:d.params.defaults=[])
  (call:∀(w:World)(s₀ s₁:Shared)(mg mb:Str→Option Value)(fa:Addr)(o:Obj)(pm cd doc:Value)(a:Addr)(vs:List Value)(ns:List Int),
   Ground q vw [] XP w s₀ mg mb s₁.heap→YP w s₁.heap→
   s₁.heap.get? fa=some o→o.data=.func (docDef d.name d.params d.body d.scope pm cd doc)→s₁.heap.CodeRec cd d.name→mg d.name=some (.ref fa)→
   s₁.heap.get? a=some { cls:=.type "list",data:=.seq vs.toArray }→IntsAre vs ns→ns.length≤n→s₁.gens=#[]→
   codeAny (model l.prog w) callerA (.call (.ref fa) ⟨[.ref a],[]⟩) (λr s'=>r=.ok (.ret (.bool true))∧OldK s₁.heap s'.heap∧s'.os=s₁.os∧AllBare s'.gens) s₁) :
  WalkO q vw XP YP l.row.toRowW d [] (λf vs=>PySem.call f vs):=by
 intro w s₀ s₁ mg mb G Y fa o pm cd doc dV kV ho hd gM hD hmg hg args Gg as Bx adW hrd Gh hlo;obtain rfl:dV=.none:=Dflts.none hD x5;obtain rfl:kV=.none:=Dflts.noKw hD;obtain⟨a,vs,ns,rfl,rfl,Gj,hints,cE⟩:=WV hn Bx Gh;refine enter_call (codeAny_mono (call w s₀ s₁ mg mb fa o pm cd doc a vs ns G Y ho (fd_plain hd) gM hmg Gj hints cE hg) λr s' hq=>?_);obtain⟨rfl,h2,h3,h4⟩:=hq;exact⟨.inl ⟨.bool true,.bool true,[],rfl,λ_=>rfl,.bool true,WX l _,λ_=>⟨List.Pairwise.nil,λ_ hm=>(nomatch hm)⟩⟩,h2,h3,h4⟩
section
variable{prog:Program}{w:World}{A:Around}{E:QV}{s:Shared}{K:Frag}
end
end Att
namespace L2
open PySem PySem.Spec PyProof.Rows
variable{A:Around}{B:Prop}{H H':Hp}{Q:QV}{X:Cx}{a c f it p:Addr}{b:Bool}{env:Env}{es:List Expr}{h h':Heap}{i kt n:Nat}{its:Array Value}{aJ:List (Addr×Obj)}{qual x:Str}{s:Shared}{scope:Scope}{st:Stmt}{v:Value}{xs:List V}
theorem MO:∀{vs:List Value}{ns:List Int},IntsAre vs ns→Vals (ns.map V.int) vs
 |_,_,.nil=>.nil
 |_,_,.cons n t h=>.cons ⟨t,rfl⟩ (MO h)
noncomputable def qN(s:Stmt):Arguments:=match s with
 | .FunctionDef _ a _ _ _ _ _ _ _ _=>a
 |_=>{ posonlyargs:=[],args:=[],vararg:=none,kwonlyargs:=[],kw_defaults:=[],kwarg:=none,defaults:=[] }
noncomputable def kz(s:Stmt):List Stmt:=match s with
 | .FunctionDef _ _ b _ _ _ _ _ _ _=>b
 |_=>[]
noncomputable def bq(s:Stmt):Scope:=match s with
 | .FunctionDef _ _ _ _ _ _ sc _ _ _=>sc
 |_=>{ kind:=.function,names:=[],isGenerator:=false,isCoroutine:=false }
abbrev bj:oQ:=λ_ _ _ _ _ _=>False
abbrev E0:XK:=λ_ _ _=>False
theorem cu:Passes bj X E0:=λ_ _ _ _ _ _ _ h=>h.elim
structure bZ(K:Frag)(x qual:Str)(st:Stmt)(f:Addr)(fd:FuncData):Prop where
 ex:∃(oc:Value)(od:Option Addr)(kV doc pm:Value)(an:Option Addr)(bt ct:Value)(lQ:Array (Option Value)),
  fd=fnOf x qual (qN st) (kz st) (bq st) .none kV doc pm an bt ct∧K.lookup f=some ⟨oc,od,.func fd,lQ⟩∧PySem.W.codeIn K bt qual=true
 kp:Kp K f
section
variable{P:Program}{w:World}{K:Frag}{mg:Str→Option Value}{base:Heap}
theorem bZ.ok{fd:FuncData}{N ps:List Str}{k:Nat}{sp:Sp}(F:bZ K x qual st f fd)(S:c8 N ps (bq st))(len:∀vs H Q E,sp vs H Q E→vs.length=ps.length)
  (o4:∀(bt:Value)(A:Around)(outer:List Env)(s:Shared)(H:Hp)(vs:List V)(Q:VK)(E:XK),dk k (A.deeper (envOfC qual (bq st) s.heap.objs.size f bt))→sp vs H Q E→
   ∃t,jb (jy bj P w K mg base N qual (bq st) f bt A outer s H E).lL (kz st) t∧t { nx:=λ_ H'=>Q .cm H',rt:=Q } (start N vs) H):bf P w K mg base bj (k+1) f fd ps sp:=by
 obtain⟨oc,od,kV,doc,pm,an,bt,ct,lQ,rfl,lk,gM⟩:=F.ex;refine FW lk gM S len λA outer s H vs Q E hr iW=>?_;obtain⟨t,h,q⟩:=o4 bt A outer s H vs Q E hr iW;exact⟨t,h.lL,q⟩
theorem bZ.binds{fd:FuncData}{ps:List Str}(F:bZ K x qual st f fd)
  (h:∀(kV doc pm:Value)(an:Option Addr)(bt ct:Value)(us:List Value),us.length=ps.length→bindArgs (fnOf x qual (qN st) (kz st) (bq st) .none kV doc pm an bt ct) ⟨us,[]⟩=pure (ps.zip us)):Binds K fd ps []:=by
 obtain⟨oc,od,kV,doc,pm,an,bt,ct,lQ,rfl,lk,gM⟩:=F.ex;exact .all (h kV doc pm an bt ct)
theorem Gk{oc:Value}{od an:Option Addr}{lQ:Array (Option Value)}{kV doc pm bt ct:Value}(l:K.lookup f=some ⟨oc,od,.func (fnOf x qual (qN st) (kz st) (bq st) .none kV doc pm an bt ct),lQ⟩)
  (c:PySem.W.codeIn K bt qual=true) (k:Kp K f):bZ K x qual st f (fnOf x qual (qN st) (kz st) (bq st) .none kV doc pm an bt ct):=⟨⟨oc,od,kV,doc,pm,an,bt,ct,lQ,rfl,l,c⟩,k⟩
end
theorem By{k:Nat}(hr:dk k A):A.units+1<cLine:=Nat.lt_of_le_of_lt (Nat.add_le_add_left (by decide:1≤64) _) hr.units
theorem Gm(h:n≤1000):n<sizeLine:=Nat.lt_of_le_of_lt h (by decide)
section
variable{X:Cx}
theorem pv(i:Nat){pos:Pos}(hN:X.N[i]?=some x:=by rfl)(hv:ve X.env.scope x:=by first|exact Or.inl rfl|exact Or.inr (.inl rfl)|exact Or.inr (Or.inr rfl))(hd:(x==("__debug__":Str))=false:=by decide)
  (gM:(x==("__classdict__":Str))=false:=by decide):PE X (.Name x pos) (aW i):=L5 hN hv hd gM
end
theorem cD{A:Prop}(h:B):if false=true then A else B:=by
 rw[ag gJ];exact h
theorem dy{A:Prop}(h:A):if true=true then A else B:=by
 rw[af rfl];exact h
theorem tU{c A:Prop} [Decidable c] (h1:c→A) (h2:¬c→B):if c then A else B:=by
 by_cases h:c
 ·rw[af h];exact h1 h
 ·rw[ag h];exact h2 h
theorem WZ{c A:Prop} [Decidable c] (hc:c) (h:B):if(!decide c)=true then A else B:=by
 rw[aE hc];exact cD h
def aL(H H':Hp):Prop:=∀b o,H b=some o→H' b=some o
theorem aL.refl(H:Hp):aL H H:=λ_ _ h=>h
theorem aL.trans{H1 H2:Hp}(a:aL H H1)(b:aL H1 H2):aL H H2:=λc o h=>b c o (a c o h)
theorem aL.seq{K:Frag}(e:aL H H')(h:di K H a xs):di K H' a xs:=by
 rcases h with(h|⟨o,h⟩)|h
 ·exact .inl (.inl (e _ _ h))
 ·exact .inl (.inr ⟨o,e _ _ h⟩)
 ·exact .inr h
noncomputable def kE(cells:List (Str×Addr)):List (Str×NameKind)→List (Str×Addr)→List (Str×Addr)
 | [],cO=>cO
 |(n,k)::r,cO=>if k == .free then kE cells r ((n,(cells.lookup n).getD 0)::cO)else kE cells r cO
theorem W0(h:∀x∈scope.names,x.2=.free→∃c,env.cells.lookup x.1=some c):closureFor scope env=pure (kE env.cells scope.names []):=by
 unfold closureFor;have key:∀(names:List (Str×NameKind))(cO:List (Str×Addr)),(∀x∈names,x.2=.free→∃c,env.cells.lookup x.1=some c)→
   (forIn names cO (λ(x:Str×NameKind)(r:List (Str×Addr))=>(if(x.2==NameKind.free)=true then do let c ← cellOf env x.1;pure (ForInStep.yield ((x.1,c)::r))else pure (ForInStep.yield r):Sem (ForInStep (List (Str×Addr))))))=pure (kE env.cells names cO):=by
  intro names;induction names with
  |nil=>intro cO _;rfl
  |cons x r ih=>
   intro cO hx;obtain⟨n,k⟩:=x;rw[List.forIn_cons];unfold kE;by_cases hk:(k==NameKind.free)=true
   ·have ip:k=.free:=by simpa using hk
    obtain⟨c,hc⟩:=hx (n,k) dN ip;have gZ:env.cells.lookup n=some c:=hc;simp only[hk,if_true];have e1:cellOf env n=pure c:=by unfold cellOf;rw[gZ]
    rw[e1,gZ];exact ih ((n,c)::cO) λy hy=>hx y (gp _ hy)
   ·simp only[hk,if_false,AN];exact ih cO λy hy=>hx y (gp _ hy)
 have e:=key scope.names [] h;first
  |exact e
  |(simp only[bind_pure];exact e)
theorem Bz{cells:List (Str×Addr)}{x:Str}{c:Addr}:∀(names:List (Str×NameKind))(cO:List (Str×Addr)),(kE cells names cO).lookup x=some c→cO.lookup x=some c∨((x,NameKind.free)∈names∧c=(cells.lookup x).getD 0)
 | [],_,h=>.inl h
 |(n,k)::r,cO,h=>by
  unfold kE at h;by_cases hk:(k==NameKind.free)=true
  ·have ip:k=.free:=by simpa using hk
   rw[af hk]at h;rcases Bz r _ h with z|⟨z,e⟩
   ·rw[tq]at z;cases hb:x==n with
    |true=>
     rw[hb]at z;have e':x=n:=by simpa using hb
     subst e';subst ip;exact .inr ⟨dN,(c7 z).symm⟩
    |false=>rw[hb]at z;exact .inl z
   ·exact .inr ⟨gp _ z,e⟩
  ·rw[ag hk]at h;rcases Bz r _ h with z|⟨z,e⟩
   ·exact .inl z
   ·exact .inr ⟨gp _ z,e⟩
theorem Gn{cells:List (Str×Addr)}{x:Str}:∀(names:List (Str×NameKind))(cO:List (Str×Addr)),((x,NameKind.free)∈names∨(cO.lookup x).isSome=true)→((kE cells names cO).lookup x).isSome=true
 | [],_,h=>by
  rcases h with h|h
  ·cases h
  ·exact h
 |(n,k)::r,cO,h=>by
  unfold kE;by_cases hk:(k==NameKind.free)=true
  ·rw[af hk];refine Gn r _ ?_;rcases h with h|h
   ·rcases(dP.mp h)with(e|h)
    ·cases e;exact .inr (by rw[tq];simp)
    ·exact .inl h
   ·refine .inr ?_;rw[tq];cases hb:x==n<;>simp[h]
  ·rw[ag hk];refine Gn r _ ?_;rcases h with h|h
   ·rcases(dP.mp h)with(e|h)
    ·cases e;exact absurd rfl hk
    ·exact .inl h
   ·exact .inr h
theorem vx:∀(names:List (Str×NameKind))(n:Nat)(cO:List (Str×Addr)),cellsFrom n names cO=cellsFrom n names []++cO
 | [],_,_=>rfl
 |(x,k)::r,n,cO=>by
  unfold cellsFrom;by_cases hk:(k==NameKind.cell)=true
  ·rw[af hk,af hk,vx r (n+1) ((x,n)::cO),vx r (n+1) [(x,n)],i9];rfl
  ·rw[ag hk,ag hk];exact vx r n cO
theorem Gp:∀(names:List (Str×NameKind))(n:Nat)(x:Str)(c:Addr),(x,c)∈cellsFrom n names []→(x,NameKind.cell)∈names
 | [],_,_,_,h=>nomatch h
 |(y,k)::r,n,x,c,h=>by
  unfold cellsFrom at h;by_cases hk:(k==NameKind.cell)=true
  ·have ip:k=.cell:=by simpa using hk
   rw[af hk,vx]at h;refine(c9.mp h).elim (λh=>?_) λh=>?_
   ·exact gp _ (Gp r _ x c h)
   ·have e:(x,c)=(y,n):=by simpa using h
    cases e;subst ip;exact dN
  ·rw[ag hk]at h;exact gp _ (Gp r n x c h)
theorem Gq{α:Type}{x:Str}:∀(a b:List (Str×α)),(a++b).lookup x=(a.lookup x).or (b.lookup x)
 | [],_=>by simp
 |(y,v)::r,b=>by
  rw[tu,tq,tq];cases hb:x==y with
  |true=>simp
  |false=>exact Gq r b
theorem x6{α:Type}{x:Str}{v:α}:∀{l:List (Str×α)},(l.map (·.1)).Nodup→(x,v)∈l→l.lookup x=some v
 | [],_,h=>by cases h
 |(y,w)::r,nd,h=>by
  rw[kj,List.nodup_cons]at nd;rw[tq];cases h with
  |head=>simp
  |tail _ h=>
   have cM:(x==y)=false:=by
    apply beq_false_of_ne;intro W2;exact nd.1 (cY.mpr ⟨(x,v),h,W2⟩)
   rw[cM];exact x6 nd.2 h
theorem MP{α β:Type}{x:Str}(f:Str×α→Str×β)(hf:∀p,(f p).1=p.1):∀(l:List (Str×α)),(l.map f).lookup x=(l.lookup x).map λk=>(f (x,k)).2
 | []=>rfl
 |(n,k)::r=>by
  obtain⟨m,z⟩:∃z,f (n,k)=(n,z):=⟨(f (n,k)).2,Prod.ext (hf _) rfl⟩;rw[kj,z,tq,tq];cases hx:x==n with
  |false=>exact MP f hf r
  |true=>cases(beq_iff_eq.mp hx);simp[z]
theorem W3(names:List (Str×NameKind)):(names.map λ(n,k)=>if(k==NameKind.free&&env.scope.kind == .function&&env.kindOf n==some .cell)then(n,NameKind.cell)else(n,k)).lookup x =
  (names.lookup x).map λk=>if(k==NameKind.free&&env.scope.kind == .function&&env.kindOf x==some .cell)=true then NameKind.cell else k:=by
 rw[MP _ (λp=>by dsimp only;split<;>rfl)]
 congr 1
 funext k
 dsimp only;split<;>rfl
theorem W4{M:Model}{E:QV}{cl:List (Str×Addr)}{Q:Env→Shared→Prop}
  (q:Q (newEnv scope s.heap.objs.size env.globals (cellsFrom (s.heap.objs.size+1) scope.names cl) env.qual none .none (some env) builtinsNs)
   { s with heap:=pushCells (s.heap.push { cls:=.type "dict",data:=.dict #[] }) scope.names }) :
  wpAny M A (newFunctionEnv scope env.globals cl [] env.qual none .none (some env)) Q E s:=by
 have z:(s.heap.push { cls:=.type "dict",data:=.dict #[] }).objs.size=s.heap.objs.size+1:=oM ..;rw[← z]at q;unfold newFunctionEnv;have cells:=wpAny_layCells (M:=M) (A:=A) (E:=E) (λx r=>if(x.2==NameKind.cell)=true then(do let c ← alloc { cls:=.type "cell",data:=.cell none };pure (ForInStep.yield ((x.1,c)::r)))else pure (ForInStep.yield r)) (λ_ _ _=>rfl) scope.names cl { s with heap:=s.heap.push { cls:=.type "dict",data:=.dict #[] } }
 exact ao (wpAny_alloc (ao (cells _ (ao (ar (ar q))))))
noncomputable def nX(X:Cx)(N:List Str)(scope:Scope)(cs:List (Str×Addr))(C:Addr)(s₀:Shared)(H₀:Hp)(ex:List Addr):Cx where
 prog:=X.prog
 w:=X.w
 K:=X.K
 mg:=X.mg
 base:=X.base
 A:=X.A
 N:=N
 s₀:=s₀
 H₀:=H₀
 env:=compEnvC scope cs C X.env
 outer:=X.stack
 stack:=X.stack
 ex:=ex
 fn:=λx=>scope.names.lookup x==some .cell
 calm:=X.calm
 pn:=[]
 xe:=λ_ _=>False
structure dR(oN:List Str)(rZ:Scope)(N:List Str)(own:Nat)(caps:List Nat)(scope:Scope):Prop where
 kind:scope.kind=.function
 nd:N.Nodup
 BA:(scope.names.map (·.1)).Nodup
 free:∀x∈scope.names,x.2=.free→rZ.names.lookup x.1=some .cell∨rZ.names.lookup x.1=some .free
 len:N.length=own+caps.length
 nY:caps.map (λi=>oN[i]?)=(N.drop own).map some
 W5:∀x∈N.drop own,scope.names.lookup x=some .free
noncomputable def r8(own:Nat)(caps:List Nat)(σ:St):St:=List.replicate own none++caps.map λi=>(σ[i]?).join
noncomputable abbrev r9(X:Cx)(scope:Scope)(C:Addr):List (Str×Addr):=cellsFrom (C+1) scope.names (kE X.env.cells scope.names [])
noncomputable abbrev x8(h:Heap)(scope:Scope):Heap:=pushCells (h.push { cls:=.type "dict",data:=.dict #[] }) scope.names
section
variable{X:Cx}{aJ:List (Addr×Obj)}{σ:St}{H:Hp}{s:Shared}{N:List Str}{own:Nat}{caps:List Nat}{scope:Scope}{ex:List Addr}
theorem vy(S:dR X.N X.env.scope N own caps scope)(I:Inv X aJ σ H s)(n:Nat)(h:(cellsFrom n scope.names (kE X.env.cells scope.names [])).lookup x=some c) :
  (x,c)∈cellsFrom n scope.names []∨((x,NameKind.free)∈scope.names∧X.env.cells.lookup x=some c):=by
 rw[vx,Gq]at h;cases q:(cellsFrom n scope.names []).lookup x with
 |some c'=>
  rw[q]at h;have e:c'=c:=by simpa using h
  subst e;exact .inl (pT q)
 |none=>
  rw[q]at h;have h':(kE X.env.cells scope.names []).lookup x=some c:=by simpa using h
  rcases Bz _ _ h' with z|⟨z,e⟩
  ·cases z
  ·refine .inr ⟨z,?_⟩;obtain⟨c',gZ⟩:=I.ok.has x (S.free (x,.free) z rfl);rw[gZ]at e ⊢;rw[e];rfl
theorem MQ(S:dR X.N X.env.scope N own caps scope)(I:Inv X aJ σ H s)(n:Nat)(hx:scope.names.lookup x=some .free) :
  ∃c,X.env.cells.lookup x=some c∧(cellsFrom n scope.names (kE X.env.cells scope.names [])).lookup x=some c:=by
 have hm:(x,NameKind.free)∈scope.names:=pT hx;obtain⟨c,hc⟩:=I.ok.has x (S.free (x,.free) hm rfl);refine⟨c,hc,?_⟩;obtain⟨c',gZ⟩:=AL.mp (Gn (cells:=X.env.cells) (x:=x) scope.names [] (.inl hm));have e0:(cellsFrom n scope.names []).lookup x=none:=by
  cases q:(cellsFrom n scope.names []).lookup x with
  |none=>rfl
  |some d=>
   have:=x6 S.BA (Gp _ _ _ _ (pT q))
   rw[hx]at this;cases this
 rw[vx,Gq,e0,gZ];rcases Bz _ _ gZ with z|⟨_,e⟩
 ·cases z
 ·rw[hc]at e;rw[e];rfl
theorem W6(S:dR X.N X.env.scope N own caps scope)(I:Inv X aJ σ H s)(hex:∀b∈ex,jc X aJ H b∧b<s.heap.objs.size) :
  Inv (nX X N scope (r9 X scope s.heap.objs.size) s.heap.objs.size s H ex) [] (r8 own caps σ) H { s with heap:=x8 s.heap scope }:=by
 have k1:∀b o,s.heap.get? b=some o→(x8 s.heap scope).get? b=some o:=λb o e=>pushCells_keeps _ _ b o (dD _ e);have ok:=cellsFrom_ok scope.names (s.heap.push { cls:=.type "dict",data:=.dict #[] }) (s.heap.objs.size+1) [] ⟨λ_ _ hm=>(nomatch hm),List.Pairwise.nil⟩ (by rw[oM];exact bX _);rw[oM]at ok;have MR:∀x c,X.env.cells.lookup x=some c→c<s.heap.objs.size:=λx c e=>by
  obtain⟨v,q⟩:=I.cell x c e;exact q.lt
 have MT:∀x,(compEnvC scope (r9 X scope s.heap.objs.size) s.heap.objs.size X.env).kindOf x=(scope.names.lookup x).map λk=>if(k==NameKind.free&&X.env.scope.kind == .function&&X.env.kindOf x==some .cell)=true then NameKind.cell else k:=
  λx=>W3 (env:=X.env) scope.names
 have kk:∀x,(compEnvC scope (r9 X scope s.heap.objs.size) s.heap.objs.size X.env).kindOf x=some .cell∨(compEnvC scope (r9 X scope s.heap.objs.size) s.heap.objs.size X.env).kindOf x=some .free→
   scope.names.lookup x=some .cell∨scope.names.lookup x=some .free:=λx h=>by
  rw[MT]at h;cases q:scope.names.lookup x with
  |none=>rw[q]at h;rcases h with h|h<;>cases h
  |some k=>
   rw[q]at h;by_cases hf:k=.free
   ·exact .inr (by rw[hf])
   ·have hb:(k==NameKind.free)=false:=by simpa using hf
    have e:(some k).map (λk=>if(k==NameKind.free&&X.env.scope.kind == .function&&X.env.kindOf x==some .cell)=true then NameKind.cell else k)=some k:=by
     simp[hf]
    rw[e]at h;exact h
 refine⟨⟨I.ok.mod,S.kind,I.ok.glob,I.ok.blt,bX _,λx y c h1 h2=>?_,λx hx=>?_,λx c hf h=>?_,I.ok.hd,I.ok.frames,.inl rfl,λb hb=>⟨?_,λx c h=>?_⟩,λb o e=>?_,fg I.ok.qC I.sz,λb o e hb=>?_,λb hb hf=>?_,I.stack,I.AX⟩,
  rfl,I.bare,Un.kept k1,⟨λ_=>none,?_,λi x v h1 h2 h3=>?_⟩,λx c h=>?_,I.br.fresh (bX _),λx c h=>?_,λp hp=>absurd (show p∈([]:List (Addr×Obj)) from hp) (by simp),I.br.kept k1,?_⟩
 ·
  rcases vy S I _ h1 with a1|⟨_,a1⟩<;>rcases vy S I _ h2 with a2|⟨_,a2⟩
  ·exact name_of_addr ok.apart a1 a2
  ·exact absurd (MR _ _ a2) (Nat.not_lt.mpr (Nat.le_of_succ_le (ok.empty _ _ a1).2))
  ·exact absurd (MR _ _ a1) (Nat.not_lt.mpr (Nat.le_of_succ_le (ok.empty _ _ a2).2))
  ·exact I.ok.inj _ _ _ a1 a2
 ·
  rcases kk x hx with q|q
  ·exact AL.mp (E8 scope.names _ _ (.inl q))
  ·obtain⟨c,_,hc⟩:=MQ S I (s.heap.objs.size+1) q;exact⟨c,hc⟩
 ·
  have fE:scope.names.lookup x=some .cell:=by simpa[nX]using hf
  rcases vy S I _ h with a|⟨a,_⟩
  ·exact Nat.le_of_succ_le (ok.empty _ _ a).2
  ·rw[x6 S.BA a]at fE;cases fE
 ·exact fZ (hex b hb).2
 ·rcases vy S I _ h with a|⟨_,a⟩
  ·exact Nat.ne_of_gt (iA (hex b hb).2 (Nat.le_of_succ_le (ok.empty _ _ a).2))
  ·exact(hex b hb).1.2.2.2.2.1 x c a
 ·exact I.bs b o e
 ·rcases(hex b hb).1.2.2.2.1 with z|z
  ·exact I.ok.xD b o e z
  ·exact absurd (iA (dF e) (fg I.ok.qC z)) (uT _)
 ·rcases dP.mp (I.Ff b hf)with z|z
  ·exact(hex b hb).1.2.1 z
  ·exact(hex b hb).1.2.2.1 z
 ·exact(Heap.Ns.new s.heap (.type "dict")).keeps (pushCells_keeps _ _)
 ·
  have hi:own≤i:=by
   refine Nat.le_of_not_lt λcX=>?_;unfold r8 at h2;rw[gy (by simpa using cX),E9]at h2;split at h2<;>cases h2
  obtain⟨j,rfl⟩:∃j,i=own+j:=⟨i-own,by lia⟩;unfold r8 at h2;rw[iC (by simp),dq,Nat.add_sub_cancel_left,eE]at h2;cases hc:caps[j]? with
  |none=>rw[hc]at h2;cases h2
  |some ci=>
   rw[hc]at h2;have hσ:σ[ci]?=some (some v):=by
    have z:(σ[ci]?).join=some v:=by simpa using h2
    cases q:σ[ci]? with
    |none=>rw[q]at z;cases z
    |some o=>rw[q]at z;have z':o=some v:=z;rw[z']
   have MU:(N.drop own)[j]?=some x:=by rw[uX];exact h1
   have hX:X.N[ci]?=some x:=by
    have e:=aj (λl=>l[j]?) S.nY;simp only[eE,hc,MU,Option.map_some]at e;exact c7 e
   have x9:=S.W5 x (da MU);obtain⟨c,W7,tR⟩:=MQ S I (s.heap.objs.size+1) x9;obtain⟨m,hn,hl⟩:=I.loc;have hk:=S.free (x,.free) (pT x9) rfl;have W8:ve X.env.scope x:=.inr hk;obtain⟨u,ru,lk⟩:=hl ci x v hX hσ W8;refine⟨u,ru,?_⟩;rcases lk with⟨z,_⟩|⟨_,c',e',z⟩
   ·have z':X.env.scope.names.lookup x=some .local:=z;rcases hk with hk|hk
    ·have ip:X.env.scope.names.lookup x=some .cell:=hk;rw[z']at ip;cases ip
    ·have ip:X.env.scope.names.lookup x=some .free:=hk;rw[z']at ip;cases ip
   ·rw[W7]at e';cases e';refine .inr ⟨?_,c,tR,z.keeps k1⟩;show(compEnvC scope _ _ X.env).kindOf x=_∨(compEnvC scope _ _ X.env).kindOf x=_;rw[MT,x9];show some (if _ then NameKind.cell else NameKind.free)=_∨some (if _ then NameKind.cell else NameKind.free)=_
    split
    ·exact .inl rfl
    ·exact .inr rfl
 ·rcases vy S I _ h with a|⟨_,a⟩
  ·exact⟨_,(ok.empty _ _ a).1⟩
  ·obtain⟨v,q⟩:=I.cell x c a;exact⟨v,q.keeps k1⟩
 ·rcases vy S I _ h with a|⟨_,a⟩
  ·exact I.br.fresh (Nat.le_of_succ_le (ok.empty _ _ a).2)
  ·exact I.nS x c a
 ·unfold r8;show _=N.length;rw[S.len,bK,dq,ba]
end
def vz(X:Cx)(je:List Expr)(t:TT):Prop:=
 ∀(aJ:List (Addr×Obj))(s:Shared)(σ:St)(H:Hp)(Q:Bool→Hp→Prop),Inv X aJ σ H s→t σ H Q→
  wpAny (model X.prog X.w) X.A (forIn je true λc r=>if r=true then do let ok ← isTrue c X.env (eval c X.env);pure (ForInStep.yield ok)else pure (ForInStep.yield r)) (TP X aJ σ Q) X.xe s
def kH:TT:=λ_ H Q=>Q true H
theorem gz:vz X [] kH:=λ_ _ _ H _ I h=>wpAny_tests_nil ⟨H,I,h⟩
theorem ya{c:Expr}{t:TT}(h:PT X c t):vz X [c] t:=λaJ s σ H Q I q=>wpAny_tests_one (h aJ s σ H Q I q)
def Gr(M:Model)(A:Around)(env:Env)(it cO:Value)(tg jW:Expr)(je:List Expr)(E:QV)(fin more:Shared→Prop):Shared→Prop:=
 let kept:Shared→Prop:=λu=>wpAny M A (eval jW env) (λx u5=>wpAny M A (call (.builtin "list.append") [cO,x]) (λ_ u6=>more u6) E u5) E u
 let W9:Shared→Prop:=λu=>wpAny M A (forIn je true λc r=>if r=true then(do let ok ← isTrue c env (eval c env);pure (ForInStep.yield ok))else pure (ForInStep.yield r)) (λok u4=>if ok=true then kept u4 else more u4) E u
 let Xa:QV:=λv u=>wpAny M A (letOwnedTupleGo tg it v) (λ_ u2=>wpAny M A (assign tg env v) (λ_ u3=>W9 u3) E u2) E u
 λu=>wpAny M A (pyNext it) (λo u1=>match o with|none=>fin u1|some v=>Xa v u1) E u
theorem Xb{prog:Program}{w:World}{R:Result→Shared→Prop}{jW tg iter:Expr}{je:List Expr}{pos:Pos}{it cO:Value}(I:Nat→Shared→Prop)(n:Nat)(start:I n s)
  (oX:∀m u,I m u→Gr (model prog w) A env it cO tg jW je (notedBy (model prog w) A env λe v=>R (.error e) v) (R (.ok .next)) (λv=>∃j,j<m∧I j v) u) :
  codeAny (model prog w) A (.compLoop (.ListComp jW [⟨tg,iter,je,0⟩] scope pos) 0 it cO env) R s:=by
 refine codeAny_loop rfl I (λm u hu=>wpAny_noted (m:=compTurn (.ListComp jW [⟨tg,iter,je,0⟩] scope pos) 0 it cO env) ?_) n start;have go:=oX m u hu;unfold Gr at go;rw[compTurn_list];refine ao (wpAny_standAt (ao (aZ go λo u1 b1=>?_)))
 match o,b1 with
 |none,b1=>exact ar b1
 |some v,b1=>
  refine ao (aZ b1 λ_ u2 b2=>ao (aZ b2 λ_ u3 b3=>ao (aZ b3 λok u4 b4=>?_)))
  match ok,b4 with
  |false,b4=>exact ar ⟨rfl,b4⟩
  |true,b4=>exact ao (ao (aZ b4 λx u5 b5=>ao (aZ b5 λ_ u6 b6=>ar (ar ⟨rfl,b6⟩))))
def kI(J:It)(g:TG)(tt:TT)(te:TE)(Q:VK)(W:Nat→Nat→St→Hp→List V→Prop):Prop:=
 ∀i m σ' H' ys,W i m σ' H' ys→
  (J.stop i H'∧ys.length≤sizeLine∧∀p,H' p=none→Q (.ref p) (upd H' p (.lst ys))) ∨
  (J.go i H'∧ys.length<sizeLine∧∃N:St→Hp→List V→Prop,(∀σ2 H2 zs,N σ2 H2 zs→∃m',m'<m∧W (i+1) m' σ2 H2 zs)∧
   ∀x H2,J.p6 i H' x H2→g x σ' H2 λσ3 H3=>tt σ3 H3 λb H4=>if b=true then te σ3 H4 λv H5=>N σ3 H5 (ys++[v])else N σ3 H4 ys)
def p9(wi:TI)(own:Nat)(caps:List Nat)(g:TG)(tt:TT)(te:TE):TE:=λσ H Q=>wi σ H λJ H1=>
 ∃W:Nat→Nat→St→Hp→List V→Prop,(∃m,W 0 m (r8 own caps σ) H1 [])∧kI J g tt te Q W
section
variable{X:Cx}{tg jW iter:Expr}{je:List Expr}{scope:Scope}{pos:Pos}{N:List Str}{own:Nat}{caps:List Nat}{wi:TI}{g:TG}{tt:TT}{te:TE}
theorem MV{σ:St}{H2:Hp}{s2:Shared}{J:It}{fp:List Addr}{tn:Nat→Heap→Prop}{Q:VK}{W:Nat→Nat→St→Hp→List V→Prop}{m0:Nat}
  {E:QV} {R:Value→Addr→Result→Shared→Prop} (hc:X.calm=true) (S:dR X.N X.env.scope N own caps scope)
  (hg:∀cs C s₀ H₀ ex,PG (nX X N scope cs C s₀ H₀ ex) tg g) (ht:∀cs C s₀ H₀ ex,vz (nX X N scope cs C s₀ H₀ ex) je tt) (he:∀cs C s₀ H₀ ex,PE (nX X N scope cs C s₀ H₀ ex) jW te)
  (I2:Inv X aJ σ H2 s2) (T:Turn X.prog X.w X.K tg J fp it tn) (lO:tn 0 s2.heap) (f2:∀b∈fp,jc X aJ H2 b)
  (w0:W 0 m0 (r8 own caps σ) H2 []) (oX:kI J g tt te Q W)
  (Xc:∀D C s' H' ys,Inv X aJ σ (upd H' D (.lst ys)) s'→jc X aJ (upd H' D (.lst ys)) C→(∃m,s'.heap.Ns C m)→Q (.ref D) (upd H' D (.lst ys))→R (.ref D) C (.ok .next) s') :
  wpAny (model X.prog X.w) X.A (newList []) (λcO s₃=>wpAny (model X.prog X.w) X.A (newFunctionEnv scope X.env.globals (kE X.env.cells scope.names []) [] X.env.qual none .none (some X.env)) (λMW s₄=>
   codeAny (model X.prog X.w) X.A (.compStart (.ListComp jW [⟨tg,iter,je,0⟩] scope pos) 0 (.ref it) cO { MW with scope:=relabel scope X.env }) (R cO MW.locals) s₄) E s₃) E s2:=by
 refine au (W4 ?_);dsimp only;generalize Gs:s2.heap.push { cls:=.type "list",dict:=none,data:=.seq ([]:List Value).toArray }=h3;have hC:h3.objs.size=s2.heap.objs.size+1:=by rw[← Gs,oM]
 have MX:∀b o,s2.heap.get? b=some o→h3.get? b=some o:=λb o e=>Gs▸dD _ e;have I3:Inv X aJ σ H2 { s2 with heap:=h3 }:=I2.kept (t':=s2.toks) MX;have gD:h3.get? s2.heap.objs.size=some { cls:=.type "list",data:=.seq ([]:List Value).toArray }:=Gs▸gK _ rfl;have fD:jc X aJ H2 s2.heap.objs.size:=I2.nU (bX _) (I2.br.fresh (bX _));have MY:∀b∈fp,b<s2.heap.objs.size:=λb hb=>by
  obtain⟨o,e,_⟩:=T.obj 0 _ lO b hb;exact dF e
 have hex:∀b∈s2.heap.objs.size::fp,jc X aJ H2 b∧b<({ s2 with heap:=h3 }:Shared).heap.objs.size:=λb hb=>by
  show _∧b<h3.objs.size;rw[hC];cases hb with
  |head=>exact⟨fD,Nat.lt_succ_self _⟩
  |tail _ hb=>exact⟨f2 b hb,Nat.lt_succ_of_lt (MY b hb)⟩
 have IB:=W6 S I3 hex;generalize hY:nX X N scope (r9 X scope h3.objs.size) h3.objs.size { s2 with heap:=h3 } H2 (s2.heap.objs.size::fp)=Y at IB;have yP:Y.prog=X.prog:=by rw[← hY];rfl
 have yW:Y.w=X.w:=by rw[← hY];rfl
 have yK:Y.K=X.K:=by rw[← hY];rfl
 have yc:Y.calm=true:=by rw[← hY];exact hc
 have yA:Y.A=X.A:=by rw[← hY];rfl
 have yx:Y.xe=λ_ _=>False:=by rw[← hY];rfl
 have yL:Y.env.locals=h3.objs.size:=by rw[← hY];rfl
 have MZ:Y.ex=s2.heap.objs.size::fp:=by rw[← hY];rfl
 have Xd:Y.fs=dQ X.stack:=by rw[← hY];rfl
 have M0:Y.pn=[]:=by rw[← hY];rfl
 have Gu:Y.env=compEnvC scope (r9 X scope h3.objs.size) h3.objs.size X.env:=by rw[← hY];rfl
 have yg:PG Y tg g:=by rw[← hY];exact hg _ _ _ _ _
 have yt:vz Y je tt:=by rw[← hY];exact ht _ _ _ _ _
 have ye:PE Y jW te:=by rw[← hY];exact he _ _ _ _ _
 have yb:∀{σ':St}{H':Hp}{s':Shared}{pn:List (Addr×Obj)},Inv Y pn σ' H' s'→Un (dQ X.stack) (s2.heap.objs.size::fp) H2 H' h3 s'.heap:=λ{σ' H' s' pn} J=>by
  have b:=J.base;rw[Xd,MZ]at b;have e1:Y.H₀=H2:=by rw[← hY];rfl
  have e2:Y.s₀.heap=h3:=by rw[← hY];rfl
  rw[e1,e2]at b;exact b
 have Xe:∀{σ':St}{H':Hp}{s':Shared}{pn:List (Addr×Obj)},Inv Y pn σ' H' s'→s'.os=s2.os:=λ{σ' H' s' pn} J=>by
  have e:Y.s₀.os=s2.os:=by rw[← hY];rfl
  exact J.os.trans e
 have DL:s2.heap.objs.size≠Y.env.locals:=by rw[yL,hC];exact fZ (Nat.lt_succ_self _)
 have M1:s2.heap.objs.size ∉ fp:=λz=>uT _ (MY _ z);have Gv:∀b∈s2.heap.objs.size::fp,b∈Y.ex:=λb hb=>by rw[MZ];exact hb
 have Xf:∀{pn:List (Addr×Obj)}{H':Hp},(∀p∈pn,p.1 ∉ fp)→(∀b∈fp,H' b=none)→∀b∈fp,jc Y pn H' b:=λ{pn H'} hp hn b hb=>by
  have gN:=Gv b (gp _ hb);refine⟨hn b hb,(IB.ok.xC b gN).1,IB.ok.vf b gN,.inl gN,(IB.ok.xC b gN).2,λp vA z=>?_⟩;rw[M0,uW]at vA;exact hp p vA (z▸hb)
 have BC:∀b o,h3.get? b=some o→(x8 h3 scope).get? b=some o:=λb o e=>pushCells_keeps _ _ b o (dD _ e);have M3:tn 0 (x8 h3 scope):=T.keep 0 s2.heap _ lO λb _ o e=>BC b o (MX b o e);have Xg:=BC _ _ gD;have loop:codeAny (model X.prog X.w) X.A (.compLoop (.ListComp jW [⟨tg,iter,je,0⟩] scope pos) 0 (.ref it) (.ref s2.heap.objs.size) (compEnvC scope (r9 X scope h3.objs.size) h3.objs.size X.env)) (R (.ref s2.heap.objs.size) h3.objs.size)
   { s2 with heap:=x8 h3 scope }:=by
  refine Xb (λn s'=>∃i σ' H' ys its nY,Inv Y [] σ' H' s'∧tn i s'.heap∧(∀b∈fp,H' b=none)∧H' s2.heap.objs.size=none∧
   s'.heap.get? s2.heap.objs.size=some { cls:=.type "list",data:=.seq (its:List Value).toArray nY }∧Vals ys its∧W i n σ' H' ys) m0
   ⟨0,_,H2,[],[],_,IB,M3,λb hb=>(f2 b hb).1,fD.1,Xg,.nil,w0⟩ ?_
  rintro n s5 ⟨i,σ5,H5,ys,its,nY,I5,t5,Bh,M4,Xh,BD,w5⟩;unfold Gr;dsimp only;have M5:Inv Y [(s2.heap.objs.size,{ cls:=.type "list",data:=.seq its.toArray nY })] σ5 H5 s5:=I5.AZ λp hp=>by
   have e:=cR.mp hp;subst e;exact⟨Xh,M4,DL,IB.ok.vf _ (Gv _ dN),λv z=>by cases z⟩
  have Xi:∀p∈[((s2.heap.objs.size:Addr),({ cls:=.type "list",data:=.seq its.toArray nY }:Obj))],p.1 ∉ fp:=λp hp=>by
   have e:=cR.mp hp;subst e;exact M1
  have Gw:∀{H':Hp},(∀b∈fp,H' b=none)→∀b∈fp,jc Y [((s2.heap.objs.size:Addr),({ cls:=.type "list",data:=.seq its.toArray nY }:Obj))] H' b:=λhn=>Xf Xi hn;rcases oX i n σ5 H5 ys w5 with⟨stop,hz,qn⟩|⟨go,hz,NN,M6,step⟩
  ·rw[← yA];refine ah (T.done Y yP yW yK yc i _ s5 σ5 H5 (λ_ _=>False) M5 (Gw Bh) t5 stop) (λr s6 h6=>?_) λ_ _ f=>f.elim;obtain⟨hr,I6⟩:=h6;subst hr;have Gx:=I6.pin (s2.heap.objs.size,_) (gY _ (cR.mpr rfl));have nD:H2 s2.heap.objs.size=none:=fD.1;have base:=yb I6;have un:Un (dQ X.stack) (s2.heap.objs.size::fp) H2 (upd H5 s2.heap.objs.size (.lst ys)) h3 s6.heap:=⟨base.keep,base.slot,λb o e n hx=>by
     rw[cy (λz=>hx (by rw[z];exact dN))];exact base.free b o e n hx,base.there,
    λb xs e=>by rw[cy (eQ e nD)];exact base.iS b xs e,λb o u e=>by rw[cy (eQ e nD)];exact base.iD b o u e,λb ps e=>by
     obtain⟨more,q⟩:=base.iT b ps e;exact⟨more,by rw[cy (eQ e nD)];exact q⟩⟩
   have br:dI X.prog X.w (upd H5 s2.heap.objs.size (.lst ys)) s6.heap:=λb u e=>by
    have M7:=I6.br;rw[yP,yW]at M7;by_cases hb:b=s2.heap.objs.size
    ·subst hb;rw[aQ]at e;cases e;exact⟨hz,its,nY,BD,Gx.1⟩
    ·rw[cy hb]at e;exact(M7 b u e).jt (λc v _ q=>q) (λc q=>by rw[cy (eQ q Gx.2.1)];exact q) λc xs q=>by rw[cy (eQ q Gx.2.1)];exact q
   have I7:Inv X aJ σ (upd H5 s2.heap.objs.size (.lst ys)) s6:=I3.Fj (Xe I6) un br I6.bare λb hb=>by
    have z:=(hex b hb).1;exact⟨z.2.2.2.1,z.2.1,z.2.2.2.2.1,z.2.2.2.2.2⟩
   have Xj:H5 h3.objs.size=none:=by rw[← yL];exact I6.free
   have CD:h3.objs.size≠s2.heap.objs.size:=by rw[hC];exact Nat.succ_ne_self _
   refine Xc _ _ s6 H5 ys I7 (I3.nU (bX _) (by rw[cy CD];exact Xj)) ?_ (qn _ M4);obtain⟨m,hn,_⟩:=I6.loc;rw[yL]at hn;exact⟨m,hn⟩
  ·rw[← yA];have lift:∀{α:Type}{t:Sem α}{Q1 Q2:α→Shared→Prop}{s':Shared},wpAny (model X.prog X.w) Y.A t Q1 Y.xe s'→(∀a p7,Q1 a p7→Q2 a p7)→
     wpAny (model X.prog X.w) Y.A t Q2 (notedBy (model X.prog X.w) Y.A (compEnvC scope (r9 X scope h3.objs.size) h3.objs.size X.env) λe s'=>R (.ref s2.heap.objs.size) h3.objs.size (.error e) s') s':=λh k=>
    ah h k λ_ _ f=>by rw[yx]at f;exact f.elim
   refine lift (T.item Y yP yW yK yc i _ s5 σ5 H5 Y.xe M5 (Gw Bh) t5 go) λr s6 h6=>?_;obtain⟨u,hr,h6⟩:=h6;subst hr;refine lift h6 λ_ s7 h7=>?_;obtain⟨x,H7,I7,r7,y7,t7,Xk⟩:=h7;have Xl:=I7.pinned (Gw Xk) (T.obj _ _ t7);have ha:=yg _ s7 σ5 H7 x u _ Xl r7 (step x H7 y7);rw[yP,yW,Gu]at ha;refine lift ha λ_ s8 h8=>?_;obtain⟨σ8,H8,I8,q8⟩:=h8;have hb:=yt _ s8 σ8 H8 _ I8 q8;rw[yP,yW,Gu]at hb;refine lift hb λok s9 h9=>?_;obtain⟨H9,I9,q9⟩:=h9;have after:∀{σ':St}{H':Hp}{s':Shared},Inv Y ([((s2.heap.objs.size:Addr),({ cls:=.type "list",data:=.seq its.toArray nY }:Obj))]++xN fp s7.heap) σ' H' s'→
     Inv Y [] σ' H' s'∧tn (i+1) s'.heap∧(∀b∈fp,H' b=none)∧H' s2.heap.objs.size=none∧s'.heap.get? s2.heap.objs.size=some { cls:=.type "list",data:=.seq its.toArray nY }:=λ{σ' H' s'} J=>by
    have pD:=J.pin (s2.heap.objs.size,_) (gY _ (lG _ (cR.mpr rfl)));refine⟨J.AZ (λp hp=>by cases hp),T.keep _ _ _ t7 λb hb o e=>(J.pin (b,o) (gY _ (gY _ (Bg hb e)))).1,λb hb=>?_,pD.2.1,pD.1⟩;obtain⟨o,e,d⟩:=T.obj _ _ t7 b hb;exact(J.pin (b,o) (gY _ (gY _ (Bg hb e)))).2.1
   cases ok with
   |false=>
    rw[ag (by decide)]at q9;rw[ag (by decide)];obtain⟨m',hm,w9⟩:=M6 _ _ _ q9;obtain⟨a1,a2,a3,a4,a5⟩:=after I9;exact⟨m',hm,i+1,σ8,H9,ys,its,nY,a1,a2,a3,a4,a5,BD,w9⟩
   |true=>
    rw[af rfl]at q9;rw[af rfl];have hd:=ye _ s9 σ8 H9 _ I9 q9;rw[yP,yW,Gu]at hd;refine lift hd λv BE Gy=>?_;obtain⟨y,yd,Xm,Xn,Xo⟩:=Gy;obtain⟨m',hm,Xp⟩:=M6 _ _ _ Xo;obtain⟨a1,a2,a3,a4,a5⟩:=after Xm;have cE:=BD.length;refine append_at (hsz:=by rw[dG];lia) a5 λh' sb g'=>?_;have M8:=Gv _ (dN (a:=s2.heap.objs.size) (l:=fp));have Xq:Inv Y [] σ8 yd { BE with heap:=h' }:=a1.turned (t':=BE.toks) (it:=s2.heap.objs.size) (λb o hb e=>(sb.2 b hb).trans e) a4 DL (.inl M8) (IB.ok.xC _ M8).2 (by rw[M0];intro p hp;cases hp);refine⟨m',hm,i+1,σ8,yd,ys++[y],its++[v],nY+1,Xq,T.keep _ _ _ a2 λb hb o e=>(sb.2 b (λz=>M1 (z▸hb))).trans e,a3,a4,?_,BD.snoc Xn,Xp⟩;rw[g',List.push_toArray]
 exact codeAny_compStart_list loop (T.self X.A 0 _ _ _ M3 loop)
theorem M9(S:dR X.N X.env.scope N own caps scope){σ:St}(I:Inv X aJ σ H s):closureFor scope X.env=pure (kE X.env.cells scope.names []):=
 W0 λx hx hk=>I.ok.has x.1 (S.free x hx hk)
theorem mY(hc:X.calm=true)(hi:PI X tg iter wi)(S:dR X.N X.env.scope N own caps scope)
  (hg:∀cs C s₀ H₀ ex,PG (nX X N scope cs C s₀ H₀ ex) tg g) (ht:∀cs C s₀ H₀ ex,vz (nX X N scope cs C s₀ H₀ ex) je tt) (he:∀cs C s₀ H₀ ex,PE (nX X N scope cs C s₀ H₀ ex) jW te)
  (hs:∀x,foldedSetIterable iter X.env x=pure x:=by intro _;rfl):PE X (.ListComp jW [⟨tg,iter,je,0⟩] scope pos) (p9 wi own caps g tt te):=by
 intro aJ s σ H Q I h;rw[eval_ListComp];refine wpAny_comprehension_free (use:=none) rfl hs (M9 S I) S.kind (λx hx hl=>x6 S.BA (by rw[← hl];exact hx)) ?_;refine aZ (hi aJ s σ H _ I h) λv s1 h1=>aZ h1 λBe s2 h2=>?_;obtain⟨it,fp,tn,J,H2,e,I2,T,lO,f2,W,⟨m0,w0⟩,oX⟩:=h2;subst e;refine MV hc S hg ht he I2 T lO f2 w0 oX λD C s' H' ys I' F' hn q=>?_;obtain⟨m,hn⟩:=hn;refine⟨m,hn,λh' sb=>⟨.ref D,_,I'.turned (t':=s'.toks) (λb o hb e=>(sb.2 b hb).trans e) F'.1 F'.2.1 F'.2.2.2.1 F'.2.2.2.2.1 F'.2.2.2.2.2,rfl,q⟩⟩
theorem jX{oV Na:Pos}(hc:X.calm=true)(hN:X.N.Nodup)(BF:X.N[i]?=some x)(hx:X.env.scope.names.lookup x=some .local)(hi:PI X tg iter wi)(S:dR X.N X.env.scope N own caps scope)
  (hg:∀cs C s₀ H₀ ex,PG (nX X N scope cs C s₀ H₀ ex) tg g) (ht:∀cs C s₀ H₀ ex,vz (nX X N scope cs C s₀ H₀ ex) je tt) (he:∀cs C s₀ H₀ ex,PE (nX X N scope cs C s₀ H₀ ex) jW te)
  (Xr:swapsWith (.ListComp jW [⟨tg,iter,je,0⟩] scope pos) (some (.Name x oV)) Na.line X.env=pure true:=by rfl)
  (hs:∀x,foldedSetIterable iter X.env x=pure x:=by intro _;rfl):PS X (.Assign [.Name x oV] (.ListComp jW [⟨tg,iter,je,0⟩] scope pos) Na) (dj (p9 wi own caps g tt te) (bN i)):=by
 intro aJ s σ H D I h;rw[exec_Assign_Name_used _ _ _ _ Xr];refine ao (wpAny_standAt (ao ?_));show wpAny _ X.A (do let _ ← comprehension (.ListComp jW [⟨tg,iter,je,0⟩] scope pos) scope X.env _ (newList []) false (eval iter X.env) (some (assign (.Name x oV) X.env))) _ _ s
 refine ao (ah (wpAny_comprehension_free (use:=some (assign (.Name x oV) X.env)) (Q:=λ_ s'=>SP X aJ D .next s') rfl hs (M9 S I) S.kind (λx hx hl=>x6 S.BA (by rw[← hl];exact hx)) ?_) (λ_ s' hq=>ar (ar hq)) λ_ _ e=>e);refine aZ (hi aJ s σ H _ I h) λv s1 h1=>aZ h1 λBe s2 h2=>?_;obtain⟨it,fp,tn,J,H2,e,I2,T,lO,f2,W,⟨m0,w0⟩,oX⟩:=h2;subst e;refine MV hc S hg ht he I2 T lO f2 w0 oX λD' C s' H' ys I' F' hn q=>?_;obtain⟨m,hn⟩:=hn;refine wpAny_assign_Name (LX (v:=.ref D') I' hN BF (.inl hx) rfl (λp7 Xs qc=>?_) (.inr hx));obtain⟨a,sb,ha⟩:=qc;have Xt:C≠a:=by
  rcases ha with ha|ha
  ·rw[ha];exact F'.2.1
  ·exact(F'.2.2.2.2.1 x a ha).symm
 exact⟨m,hn.sameBut sb Xt,λh' Xu=>⟨_,_,Xs.turned (t':=p7.toks) (λb o hb e=>(Xu.2 b hb).trans e) F'.1 F'.2.1 F'.2.2.2.1 F'.2.2.2.2.1 F'.2.2.2.2.2,q⟩⟩
end
noncomputable def Xv(b:Bool):String:=match b with
 |true => "list_iterator"
 |false => "tuple_iterator"
noncomputable def Nb(b:Bool):String:=match b with
 |true => "list"
 |false => "tuple"
noncomputable abbrev kK(b:Bool)(a:Addr)(i:Nat):Obj:={ cls:=.type (Xv b),data:=.fields #[.ref a,.int i 0] }
def iq(b:Bool)(h:Heap)(it a:Addr)(i:Nat):Prop:=h.get? it=some (kK b a i)
def jz(b:Bool)(h:Heap)(a:Addr)(its:Array Value):Prop:=∃o n,h.get? a=some o∧o.cls=.type (Nb b)∧o.data=.seq its n
section
variable(it a:Addr)(i:Nat)(its:Array Value)(o:Obj)(n:Nat)(ed:o.data=.seq its n)
include ed
theorem Xw(x:Value)(hx:its[i]?=some x) :
  Meets (Builtin.«tuple_iterator.__next__» ⟨[.ref it],[]⟩) (λ_ R s=>(s.heap.get? it=some (kK false a i)∧s.heap.get? a=some o)∧
   R (.ok (.ret x)) { s with heap:=s.heap.update it (Obj.mapFields λvs=>vs.setIfInBounds 1 (rawInt ((i:Int)+1))) }):=
 .of_wp λprog w A R s hyp=>by
  obtain⟨h,g,dr,tk,os⟩:=s;obtain⟨⟨e1,e2⟩,fin⟩:=hyp;have fb:its[((i:Nat):Int).toNat]?=some x:=by simpa using hx
  wp_walk
  rw[ed];wp_walk
  rw[fb];wp_walk
  exact⟨_,rfl,fin⟩
theorem Xx(x:Value)(hx:its[i]?=some x) :
  Meets (Builtin.«list_iterator.__next__» ⟨[.ref it],[]⟩) (λ_ R s=>(s.heap.get? it=some (kK true a i)∧s.heap.get? a=some o)∧
   R (.ok (.ret x)) { s with heap:=s.heap.update it (Obj.mapFields λvs=>vs.setIfInBounds 1 (rawInt ((i:Int)+1))) }):=
 .of_wp λprog w A R s hyp=>by
  obtain⟨h,g,dr,tk,os⟩:=s;obtain⟨⟨e1,e2⟩,fin⟩:=hyp;have fb:its[((i:Nat):Int).toNat]?=some x:=by simpa using hx
  wp_walk
  rw[ed];wp_walk
  rw[fb];wp_walk
  exact⟨_,rfl,fin⟩
theorem Xy(hx:its[i]?=none) :
  Meets (Builtin.«tuple_iterator.__next__» ⟨[.ref it],[]⟩) (λA R s=>A.handled=none∧(s.heap.get? it=some (kK false a i)∧s.heap.get? a=some o)∧
   ∀h' e,(∀b u,b≠it→s.heap.get? b=some u→h'.get? b=some u)→(∃u,h'.get? e=some u∧u.cls=.type "StopIteration")→R (.error (.ref e)) { s with heap:=h' }):=
 .of_wp λprog w A R s hyp=>by
  obtain⟨h,g,dr,tk,os⟩:=s;obtain⟨hh,⟨e1,e2⟩,fin⟩:=hyp;have BG:A.in1.handled=none:=hh;have fb:its[((i:Nat):Int).toNat]?=none:=by simpa using hx
  wp_walk
  rw[ed];wp_walk
  rw[fb];wp_walk
  unfold raiseNew;wp_walk
  refine fin _ _ (λb u hb q=>?_) ⟨_,gK _ rfl,rfl⟩;exact dD _ (dD _ ((Heap.get?_update_other _ _ (Ne.symm hb)).trans q))
theorem Xz(hx:its[i]?=none) :
  Meets (Builtin.«list_iterator.__next__» ⟨[.ref it],[]⟩) (λA R s=>A.handled=none∧(s.heap.get? it=some (kK true a i)∧s.heap.get? a=some o)∧
   ∀h' e,(∀b u,b≠it→s.heap.get? b=some u→h'.get? b=some u)→(∃u,h'.get? e=some u∧u.cls=.type "StopIteration")→R (.error (.ref e)) { s with heap:=h' }):=
 .of_wp λprog w A R s hyp=>by
  obtain⟨h,g,dr,tk,os⟩:=s;obtain⟨hh,⟨e1,e2⟩,fin⟩:=hyp;have BG:A.in1.handled=none:=hh;have fb:its[((i:Nat):Int).toNat]?=none:=by simpa using hx
  wp_walk
  rw[ed];wp_walk
  rw[fb];wp_walk
  unfold raiseNew;wp_walk
  refine fin _ _ (λb u hb q=>?_) ⟨_,gK _ rfl,rfl⟩;exact dD _ (dD _ ((Heap.get?_update_other _ _ (Ne.symm hb)).trans q))
end
section
variable{prog:Program}{w:World}{A:Around}{E:QV}{s:Shared}{b:Bool}{it a:Addr}{i:Nat}{its:Array Value}
theorem iq.moved(h:Heap)(e:iq b h it a i):iq b (h.update it (Obj.mapFields λvs=>vs.setIfInBounds 1 (rawInt ((i:Int)+1)))) it a (i+1):=uU _ e rfl
theorem XA{x:Value}(e1:iq b s.heap it a i)(e2:jz b s.heap a its)(hx:its[i]?=some x)
  (q:∀h',iq b h' it a (i+1)→Heap.SameBut it s.heap h'→Q x { s with heap:=h' }):wpAny (model prog w) A (Builtin.SmallTypes.nextOf (.ref it)) Q E s:=by
 obtain⟨o,n,eo,ec,ed⟩:=e2;cases b<;>unfold Builtin.SmallTypes.nextOf
 ·exact ao (aA (T := "tuple_iterator") ⟨_,e1,rfl⟩ LM (aD LM ⟨_,e1,rfl⟩ F.entry_tuple_iterator_next (F.args_tuple_iterator_next_1 _) (Xw it a i its o n ed x hx) ⟨⟨e1,eo⟩,ar (q _ (iq.moved _ e1) (pU ..))⟩))
 ·exact ao (aA (T := "list_iterator") ⟨_,e1,rfl⟩ slot_listiter_next (aD slot_listiter_next ⟨_,e1,rfl⟩ entry_listiter_next (args_listiter_next _) (Xx it a i its o n ed x hx) ⟨⟨e1,eo⟩,ar (q _ (iq.moved _ e1) (pU ..))⟩))
theorem XB(hh:A.handled=none)(e1:iq b s.heap it a i)(e2:jz b s.heap a its)(hx:its[i]?=none)
  (q:∀h' e,Heap.ExtBut it s.heap h'→(∃u,h'.get? e=some u∧u.cls=.type "StopIteration")→E (.ref e) { s with heap:=h' }):wpAny (model prog w) A (Builtin.SmallTypes.nextOf (.ref it)) Q E s:=by
 obtain⟨o,n,eo,ec,ed⟩:=e2;cases b<;>unfold Builtin.SmallTypes.nextOf
 ·exact ao (aA (T := "tuple_iterator") ⟨_,e1,rfl⟩ LM (aD LM ⟨_,e1,rfl⟩ F.entry_tuple_iterator_next (F.args_tuple_iterator_next_1 _) (Xy it a i its o n ed hx) ⟨hh,⟨e1,eo⟩,λh' e k z=>q h' e (λc u hc y=>k c u hc y) z⟩))
 ·exact ao (aA (T := "list_iterator") ⟨_,e1,rfl⟩ slot_listiter_next (aD slot_listiter_next ⟨_,e1,rfl⟩ entry_listiter_next (args_listiter_next _) (Xz it a i its o n ed hx) ⟨hh,⟨e1,eo⟩,λh' e k z=>q h' e (λc u hc y=>k c u hc y) z⟩))
end
theorem vB{prog:Program}{w:World}(b:Bool)(hh:A.handled=none)(it l:Addr)(cM:l≠it)(items:Array Value) :
  Draws prog w A it [it,l] items.size (λi v=>items[i]?=some v) (λi h=>iq b h it l i∧jz b h l items):=by
 refine⟨λi h st=>⟨_,st.1⟩,λi h h' st k=>⟨k it (by simp) _ st.1,?_⟩,λi s Q E hi st q=>?_,λs Q E st q=>XB hh st.1 st.2 (by simp) q⟩
 ·obtain⟨o,n,eo,r⟩:=st.2;exact⟨o,n,k l (by simp) o eo,r⟩
 ·have hx:items[i]?=some items[i]:=by simp[hi]
  refine XA st.1 st.2 hx λh' e1 sb=>q _ h' s.toks hx ⟨e1,?_⟩ sb;obtain⟨o,n,eo,r⟩:=st.2;exact⟨o,n,(sb.2 l cM).trans eo,r⟩
structure Gz(z TI TO i1 i2:Addr)(qO qP:List Addr):Prop where
 Nc:TI≠z
 sd:TO≠z
 BH:i1≠z
 GH:i2≠z
 XC:TI≠TO
 XD:TI≠i1
 XE:TI≠i2
 Nd:TO≠i1
 XF:TO≠i2
 Nf:i1≠i2
 fz:z ∉ qO∧z ∉ qP
 fO:TO ∉ qO∧TO ∉ qP
 f2:i2 ∉ qO
 f1:i1 ∉ qP
section
variable{prog:Program}{w:World}{A:Around}{E:QV}{z TI TO i1 i2:Addr}{qO qP:List Addr}{n1 n2 k:Nat}{P1 P2:Nat→Value→Prop}{S1 S2:Nat→Heap→Prop}{a b:Value}
theorem Draws.but{fp:List Addr}{P:Nat→Value→Prop}{St:Nat→Heap→Prop}(D:PySem.Draws prog w A it fp n P St){k:Nat}(x:St k h)(hc:c ∉ fp)(sb:Heap.SameBut c h h'):St k h':=
 D.frame _ _ _ x λb hb o e=>(sb.2 b λz=>hc (z▸hb)).trans e
def Ng(z TO i1 i2:Addr)(h h':Heap):Prop:=∀c o,c≠z→c≠TO→c≠i1→c≠i2→h.get? c=some o→h'.get? c=some o
set_option maxHeartbeats 2000000 in
theorem XG(D1:PySem.Draws prog w A i1 qO n1 P1 S1)(D2:PySem.Draws prog w A i2 qP n2 P2 S2)(D:Gz z TI TO i1 i2 qO qP)
  (hz:IsZip s.heap z TI TO .none) (hT:IsPair s.heap TI (.ref i1) (.ref i2)) (hO:IsPair s.heap TO a b) (h1:S1 k s.heap) (h2:S2 k s.heap) (l1:k<n1) (l2:k<n2)
  (q:∀x y h' t,P1 k x→P2 k y→IsZip h' z TI TO (rawInt s.heap.objs.size)→IsPair h' TO x y→S1 (k+1) h'→S2 (k+1) h'→IsPair h' s.heap.objs.size x y→h'.objs.size=s.heap.objs.size+1→Ng z TO i1 i2 s.heap h'→
   Q (.ref s.heap.objs.size) { s with heap:=h',toks:=t }):wpAny (model prog w) A (Builtin.«zip.__next__» ⟨[.ref z],[]⟩) (λfin s'=>∃v,fin=.done (.ret v)∧Q v s') E s:=by
 obtain⟨h,g,dr,tk,os⟩:=s;have yf:h.get? z=some _:=hz;have XH:h.get? TI=some _:=hT;wp_walk using wpAny_onRaise,D1.item k _ _ _ l1
 ·exact Draws.but D1 h1 D.fz.1 (pU ..)
 intro x ha ta p1 sa ka;replace ka:Heap.SameBut i1 (h.update z _) ha:=ka;have zz:=pU h z (Obj.mapFields λvs=>vs.setIfInBounds 0 Value.ellipsis);have BI:ha.get? TO=some _:=((ka.2 TO D.Nd).trans (zz.2 TO D.sd)).trans hO;have tt:=pU ha TO (Obj.mapSeq λvs=>vs.setIfInBounds 0 x);wp_walk using wpAny_onRaise,wpAny_updateSeq BI rfl,D2.item k _ _ _ l2
 all_goals try exact Draws.but D2 (Draws.but D2 (Draws.but D2 h2 D.fz.2 zz) D.f1 ka) D.fO.2 tt
 intro y hb tb p2 sb kb;replace kb:Heap.SameBut i2 (ha.update TO _) hb:=kb;have Nh:hb.get? TO=some { cls:=.type "tuple",data:=.seq #[x,b] }:=by
  rw[kb.2 TO D.XF,uU _ BI rfl];simp[Obj.mapSeq]
 have XI:hb.get? z=some { cls:=.type "zip",dict:=none,data:=.fields #[.ellipsis,.bool false,.bool false,.ref TI,.ref TO],slots:=#[] }:=by
  rw[kb.2 z D.GH.symm,tt.2 z D.sd.symm,ka.2 z D.BH.symm,uU _ yf rfl];simp[Obj.mapFields]
 have nz:TO≠z:=D.sd;wp_walk using wpAny_updateSeq Nh rfl
 refine⟨_,rfl,?_⟩;dsimp only;have sz:hb.objs.size=h.objs.size:=by rw[kb.1,tt.1,ka.1,zz.1]
 have uu:=pU hb TO (Obj.mapSeq λvs=>vs.setIfInBounds (0+1) y);have Ni:(hb.update TO (Obj.mapSeq λvs=>vs.setIfInBounds (0+1) y)).get? TO=some { cls:=.type "tuple",data:=.seq #[x,y] }:=by
  rw[uU _ Nh rfl];simp[Obj.mapSeq]
 have ex:(#[x,b].setIfInBounds (0+1) y).toList.toArray=#[x,y]:=by simp
 rw[ex];generalize hb.update TO (Obj.mapSeq λvs=>vs.setIfInBounds (0+1) y)=hc at uu Ni ⊢;have XJ:hc.objs.size=h.objs.size:=uu.1.trans sz;have new:=gK hc (o:={ cls:=.type "tuple",data:=.seq #[x,y] }) rfl;have GI:=oM hc { cls:=.type "tuple",data:=.seq #[x,y] };have old:∀c o,hc.get? c=some o→(hc.push { cls:=.type "tuple",data:=.seq #[x,y] }).get? c=some o:=λc o e=>dD _ e;rw[XJ]at new GI ⊢;generalize hc.push { cls:=.type "tuple",data:=.seq #[x,y] }=hp at new GI old ⊢;have XM:=old z _ ((uu.2 z D.sd.symm).trans XI);have v1:=pU hp z (Obj.mapFields λvs=>vs.setIfInBounds 0 (rawInt h.objs.size));have v2:=pU (hp.update z (Obj.mapFields λvs=>vs.setIfInBounds 0 (rawInt h.objs.size))) z (Obj.mapFields λvs=>vs.setIfInBounds 1 (Value.bool false));have Nj:((hp.update z (Obj.mapFields λvs=>vs.setIfInBounds 0 (rawInt h.objs.size))).update z (Obj.mapFields λvs=>vs.setIfInBounds 1 (Value.bool false))).get? z=some { cls:=.type "zip",dict:=none,data:=.fields #[rawInt h.objs.size,.bool false,.bool false,.ref TI,.ref TO],slots:=#[] }:=by
  rw[uU _ (uU _ XM rfl) rfl];simp[Obj.mapFields]
 have fwd:∀c o,c≠z→hc.get? c=some o→((hp.update z (Obj.mapFields λvs=>vs.setIfInBounds 0 (rawInt h.objs.size))).update z (Obj.mapFields λvs=>vs.setIfInBounds 1 (Value.bool false))).get? c=some o:=λc o ne e=>((v2.2 c ne).trans (v1.2 c ne)).trans (old c o e);have Nk:=(v2.1.trans v1.1).trans GI;have Nl:=((v2.2 h.objs.size (Nat.ne_of_gt (dF yf))).trans (v1.2 h.objs.size (Nat.ne_of_gt (dF yf)))).trans new;generalize (hp.update z (Obj.mapFields λvs=>vs.setIfInBounds 0 (rawInt h.objs.size))).update z (Obj.mapFields λvs=>vs.setIfInBounds 1 (Value.bool false))=hF at Nj fwd Nk Nl ⊢;refine q x y hF tb p1 p2 Nj (fwd TO _ D.sd Ni) (D1.frame _ _ _ (Draws.but D1 (Draws.but D1 (Draws.but D1 sa D.fO.1 tt) D.f2 kb) D.fO.1 uu) λc hm o e=>fwd c o (λj=>D.fz.1 (j▸hm)) e)
  (D2.frame _ _ _ (Draws.but D2 sb D.fO.2 uu) λc hm o e=>fwd c o (λj=>D.fz.2 (j▸hm)) e) Nl Nk λc o n1 n2 n3 n4 e=>fwd c o n1 ?_
 rw[uu.2 c n2,kb.2 c n4,tt.2 c n2,ka.2 c n3,zz.2 c n1];exact e
end
section
variable{prog:Program}{w:World}{A:Around}{E:QV}{z TI TO i1 i2:Addr}{qO qP:List Addr}{n1 n2 k:Nat}{P1 P2:Nat→Value→Prop}{S1 S2:Nat→Heap→Prop}{a b:Value}
set_option maxHeartbeats 2000000 in
theorem XN{Q:Fin→Shared→Prop}(D1:PySem.Draws prog w A i1 qO n1 P1 S1)(D2:PySem.Draws prog w A i2 qP n2 P2 S2)(D:Gz z TI TO i1 i2 qO qP)
  (hz:IsZip s.heap z TI TO .none) (hT:IsPair s.heap TI (.ref i1) (.ref i2)) (hO:IsPair s.heap TO a b) (h1:S1 k s.heap) (h2:S2 k s.heap) (XO:k=n1∨(k<n1∧k=n2))
  (q:∀h' e t,Ng z TO i1 i2 s.heap h'→(∃o,h'.get? e=some o∧o.cls=.type "StopIteration")→E (.ref e) { s with heap:=h',toks:=t }):wpAny (model prog w) A (Builtin.«zip.__next__» ⟨[.ref z],[]⟩) Q E s:=by
 obtain⟨h,g,dr,tk,os⟩:=s;have yf:h.get? z=some _:=hz;have XH:h.get? TI=some _:=hT;have zz:=pU h z (Obj.mapFields λvs=>vs.setIfInBounds 0 Value.ellipsis);have Nm:(h.update z (Obj.mapFields λvs=>vs.setIfInBounds 0 Value.ellipsis)).get? z=some { cls:=.type "zip",dict:=none,data:=.fields #[.ellipsis,.bool false,.bool false,.ref TI,.ref TO],slots:=#[] }:=by
  rw[uU _ yf rfl];simp[Obj.mapFields]
 rcases XO with rfl|⟨l1,rfl⟩
 ·wp_walk using wpAny_onRaise,D1.done
  all_goals try exact Draws.but D1 h1 D.fz.1 zz
  intro hx e kx ⟨oe,xe,xc⟩;have GK:hx.get? z=some _:=kx z _ D.BH.symm Nm;have GN:e≠z:=λy=>by
   subst y;rw[GK]at xe;cases xe;simp at xc
  wp_walk
  have vv:=pU hx z (Obj.mapFields λvs=>vs.setIfInBounds 0 Value.none);exact q _ e _ (λc o m1 m2 m3 m4 y=>(vv.2 c m1).trans (kx c o m3 ((zz.2 c m1).trans y))) ⟨oe,(vv.2 e GN).trans xe,xc⟩
 ·wp_walk using wpAny_onRaise,D1.item k _ _ _ l1
  all_goals try exact Draws.but D1 h1 D.fz.1 zz
  intro x ha ta p1 sa ka;replace ka:Heap.SameBut i1 (h.update z _) ha:=ka;have BI:ha.get? TO=some _:=((ka.2 TO D.Nd).trans (zz.2 TO D.sd)).trans hO;have tt:=pU ha TO (Obj.mapSeq λvs=>vs.setIfInBounds 0 x);wp_walk using wpAny_onRaise,wpAny_updateSeq BI rfl,D2.done
  all_goals try exact Draws.but D2 (Draws.but D2 (Draws.but D2 h2 D.fz.2 zz) D.f1 ka) D.fO.2 tt
  intro hx e kx ⟨oe,xe,xc⟩;replace kx:Heap.ExtBut i2 (ha.update TO _) hx:=kx;have GK:hx.get? z=some _:=kx z _ D.GH.symm ((tt.2 z D.sd.symm).trans ((ka.2 z D.BH.symm).trans Nm));have GN:e≠z:=λy=>by
   subst y;rw[GK]at xe;cases xe;simp at xc
  wp_walk
  have vv:=pU hx z (Obj.mapFields λvs=>vs.setIfInBounds 0 Value.none);exact q _ e _ (λc o m1 m2 m3 m4 y=>(vv.2 c m1).trans (kx c o m4 ((tt.2 c m2).trans ((ka.2 c m3).trans ((zz.2 c m1).trans y))))) ⟨oe,(vv.2 e GN).trans xe,xc⟩
end
def Sq(b:Bool)(K:Frag)(H:Hp)(a:Addr)(xs:List V):Prop:=match b with
 |true=>di K H a xs
 |false=>bc K H a xs
theorem Inv.sq{σ:St}(I:Inv X aJ σ H s)(h:Sq b X.K H a xs):∃its:List Value,Vals xs its∧jz b s.heap a its.toArray∧xs.length≤sizeLine:=by
 cases b with
 |true=>
  obtain⟨its,rv,p,hz⟩:=I.list h;obtain⟨o,eo,ec,n,ed⟩:=p.isList;exact⟨its,rv,⟨o,n,eo,ec,ed⟩,hz⟩
 |false=>
  obtain⟨its,rv,⟨o,eo,ec,n,ed⟩,hz⟩:=I.tuple h;exact⟨its,rv,⟨o,n,eo,ec,ed⟩,hz⟩
theorem Inv.GV{σ:St}{ys:List V}(I:Inv X aJ σ H s)(h:Sq b X.K H a xs)(h':Sq b X.K H a ys):xs=ys:=by
 cases b with
 |true=>exact I.Mb h h'
 |false=>exact I.Mc h h'
theorem iq.up(x:iq b h it a i)(k:∀o,h.get? it=some o→h'.get? it=some o):iq b h' it a i:=k _ x
theorem iq.obj(x:iq b h it a i):∃o,h.get? it=some o∧∀v,o.data≠.cell v:=⟨_,x,λv z=>by cases z⟩
theorem jz.obj(x:jz b h a its):∃o,h.get? a=some o:=let ⟨o,_,e,_⟩:=x;⟨o,e⟩
section
variable{X:Cx}{aJ:List (Addr×Obj)}{σ:St}{H:Hp}{s:Shared}{h':Heap}
theorem Inv.BJ{t':Nat}{ch:List Addr}(I:Inv X aJ σ H s)(k:∀b o,b ∉ ch→s.heap.get? b=some o→h'.get? b=some o)(hf:∀b∈ch,jc X aJ H b):Inv X aJ σ H { s with heap:=h',toks:=t' }:=by
 have xF:∀b u,H b=some u→b ∉ ch:=λb u e z=>by rw[(hf b z).1]at e;cases e
 refine I.step (g':=s.gens) (d':=s.drawn) (ch:=ch) (λb hb=>⟨(hf b hb).2.2.2.1,(hf b hb).2.1,(hf b hb).2.2.2.2.1,(hf b hb).2.2.2.2.2⟩) (λb o _ _ hc e _=>k b o hc e) (λb o _ _ hc e _=>⟨o.slots,k b o hc e⟩) (λ_ _ _ _ n=>n)
  (λb o hc e=>⟨o,k b o hc e⟩) (λ_ _ e=>e) (λ_ _ _ e=>e) (λb ps e=>⟨#[],by rw[e];simp⟩) (λm hm=>?_) (λb u e=>?_) I.bare
 ·obtain⟨o,es,ep,ho,r⟩:=hm;exact⟨o,es,ep,k _ o (λz=>(hf _ z).2.1 rfl) ho,r⟩
 ·refine(I.br b u e).jt (λc v hc q=>k c v ?_ q) (λ_ q=>q) λ_ _ q=>q;rcases hc with z|z
  ·rw[z];exact xF b u e
  ·exact xF c _ z
theorem Inv.GY{o:HO}(I:Inv X aJ σ H s)(f:jc X aJ H p)(new:ek X.prog X.w (upd H p o) s.heap p o):Inv X aJ σ (upd H p o) s:=by
 have hp:=f.1;refine I.step (g':=s.gens) (d':=s.drawn) (t':=s.toks) (h':=s.heap) (ch:=[p]) (λb hb=>?_) (λb o _ _ _ e _=>e) (λb o _ _ _ e _=>⟨o.slots,e⟩) (λb o hc e n=>?_)
  (λb o _ e=>⟨o,e⟩) (λb xs e=>by rw[cy (eQ e hp)];exact e) (λb o u e=>by rw[cy (eQ e hp)];exact e) (λb ps e=>⟨#[],by rw[cy (eQ e hp),e];simp⟩) (λm hm=>hm) (λb u e=>?_) I.bare
 ·have e:=cR.mp hb;subst e;exact⟨f.2.2.2.1,f.2.1,f.2.2.2.2.1,f.2.2.2.2.2⟩
 ·rw[cy (λz=>hc (by rw[z];exact cR.mpr rfl))];exact n
 ·by_cases hb:b=p
  ·subst hb;rw[aQ]at e;cases e;exact new
  ·rw[cy hb]at e;exact(I.br b u e).jt (λc v _ q=>q) (λc q=>by rw[cy (eQ q hp)];exact q) λc xs q=>by rw[cy (eQ q hp)];exact q
end
section
variable{prog:Program}{w:World}{A:Around}{E:QV}{s:Shared}
theorem Nn{T id:String}{Q:Option Value→Shared→Prop}(ty:s.TypeIs v T)(sl:Slot T (Str.ofString "__next__") id)
  (h:wpAny (model prog w) A (call (.builtin id) [v]) (λx s'=>Q (some x) s') (λe s'=>∃c o,e=.ref c∧s'.heap.get? c=some o∧o.cls=.type "StopIteration"∧Q none s') s):wpAny (model prog w) A (pyNext v) Q E s:=by
 unfold pyNext;refine ao (wpAny_attempt (aA ty sl (ah h (λx s' y=>ar y) λe s' y=>?_)));obtain⟨c,o,rfl,e1,e2,y⟩:=y;exact ao (wpAny_isInstance (b:=true) ⟨o,e1,e2⟩ isSubtype_stop (ar y))
theorem vC(b:Bool)(e:jz b s.heap a its)(q:Q (.ref s.heap.objs.size) { s with heap:=s.heap.push (kK b a 0) }):wpAny (model prog w) A (pyIter (.ref a)) Q E s:=by
 obtain⟨o,n,eo,ec,ed⟩:=e;cases b
 ·exact wpAny_pyIter_tuple ⟨o,eo,ec,n,ed⟩ q
 ·exact wpAny_pyIter_list ⟨o,eo,ec,n,ed⟩ q
end
structure Np(b1 b2:Bool)(l1 l2:Addr)(h h':Heap):Prop where
 zip:IsZip h' (h.objs.size+4) (h.objs.size+2) (h.objs.size+3) .none
 XQ:IsPair h' (h.objs.size+2) (.ref h.objs.size) (.ref (h.objs.size+1))
 out:IsPair h' (h.objs.size+3) .none .none
 one:iq b1 h' h.objs.size l1 0
 two:iq b2 h' (h.objs.size+1) l2 0
 old:∀c o,h.get? c=some o→h'.get? c=some o
theorem jz.up(x:jz b h a its)(k:∀o,h.get? a=some o→h'.get? a=some o):jz b h' a its:=by
 obtain⟨o,n,eo,r⟩:=x;exact⟨o,n,k o eo,r⟩
theorem XR(b1 b2:Bool)(l1 l2:Addr)(xs ys:Array Value) :
  Meets (Builtin.«zip.__new__» ⟨[.type "zip",.ref l1,.ref l2],[]⟩) (λ_ R s=>(jz b1 s.heap l1 xs∧jz b2 s.heap l2 ys)∧
   ∀h',Np b1 b2 l1 l2 s.heap h'→R (.ok (.ret (.ref (s.heap.objs.size+4)))) { s with heap:=h' }):=
 .of_wp λprog w A R s hyp=>by
  obtain⟨h,g,dr,tk,os⟩:=s;obtain⟨⟨q1,q2⟩,fin⟩:=hyp;have sub:=sub_zip;have XT:jz b2 (Shared.mk (h.push (kK b1 l1 0)) g dr tk os).heap l2 ys:=q2.up λo e=>dD _ e;wp_walk using vC b1 q1,vC b2 XT
  dsimp only;have z1:=oM h (kK b1 l1 0);generalize e1:h.push (kK b1 l1 0)=ha at *;have z2:=oM ha (kK b2 l2 0);generalize e2:ha.push (kK b2 l2 0)=hb at *;generalize e3:hb.push _=hc;have z3:hc.objs.size=hb.objs.size+1:=by rw[← e3];exact oM ..
  generalize e4:hc.push _=hd;have z4:hd.objs.size=hc.objs.size+1:=by rw[← e4];exact oM ..
  rw[z1]at z2;rw[z2]at z3;rw[z3]at z4;have a1:ha.get? h.objs.size=some (kK b1 l1 0):=by rw[← e1];exact gK _ rfl
  have a2:hb.get? (h.objs.size+1)=some (kK b2 l2 0):=by rw[← e2,← z1];exact gK _ rfl
  have a3:hc.get? (h.objs.size+2)=some { cls:=.type "tuple",data:=.seq #[.ref h.objs.size,.ref (h.objs.size+1)] }:=by
   rw[← e3,← z2,← z1];exact gK _ rfl
  have a4:hd.get? (h.objs.size+3)=some { cls:=.type "tuple",data:=.seq #[.none,.none] }:=by
   rw[← e4,← z3];exact gK _ rfl
  have u1:∀c o,h.get? c=some o→ha.get? c=some o:=λc o y=>by rw[← e1];exact dD _ y
  have u2:∀c o,ha.get? c=some o→hb.get? c=some o:=λc o y=>by rw[← e2];exact dD _ y
  have u3:∀c o,hb.get? c=some o→hc.get? c=some o:=λc o y=>by rw[← e3];exact dD _ y
  have u4:∀c o,hc.get? c=some o→hd.get? c=some o:=λc o y=>by rw[← e4];exact dD _ y
  have u5:∀(r:Obj) c o,hd.get? c=some o→(hd.push r).get? c=some o:=λr c o y=>dD _ y;rw[z2,z3,z4];refine⟨_,rfl,fin _ ⟨?_,u5 _ _ _ (u4 _ _ a3),u5 _ _ _ a4,u5 _ _ _ (u4 _ _ (u3 _ _ (u2 _ _ a1))),u5 _ _ _ (u4 _ _ (u3 _ _ a2)),λc o y=>u5 _ _ _ (u4 _ _ (u3 _ _ (u2 _ _ (u1 _ _ y))))⟩⟩;rw[← z4];exact gK _ rfl
theorem XU(b:Bool)(l:Addr)(xs:Array Value)(o:Obj)(n:Nat)(ec:o.cls=.type (Nb b))(ed:o.data=.seq xs n) :
  Meets (Builtin.«enumerate.__new__» ⟨[.type "enumerate",.ref l],[]⟩) (λ_ R s=>s.heap.get? l=some o∧
   ∀h',IsEnum h' (s.heap.objs.size+1) s.heap.objs.size 0 .none→iq b h' s.heap.objs.size l 0→(∀c o,s.heap.get? c=some o→h'.get? c=some o)→R (.ok (.ret (.ref (s.heap.objs.size+1)))) { s with heap:=h' }):=
 .of_wp λprog w A R s hyp=>by
  obtain⟨h,g,dr,tk,os⟩:=s;obtain⟨e1,fin⟩:=hyp;have sub:=sub_enumerate;have q1:jz b (Shared.mk h g dr tk os).heap l xs:=⟨o,n,e1,ec,ed⟩;have done:∀(e:Addr)(r:Obj),r={ cls:=.type "enumerate",data:=.fields #[.none,.bool false,.ref h.objs.size,rawInt 0,.none,.none] }→e=h.objs.size+1→R (.ok (.ret (.ref e))) (Shared.mk ((h.push (kK b l 0)).push r) g dr tk os):=by
   rintro e r rfl rfl;refine fin _ ?_ (dD _ (gK _ rfl)) λc o y=>dD _ (dD _ y);have z1:=oM h (kK b l 0);show Heap.get? _ (h.objs.size+1)=_;rw[← z1];exact gK _ rfl
  wp_walk using vC b q1
  refine wpAny_stack_any λst=>?_;wp_walk
  split
  ·rename_i c _ _ _ _ _
   rcases Bool.eq_false_or_eq_true (c==Value.type "enumerate")with y|y
   ·rw[y];wp_walk using vC b q1
    exact⟨_,rfl,done _ _ rfl (oM ..)⟩
   ·rw[y];wp_walk using vC b q1
    exact⟨_,rfl,done _ _ rfl (oM ..)⟩
  ·wp_walk using vC b q1
   exact⟨_,rfl,done _ _ rfl (oM ..)⟩
section
variable{prog:Program}{w:World}{A:Around}{E:QV}{s:Shared}
theorem XW(b1 b2:Bool){l1 l2:Addr}{xs ys:Array Value}(q1:jz b1 s.heap l1 xs)(q2:jz b2 s.heap l2 ys)
  (q:∀h',Np b1 b2 l1 l2 s.heap h'→Q (.ref (s.heap.objs.size+4)) { s with heap:=h' }):wpAny (model prog w) A (call (.type "zip") [.ref l1,.ref l2]) Q E s:=
 callType_new F.called_zip (by decide) (F.typeCall_zip_2 _ _) (F.newCall_zip_2 _ _) (λv=>F.args_object_init_3 v _ _) F.entry_zip_new (XR b1 b2 l1 l2 xs ys) ⟨⟨q1,q2⟩,λh' N=>⟨⟨_,N.zip,rfl⟩,q h' N⟩⟩
theorem XX(b:Bool){l:Addr}{xs:Array Value}(q1:jz b s.heap l xs)
  (q:∀h',IsEnum h' (s.heap.objs.size+1) s.heap.objs.size 0 .none→iq b h' s.heap.objs.size l 0→(∀c o,s.heap.get? c=some o→h'.get? c=some o)→Q (.ref (s.heap.objs.size+1)) { s with heap:=h' }):wpAny (model prog w) A (call (.type "enumerate") [.ref l]) Q E s:=by
 obtain⟨o,n,eo,ec,ed⟩:=q1;exact callType_new F.called_enumerate (by decide) (F.typeCall_enumerate_1 _) (F.newCall_enumerate_1 _) (λv=>F.args_object_init_2 v _) F.entry_enumerate_new (XU b l xs o n ec ed) ⟨eo,λh' a1 a2 a3=>⟨⟨_,a1,rfl⟩,q h' a1 a2 a3⟩⟩
end
noncomputable def vD(K:Frag)(b1 b2:Bool)(l1 l2:Addr):It:=
 ⟨λi H=>∃xs ys x y,Sq b1 K H l1 xs∧Sq b2 K H l2 ys∧xs[i]?=some x∧ys[i]?=some y,
   λi H v H'=>∃p x y,v=.ref p∧H p=none∧H'=upd H p (.tup [x,y])∧(∀xs,Sq b1 K H l1 xs→xs[i]?=some x)∧∀ys,Sq b2 K H l2 ys→ys[i]?=some y,
   λi H=>∃xs ys,Sq b1 K H l1 xs∧Sq b2 K H l2 ys∧(i=xs.length∨(i<xs.length∧i=ys.length))⟩
noncomputable def GZ(K:Frag)(b:Bool)(l:Addr):It:=
 ⟨λi H=>∃xs x,Sq b K H l xs∧xs[i]?=some x,
   λi H v H'=>∃p x,v=.ref p∧H p=none∧H'=upd H p (.tup [.int i,x])∧∀xs,Sq b K H l xs→xs[i]?=some x,
   λi H=>∃xs,Sq b K H l xs∧i=xs.length⟩
theorem Nq{P:Program}{w:World}{x y:V}{u:Value}(hp:IsPair h p u v)(rx:RelV x u)(ry:RelV y v):ek P w H h p (.tup [x,y]):=
 ⟨by show 2≤sizeLine;decide,[u,v],.cons rx (.cons ry .nil),_,hp,rfl,_,rfl⟩
structure XY(z TI TO i1 i2 l1 l2:Addr):Prop where
 sep:Gz z TI TO i1 i2 [i1,l1] [i2,l2]
 n1:l1≠i1
 n2:l2≠i2
theorem XZ{P:Program}{w:World}{K:Frag}{pt:Pos}(b1 b2:Bool){z TI TO i1 i2 l1 l2:Addr}(D:XY z TI TO i1 i2 l1 l2) :
  Turn P w K (.Tuple es kt pt) (vD K b1 b2 l1 l2) [z,TI,TO,i1,i2] z (λi h=>IsZip h z TI TO .none∧IsPair h TI (.ref i1) (.ref i2)∧(∃a b,IsPair h TO a b)∧iq b1 h i1 l1 i∧iq b2 h i2 l2 i) where
 mem:=by simp
 obj:=λi h st b hb=>by
  obtain⟨hz,qQ,⟨a,c,se⟩,h1,h2⟩:=st;simp only[dP,or_false,xu]at hb;rcases hb with rfl|rfl|rfl|rfl|rfl
  ·exact⟨_,hz,λv q=>by cases q⟩
  ·exact⟨_,qQ,λv q=>by cases q⟩
  ·exact⟨_,se,λv q=>by cases q⟩
  ·exact h1.obj
  ·exact h2.obj
 keep:=λi h h' st k=>by
  obtain⟨hz,qQ,⟨a,c,se⟩,h1,h2⟩:=st;exact⟨k z (by simp) _ hz,k TI (by simp) _ qQ,⟨a,c,k TO (by simp) _ se⟩,h1.up λo e=>k i1 (by simp) o e,h2.up λo e=>k i2 (by simp) o e⟩
 item:=by
  intro X hP hw hK hc i aJ s σ H E I hf st hg;subst hP hw hK;obtain⟨hz,qQ,⟨ta,tb,se⟩,h1,h2⟩:=st;obtain⟨xs,ys,x,y,jA,ia,hx,hy⟩:=hg;obtain⟨lS,qR,p1,yh⟩:=I.sq jA;obtain⟨vE,BK,p2,Nr⟩:=I.sq ia;obtain⟨u,hu,ru⟩:=qR.get hx;obtain⟨v,hv,rv⟩:=BK.get hy;have lx:i<lS.toArray.size:=by rw[dG];exact(dz.mp hu).1
  have ly:i<vE.toArray.size:=by rw[dG];exact(dz.mp hv).1
  have hh:X.A.in1.handled=none:=I.ok.hd hc;have X0:z<s.heap.objs.size:=dF hz;refine Nn ⟨_,hz,rfl⟩ F.slot_zip_next (aC F.slot_zip_next ⟨_,hz,rfl⟩ F.entry_zip_next (XG (vB b1 hh i1 l1 D.n1 lS.toArray) (vB b2 hh i2 l2 D.n2 vE.toArray) D.sep hz qQ se ⟨h1,p1⟩ ⟨h2,p2⟩ lx ly λu' v' h' tk e1 e2 a1 a2 a3 a4 a5 a6 hk=>?_) (F.args_zip_next_1 _));have eu:u'=u:=by
   have yi:lS.toArray[i]?=some u':=e1;rw[List.getElem?_toArray,hu]at yi;exact(c7 yi).symm
  have ev:v'=v:=by
   have Nt:vE.toArray[i]?=some v':=e2;rw[List.getElem?_toArray,hv]at Nt;exact(c7 Nt).symm
  subst eu ev;refine⟨_,rfl,wpAny_letOwnedTupleGo_zip a1 λqc X3 sb=>?_⟩;have ip:∀b o,b ∉ [z,TI,TO,i1,i2]→s.heap.get? b=some o→qc.get? b=some o:=λb o hb e=>by
   have:b≠z∧b≠TI∧b≠TO∧b≠i1∧b≠i2:=by simpa using hb
   exact(sb.2 b this.1).trans (hk b o this.1 this.2.2.1 this.2.2.2.1 this.2.2.2.2 e)
  have I1:Inv X aJ σ H { s with heap:=qc,toks:=tk }:=I.BJ ip hf;have X4:s.heap.objs.size≠z:=Nat.ne_of_gt X0;have yj:IsPair qc s.heap.objs.size u' v':=(sb.2 _ X4).trans a5;have fp:jc X aJ H s.heap.objs.size:=I.nU (bX _) (I.br.fresh (bX _));have I2:=I1.GY (o:=.tup [x,y]) fp (Nq yj ru rv);have up:∀b,b≠z→∀o,h'.get? b=some o→qc.get? b=some o:=λb hb o e=>(sb.2 b hb).trans e;refine⟨.ref s.heap.objs.size,_,I2,rfl,⟨_,x,y,rfl,fp.1,rfl,λX5 q=>by rw[I.GV q jA];exact hx,λys' q=>by rw[I.GV q ia];exact hy⟩,⟨X3,up _ D.sep.Nc _ (hk _ _ D.sep.Nc D.sep.XC D.sep.XD D.sep.XE qQ),⟨_,_,up _ D.sep.sd _ a2⟩,a3.1.up λo e=>up _ D.sep.BH o e,a4.1.up λo e=>up _ D.sep.GH o e⟩,λb hb=>?_⟩;rw[cy]
  ·exact(hf b hb).1
  ·obtain⟨o,e⟩:∃o,s.heap.get? b=some o:=by
    simp only[dP,or_false,xu]at hb;rcases hb with rfl|rfl|rfl|rfl|rfl
    ·exact⟨_,hz⟩
    ·exact⟨_,qQ⟩
    ·exact⟨_,se⟩
    ·exact⟨_,h1.obj.choose_spec.1⟩
    ·exact⟨_,h2.obj.choose_spec.1⟩
   exact fZ (dF e)
 done:=by
  intro X hP hw hK hc i aJ s σ H E I hf st hg;subst hP hw hK;obtain⟨hz,qQ,⟨ta,tb,se⟩,h1,h2⟩:=st;obtain⟨xs,ys,jA,ia,hx⟩:=hg;obtain⟨lS,qR,p1,yh⟩:=I.sq jA;obtain⟨vE,BK,p2,Nr⟩:=I.sq ia;have hh:X.A.in1.handled=none:=I.ok.hd hc;have X6:=qR.length;have ll2:=BK.length;refine Nn ⟨_,hz,rfl⟩ F.slot_zip_next (aC F.slot_zip_next ⟨_,hz,rfl⟩ F.entry_zip_next (XN (vB b1 hh i1 l1 D.n1 lS.toArray) (vB b2 hh i2 l2 D.n2 vE.toArray) D.sep hz qQ se ⟨h1,p1⟩ ⟨h2,p2⟩ ?_ λh' e tk hk ⟨o,e1,e2⟩=>⟨e,o,rfl,e1,e2,?_⟩) (F.args_zip_next_1 _))
  ·rw[dG,dG];lia
  ·refine⟨rfl,I.BJ (λb o hb y=>?_) hf⟩
   have:b≠z∧b≠TI∧b≠TO∧b≠i1∧b≠i2:=by simpa using hb
   exact hk b o this.1 this.2.2.1 this.2.2.2.1 this.2.2.2.2 y
 self:=λ_ _ _ _ _ st h=>wpAny_pyIter_zip st.1 h
theorem X7{e:Addr}(x:IsEnum h e it ((i:Int)+1) v):IsEnum h e it (((i+1:Nat)):Int) v:=x
theorem jB(i j:Nat)(h:i≠j:=by decide):@Ne Addr (n+i) (n+j):=λz=>h (Nat.add_left_cancel z)
theorem sf{l:Addr}(i:Nat)(h:l<n):@Ne Addr (n+i) l:=Nat.ne_of_gt (iA h (Nat.le_add_right n i))
theorem vF{b:Addr}(h1:a≠b)(h2:a≠c):a ∉ [b,c]:=by simp[h1,h2]
theorem X8{P:Program}{w:World}{K:Frag}{pt:Pos}(b:Bool){e l:Addr}(G0:e≠it)(kN:l≠e)(nZ:l≠it) :
  Turn P w K (.Tuple es kt pt) (GZ K b l) [e,it] e (λi h=>(∃old,IsEnum h e it i old)∧iq b h it l i) where
 mem:=by simp
 obj:=λi h st c hc=>by
  obtain⟨⟨old,he⟩,h1⟩:=st;simp only[dP,xu,or_false]at hc;rcases hc with rfl|rfl
  ·exact⟨_,he,λv q=>by cases q⟩
  ·exact h1.obj
 keep:=λi h h' st k=>by
  obtain⟨⟨old,he⟩,h1⟩:=st;exact⟨⟨old,k e (by simp) _ he⟩,h1.up λo q=>k it (by simp) o q⟩
 item:=by
  intro X hP hw hK hc i aJ s σ H E I hf st hg;subst hP hw hK;obtain⟨⟨old,he⟩,h1⟩:=st;obtain⟨xs,x,hq,hx⟩:=hg;obtain⟨lS,qR,p1,yh⟩:=I.sq hq;obtain⟨u,hu,ru⟩:=qR.get hx;have lx:i<lS.toArray.size:=by rw[dG];exact(dz.mp hu).1
  have hh:X.A.in1.handled=none:=I.ok.hd hc;have X9:e<s.heap.objs.size:=dF he;refine wpAny_pyNext_enum_itemD (vB b hh it l nZ lS.toArray) he ⟨h1,p1⟩ lx G0 (by simp;exact⟨G0,kN.symm⟩) λu' h' tk e1 a1 a2 a3 a4 hk=>?_;have eu:u'=u:=by
   have yi:lS.toArray[i]?=some u':=e1;rw[List.getElem?_toArray,hu]at yi;exact(c7 yi).symm
  subst eu;refine⟨_,rfl,wpAny_letOwnedTupleGo_enum a1 λqc Ya sb=>?_⟩;have ip:∀c o,c ∉ [e,it]→s.heap.get? c=some o→qc.get? c=some o:=λc o hc q=>by
   have:c≠e∧c≠it:=by simpa using hc
   exact(sb.2 c this.1).trans (hk c o this.1 this.2 q)
  have I1:Inv X aJ σ H { s with heap:=qc,toks:=tk+1 }:=I.BJ ip hf;have Yb:s.heap.objs.size≠e:=Nat.ne_of_gt X9;have yj:IsPair qc s.heap.objs.size (.int i tk) u':=(sb.2 _ Yb).trans a3;have fp:jc X aJ H s.heap.objs.size:=I.nU (bX _) (I.br.fresh (bX _));have I2:=I1.GY (o:=.tup [.int i,x]) fp (Nq yj ⟨tk,rfl⟩ ru);refine⟨.ref s.heap.objs.size,_,I2,rfl,⟨_,x,rfl,fp.1,rfl,λX5 q=>by rw[I.GV q hq];exact hx⟩,⟨⟨u',X7 Ya⟩,a2.1.up λo q=>(sb.2 it G0.symm).trans q⟩,λc hc=>?_⟩;rw[cy]
  ·exact(hf c hc).1
  ·obtain⟨o,q⟩:∃o,s.heap.get? c=some o:=by
    simp only[dP,xu,or_false]at hc;rcases hc with rfl|rfl
    ·exact⟨_,he⟩
    ·exact⟨_,h1.obj.choose_spec.1⟩
   exact fZ (dF q)
 done:=by
  intro X hP hw hK hc i aJ s σ H E I hf st hg;subst hP hw hK;obtain⟨⟨old,he⟩,h1⟩:=st;obtain⟨xs,hq,hx⟩:=hg;obtain⟨lS,qR,p1,yh⟩:=I.sq hq;have hh:X.A.in1.handled=none:=I.ok.hd hc;have X6:=qR.length;have hn:i=lS.toArray.size:=by rw[dG];lia
  refine wpAny_pyNext_enum_endD (vB b hh it l nZ lS.toArray) he (hn▸⟨h1,p1⟩) λh' hk=>?_;refine⟨rfl,I.BJ (t':=s.toks) (λc o hc q=>?_) hf⟩
  have:c≠e∧c≠it:=by simpa using hc
  exact hk c o this.2 q
 self:=λ_ _ _ _ _ st h=>wpAny_pyIter_enum st.1.choose_spec h
theorem Yc:bootBuiltins "zip"=some (.type "zip"):=by decide +kernel
section
variable{X:Cx}
def Nu(K:Frag)(b1 b2:Bool)(t:TA):TI:=λσ H R=>t σ H λvs H1=>∃l1 l2,vs=[.ref l1,.ref l2]∧(∃xs,Sq b1 K H1 l1 xs)∧(∃ys,Sq b2 K H1 l2 ys)∧R (vD K b1 b2 l1 l2) H1
def Nv(K:Frag)(b:Bool)(t:TA):TI:=λσ H R=>t σ H λvs H1=>∃l,vs=[.ref l]∧(∃xs,Sq b K H1 l xs)∧R (GZ K b l) H1
theorem Yd(b1 b2:Bool){a b:Expr}{ta:TA}{p pos pt:Pos}(hg:Gl X "zip")(hm:X.mg "zip"=none)(ha:PA X [a,b] ta)(hs:starEach [a,b] X.env=[(false,eval a X.env),(false,eval b X.env)]:=by rfl)(jC:starEach [b] X.env=[(false,eval b X.env)]:=by rfl) :
  PI X (.Tuple es kt pt) (.Call (.Name "zip" p) [a,b] [] pos) (Nu X.K b1 b2 ta):=by
 intro aJ s σ H R I h;refine Call_ (rO I hg hm Yc (AK (aZ (ha pos aJ s σ H _ I h) λus s1 ⟨vs,H1,I1,r1,q1⟩=>?_) (by rw[hs,jC]) (by rw[jC];rfl)));obtain⟨l1,l2,e,⟨xs,jA⟩,⟨ys,ia⟩,q⟩:=q1;subst e;cases r1 with
 |cons r rr=>
  cases rr with
  |cons r' rr=>
   cases rr;cases r;cases r';obtain⟨lS,qR,p1,yh⟩:=I1.sq jA;obtain⟨vE,BK,p2,Nr⟩:=I1.sq ia;have a1:l1<s1.heap.objs.size:=by obtain⟨_,e⟩:=p1.obj;exact dF e
   have a2:l2<s1.heap.objs.size:=by obtain⟨_,e⟩:=p2.obj;exact dF e
   refine XW b1 b2 p1 p2 λh' N=>wpAny_pyIter_zip N.zip ?_;refine⟨_,_,_,_,H1,rfl,I1.kept (t':=s1.toks) N.old,XZ b1 b2 (z:=s1.heap.objs.size+4) (TI:=s1.heap.objs.size+2) (TO:=s1.heap.objs.size+3) (i1:=s1.heap.objs.size) (i2:=s1.heap.objs.size+1) ⟨?_,fZ a1,fZ (Nat.lt_succ_of_lt a2)⟩,⟨N.zip,N.XQ,⟨_,_,N.out⟩,N.one,N.two⟩,λb hb=>?_,q⟩
   ·exact⟨jB 2 4,jB 3 4,jB 0 4,jB 1 4,jB 2 3,jB 2 0,jB 2 1,jB 3 0,jB 3 1,jB 0 1,⟨vF (jB 4 0) (sf 4 a1),vF (jB 4 1) (sf 4 a2)⟩,⟨vF (jB 3 0) (sf 3 a1),vF (jB 3 1) (sf 3 a2)⟩,vF (jB 1 0) (sf 1 a1),vF (jB 0 1) (sf 0 a2)⟩
   ·have gN:s1.heap.objs.size≤b:=by
     simp only[dP,or_false,xu]at hb;rcases hb with rfl|rfl|rfl|rfl|rfl
     ·exact Nat.le_add_right _ 4
     ·exact Nat.le_add_right _ 2
     ·exact Nat.le_add_right _ 3
     ·exact bX _
     ·exact Nat.le_add_right _ 1
    exact I1.nU gN (I1.br.fresh gN)
theorem Ye(b:Bool){a:Expr}{ta:TA}{p pos pt:Pos}(hg:Gl X "enumerate")(hm:X.mg "enumerate"=none)(ha:PA X [a] ta)(hs:starEach [a] X.env=[(false,eval a X.env)]:=by rfl) :
  PI X (.Tuple es kt pt) (.Call (.Name "enumerate" p) [a] [] pos) (Nv X.K b ta):=by
 intro aJ s σ H R I h;refine Call_ (rO I hg hm boot_enumerate (AK (aZ (ha pos aJ s σ H _ I h) λus s1 ⟨vs,H1,I1,r1,q1⟩=>?_) hs rfl));obtain⟨l,e,⟨xs,hq⟩,q⟩:=q1;subst e;cases r1 with
 |cons r rr=>
  cases rr;cases r;obtain⟨lS,qR,p1,yh⟩:=I1.sq hq;have a1:l<s1.heap.objs.size:=by obtain⟨_,e⟩:=p1.obj;exact dF e
  refine XX b p1 λh' z1 z2 hk=>wpAny_pyIter_enum z1 ?_;refine⟨_,_,_,_,H1,rfl,I1.kept (t':=s1.toks) hk,X8 b (e:=s1.heap.objs.size+1) (it:=s1.heap.objs.size) (jB 1 0) (sf 1 a1).symm (sf 0 a1).symm,⟨⟨_,z1⟩,z2⟩,λc hc=>?_,q⟩;have gN:s1.heap.objs.size≤c:=by
   simp only[dP,xu,or_false]at hc;rcases hc with rfl|rfl
   ·exact Nat.le_add_right _ 1
   ·exact bX _
  exact I1.nU gN (I1.br.fresh gN)
end
theorem aL.sq{K:Frag}(e:aL H H')(h:Sq b K H a xs):Sq b K H' a xs:=by
 cases b with
 |true=>exact e.seq h
 |false=>
  rcases h with h|h
  ·refine .inl ?_;rcases h with h|⟨o,h⟩
   ·exact .inl (e _ _ h)
   ·exact .inr ⟨o,e _ _ h⟩
  ·exact .inr h
theorem aL.bo{K:Frag}(e:aL H H')(h:bc K H a xs):bc K H' a xs:=e.sq (b:=false) h
theorem aL.upd{H:Hp}{p:Addr}{o:HO}(h:H p=none):aL H (upd H p o):=λb u e=>by rw[cy (eQ e h)];exact e
def ib(K:Frag)(H:Hp)(xs:List V)(Q:VK):Prop:=∀p H',aL H H'→bc K H' p xs→Q (.ref p) H'
theorem ib.old{K:Frag}{Q:VK}(h:ib K H xs Q)(q:bc K H p xs):Q (.ref p) H:=h p H (.refl H) q
theorem ib.new{K:Frag}{Q:VK}(h:ib K H xs Q)(n:H p=none):Q (.ref p) (upd H p (.tup xs)):=h p _ (.upd n) (.of aQ)
theorem Yf:fillsNumberSlot (.type "tuple") "mul"=pure false:=
 PySem.fillsNumberSlot_seq (id := "tuple.__mul__") (r:=some (.builtin "tuple.__rmul__")) F.slot_tuple_mul.lookup (by decide +kernel) F.slot_tuple_rmul.lookup (by decide +kernel)
theorem Yg:seqRepeat? (.type "tuple")=pure (some (.builtin "tuple.__mul__")):=by
 unfold seqRepeat?;rw[PySem.seqSlot_of (T := "tuple") (name := "__mul__") (id := "tuple.__mul__") F.slot_tuple_mul.lookup (by decide +kernel),PySem.seqSlot_of (T := "tuple") (name := "__rmul__") (id := "tuple.__rmul__") F.slot_tuple_rmul.lookup (by decide +kernel)];rfl
theorem Yh(a:Int)(t:Tok)(l:Addr)(items:Array Value)(n:Nat)(dd:Option Addr)(sl:Array (Option Value)) :
  Meets (Builtin.«int.__rmul__» ⟨[.int a t,.ref l],[]⟩) (λ_ R s=>s.heap.get? l=some { cls:=.type "tuple",dict:=dd,data:=.seq items n,slots:=sl }∧R (.ok (.ret Value.notImplemented)) s):=
 .of_wp λprog w A R s h=>by
  obtain⟨G1,G2,G3,G4,G5⟩:=s;have n5:=h.1;wp_walk
  exact⟨_,rfl,h.2⟩
section
variable{X:Cx}
theorem Yi:fq X (.type "range") (λxs H Q=>∃i j:Int,xs=[.int i,.int j]∧∀p,H p=none→Q (.ref p) (upd H p (.lJ i j))):=by
 intro aJ s σ H vs us Q I r h;obtain⟨i,j,rfl,q⟩:=h;obtain⟨u,v,rfl,ru,rv⟩:=vals2 r;obtain⟨t,rfl⟩:=ru;obtain⟨t',rfl⟩:=rv;refine call_range_2 ?_;exact⟨.ref _,_,I.laid (t':=_) (o:=.lJ i j) (λb o e=>dD _ e) (bX _) ⟨_,_,_,gK _ rfl⟩,rfl,q _ I.fresh⟩
theorem Yj{a:Int}:∀(n:Nat)(cO:Array Value),ItemsOf (λi v=>∃t,v=.int (a+i*1) t) cO n→Vals ((List.range n).map λ(i:Nat)=>V.int (a+i)) cO.toList:=by
 intro n cO h;have hsz:cO.size=n:=h.1;have key:∀(k:Nat),k≤n→Vals (((List.range n).map λ(i:Nat)=>V.int (a+i)).take k) (cO.toList.take k):=by
  intro k;induction k with
  |zero=>intro _;exact .nil
  |succ k ih=>
   intro hk;have ip:k<cO.size:=by lia
   rw[gq,gq];refine Vals.append (ih (by lia)) ?_;have e1:((List.range n).map λ(i:Nat)=>V.int (a+i))[k]?=some (V.int (a+k)):=by
    rw[eE,List.getElem?_range (by lia)];rfl
   have e2:cO.toList[k]?=some cO[k]:=by simp[ip]
   rw[e1,e2];obtain⟨t,e⟩:=h.2 k cO[k] (by simp[ip]);refine .cons ⟨t,?_⟩ .nil;rw[e,Int.mul_one]
 have:=key n (bX _)
 rw[lH (by simp),lH (by simp[hsz])]at this;exact this
theorem BL(hc:X.calm=true):fq X (.type "list") (λxs H Q=>∃p i j,xs=[.ref p]∧H p=some (.lJ i j)∧(-(2^62)≤i∧i<2^62∧-(2^62)≤j∧j<2^62)∧j-i≤16777216∧
  ∀l,H l=none→Q (.ref l) (upd H l (.lst ((List.range (j-i).toNat).map λ(k:Nat)=>V.int (i+k))))):=by
 intro aJ s σ H vs us Q I r h;obtain⟨p,i,j,rfl,hp,⟨h1,h2,h3,h4⟩,hz,q⟩:=h;obtain⟨u,rfl,ru⟩:=vals1 r;cases ru;obtain⟨t,u,v,e⟩:=I.br p _ hp;have hn:Builtin.Range.rangeSize i j 1=(((j-i).toNat:Nat):Int):=by rw[rangeSize_one];split<;>lia
 refine call_list_range (I.ok.hd hc) (show IsRange s.heap p i j 1 t u v from e) (small_one h1 h2 h3 h4) hn (by lia) λh' tk cO c hk hS hI=>?_
 have rv:=Yj (a:=i) _ _ hI;have I1:Inv X aJ σ H { s with heap:=h',toks:=tk }:=I.kept hk;have f:jc X aJ H s.heap.objs.size:=I.nU (bX _) I.fresh;have I2:=I1.GY (o:=.lst ((List.range (j-i).toNat).map λ(k:Nat)=>V.int (i+k))) f ⟨?_,cO.toList,c,rv,hS⟩
 ·exact⟨.ref _,_,I2,rfl,q _ f.1⟩
 ·rw[ba,tD]
  have:(16777216:Nat)≤sizeLine:=by decide
  lia
theorem Nw:∀{ns:List Int}{its:List Value},Vals (ns.map V.int) its→∃ps:List (Int×Tok),its=ps.map (λp=>Value.int p.1 p.2)∧ps.map (·.1)=ns
 | [],_,.nil=>⟨[],rfl,rfl⟩
 |n::ns,_,.cons r rr=>by
  obtain⟨t,rfl⟩:=r;obtain⟨ps,rfl,rfl⟩:=Nw rr;exact⟨(n,t)::ps,rfl,rfl⟩
theorem Yk(hc:X.calm=true):fq X (.builtin "sum") (λxs H Q=>∃p ns,xs=[.ref p]∧di X.K H p (List.map V.int ns)∧Q (.int ns.sum) H):=by
 intro aJ s σ H vs us Q I r h;obtain⟨p,ns,rfl,hq,q⟩:=h;obtain⟨u,rfl,ru⟩:=vals1 r;cases ru;obtain⟨its,rv,pl,hz⟩:=I.list hq;obtain⟨ps,rfl,rfl⟩:=Nw rv;have qS:s.heap.IsList p (intItems ps.toArray):=by
  have z:=pl.isList;rwa[show(ps.map λp=>Value.int p.1 p.2).toArray=intItems ps.toArray by simp[intItems]]at z
 refine sum_intListG (I.ok.hd hc) qS λh' tk t' hk=>⟨.int _,H,I.kept hk,⟨t',?_⟩,q⟩
 have:=preSum_eq ps.toArray ps.toArray.size
 simp only[dG]at this;rw[lH (Nat.le_of_eq (ba _))]at this;simp[this]
theorem G6{T:String}:fq X (.builtin "isinstance") (λxs H Q=>∃x t b,xs=[x,.ty T]∧mV X.K H x t∧kitOne X.K t (.type T)=some b∧Q (.bl b) H):=by
 intro aJ s σ H vs us Q I r h;obtain⟨x,t,b,rfl,ty,e,q⟩:=h;obtain⟨u,v,rfl,ru,rv⟩:=vals2 r;cases rv;exact Wc I ru ty e λtk=>⟨.bl b,H,I.tok tk,rfl,q⟩
end
mutual
inductive gB(K:Frag)(H:Hp):V→Dat→Prop
 |none:gB K H .cm .none
 |bool (b:Bool):gB K H (.bl b) (.bool b)
 |int (i:Int):gB K H (.int i) (.int i)
 |str (x:Str):gB K H (.str x) (.str x)
 |tuple {a:Addr} {xs:List V} {ds:List Dat}:bc K H a xs→bI K H xs ds→gB K H (.ref a) (.tuple ds)
 |list {a:Addr} {xs:List V} {ds:List Dat}:di K H a xs→bI K H xs ds→gB K H (.ref a) (.list ds)
inductive bI(K:Frag)(H:Hp):List V→List Dat→Prop
 |nil:bI K H [] []
 |cons {v:V} {vs:List V} {d:Dat} {ds:List Dat}:gB K H v d→bI K H vs ds→bI K H (v::vs) (d::ds)
end
mutual
theorem gB.mono{K:Frag}{H H':Hp}(e:aL H H'):∀{v:V}{d:Dat},gB K H v d→gB K H' v d
 |_,_,.none=>.none
 |_,_,.bool b=>.bool b
 |_,_,.int i=>.int i
 |_,_,.str x=>.str x
 |_,_,.tuple h r=>.tuple (e.bo h) (bI.mono e r)
 |_,_,.list h r=>.list (e.seq h) (bI.mono e r)
theorem bI.mono{K:Frag}{H H':Hp}(e:aL H H'):∀{vs:List V}{ds:List Dat},bI K H vs ds→bI K H' vs ds
 |_,_,.nil=>.nil
 |_,_,.cons h r=>.cons (gB.mono e h) (bI.mono e r)
end
theorem bI.length{K:Frag}{H:Hp}:∀{vs:List V}{ds:List Dat},bI K H vs ds→vs.length=ds.length
 |_,_,.nil=>rfl
 |_,_,.cons _ r=>by rw[eO,eO,bI.length r]
theorem bI.append{K:Frag}{H:Hp}:∀{vs ws:List V}{ds es:List Dat},bI K H vs ds→bI K H ws es→bI K H (vs++ws) (ds++es)
 |_,_,_,_,.nil,k=>k
 |_,_,_,_,.cons h r,k=>.cons h (bI.append r k)
theorem bI.get{K:Frag}{H:Hp}:∀{vs:List V}{ds:List Dat}{i:Nat}{v:V},bI K H vs ds→vs[i]?=some v→∃d,ds[i]?=some d∧gB K H v d
 |_,_,0,_,.cons h _,e=>by
  have e':_=_:=c7 e;subst e';exact⟨_,rfl,h⟩
 |_,_,i+1,v,.cons _ r,e=>bI.get (i:=i) (v:=v) r e
theorem bI.ints{K:Frag}{H:Hp}:∀(ns:List Int),bI K H (ns.map V.int) (ns.map Dat.int)
 | []=>.nil
 |n::ns=>.cons (.int n) (bI.ints ns)
theorem bI.G7{K:Frag}{H:Hp}:∀{xs:List V}{ns:List Int},bI K H xs (ns.map Dat.int)→xs=ns.map V.int
 |_,[],h=>by cases h;rfl
 |_,n::ns,h=>by
  cases h with
  |cons h r=>
   cases h;rw[bI.G7 r];rfl
mutual
theorem gB.reads{X:Cx}{aJ:List (Addr×Obj)}{σ:St}{H:Hp}{s:Shared}(I:Inv X aJ σ H s):∀{v:V}{d:Dat}{u:Value},gB X.K H v d→RelV v u→∃as,Reads s.heap u (PySem.W.kqdP d) as
 |_,_,u,.none,r=>by cases(show u=Value.none from r);exact⟨_,.none⟩
 |_,_,u,.bool b,r=>by cases(show u=Value.bool b from r);exact⟨_,.bool b⟩
 |_,_,u,.int i,r=>by obtain⟨t,rfl⟩:=r;exact⟨_,.int i t⟩
 |_,_,u,.str x,r=>by obtain⟨t,rfl⟩:=r;exact⟨_,.str x t⟩
 |_,_,u,.tuple (a:=a) h q,r=>by
  cases(show u=Value.ref a from r)
  obtain⟨its,rv,⟨o,ho,hc,n,hd⟩,_⟩:=I.tuple h;obtain⟨as,z⟩:=bI.reads I q rv;rw[PySem.W.kqdP];exact⟨as,.tuple ho hc hd (by simpa using z)⟩
 |_,_,u,.list (a:=a) h q,r=>by
  cases(show u=Value.ref a from r)
  obtain⟨its,rv,p,_⟩:=I.list h;obtain⟨o,ho,hc,n,hd⟩:=p.isList;obtain⟨as,z⟩:=bI.reads I q rv;rw[PySem.W.kqdP];exact⟨_,.list ho hc hd (by simpa using z)⟩
theorem bI.reads{X:Cx}{aJ:List (Addr×Obj)}{σ:St}{H:Hp}{s:Shared}(I:Inv X aJ σ H s):∀{vs:List V}{ds:List Dat}{us:List Value},bI X.K H vs ds→Vals vs us→∃as,ReadsAll s.heap us (PySem.W.kqdPs ds) as
 |_,_,_,.nil,.nil=>⟨_,.nil⟩
 |_,_,_,.cons h q,.cons r rr=>by
  obtain⟨as,z⟩:=gB.reads I h r;obtain⟨bs,y⟩:=bI.reads I q rr;rw[PySem.W.kqdPs];exact⟨_,.cons z y⟩
end
section
variable{X:Cx}
open Classical in
def BM(K:Frag)(neg:Bool):R2:=λx y H Q=>∃d e,gB K H x d∧gB K H y e∧kqdOk 8 d=true∧kqdOk 8 e=true∧Q (.bl (if neg then !decide (d=e)else decide (d=e))) H
open Classical in
theorem Nx{d e:Dat}(hd:kqdOk 8 d=true)(he:kqdOk 8 e=true):PyData.eqv (PySem.W.kqdP d) (PySem.W.kqdP e)=decide (d=e):=by
 exact Bool.eq_iff_iff.mpr ((PySem.W.kqd_eqv 8 d e 8 hd he).trans decide_eq_true_iff.symm)
theorem BN{d:Dat}(hd:kqdOk 8 d=true):SeqAt.shaped (PySem.W.kqdP d)=true:=by
 have l:=PySem.W.kqd_lay 8 d hd;unfold SeqAt.shaped;rw[l.1,Bool.true_and];exact aE (fg l.2 (by decide))
theorem Yl(hu:X.A.units+64<cLine):dY X (compareOp .Eq) (BM X.K false):=by
 intro aJ s σ H x y v u Q I rx ry h;obtain⟨d,e,hx,hy,hd,he,q⟩:=h;obtain⟨as,ra⟩:=hx.reads I rx;obtain⟨bs,rb⟩:=hy.reads I ry;refine eq_dataH ra rb (BN hd) (BN he) hu ?_;rw[Nx hd he];exact⟨.bl _,H,I,rfl,q⟩
theorem Ym(hu:X.A.units+64<cLine):dY X (compareOp .NotEq) (BM X.K true):=by
 intro aJ s σ H x y v u Q I rx ry h;obtain⟨d,e,hx,hy,hd,he,q⟩:=h;obtain⟨as,ra⟩:=hx.reads I rx;obtain⟨bs,rb⟩:=hy.reads I ry;refine ne_dataH ra rb (BN hd) (BN he) hu ?_;rw[Nx hd he];exact⟨.bl _,H,I,rfl,q⟩
end
noncomputable def cJ(ns:List Int):Dat:=.tuple (ns.map .int)
theorem Yn(n:Nat)(ns:List Int):kqdOk (n+1) (cJ ns)=true:=by
 unfold cJ kqdOk;rw[List.all_map];exact oO.mpr λ_ _=>by cases n<;>rfl
theorem Yo{a b:List Int}(h:cJ a=cJ b):a=b:=by
 unfold cJ at h;have h':=Dat.tuple.inj h;exact(List.map_inj_right λx y e=>Dat.int.inj e).mp h'
theorem Yp(l:Addr)(items:Array Value)(n:Nat)(dd:Option Addr)(sl:Array (Option Value))(u:Tok) :
  Meets (Builtin.«tuple.__mul__» ⟨[.ref l,.int 1 u],[]⟩) (λ_ R s=>s.heap.get? l=some { cls:=.type "tuple",dict:=dd,data:=.seq items n,slots:=sl }∧R (.ok (.ret (.ref l))) s):=
 .of_wp λprog w A R s h=>by
  obtain⟨G1,G2,G3,G4,G5⟩:=s;have n5:=h.1;have f1:=AutoSeq1.idx_int;wp_walk using tE n5
  exact⟨_,rfl,h.2⟩
theorem Yq(l:Addr)(items:Array Value)(n:Nat)(dd:Option Addr)(sl:Array (Option Value))(x:Int)(u:Tok)(hx:x≤0)(hx2:-(2^63)≤x)(cM:items.isEmpty=false) :
  Meets (Builtin.«tuple.__mul__» ⟨[.ref l,.int x u],[]⟩) (λ_ R s=>s.heap.get? l=some { cls:=.type "tuple",dict:=dd,data:=.seq items n,slots:=sl }∧
   R (.ok (.ret (Value.ref s.heap.objs.size))) { s with heap:=s.heap.push { cls:=Value.type "tuple",data:=Data.seq #[] } }):=
 .of_wp λprog w A R s h=>by
  obtain⟨G1,G2,G3,G4,G5⟩:=s;have n5:=h.1;have f1:=AutoSeq1.idx_int;have c1:(decide (x < -2^63)||decide (x≥2^63))=false:=by simp;lia
  have c2:(items.isEmpty||x==1)=false:=by rw[cM];simp;lia
  have c3:(decide (x≤0)||items.isEmpty)=true:=by simp[hx]
  wp_walk using tE n5
  refine aF (by rw[c1];rfl) ?_;wp_walk using tE n5
  refine aF (by rw[c2];rfl) ?_;wp_walk using tE n5
  exact⟨_,rfl,h.2⟩
theorem Ny(items:Array Value):∀(k:Nat)(cO:Array Value),(List.foldl (λx1 x2=>x1++x2) cO (List.replicate k items)).size=cO.size+k*items.size
 |0,cO=>by simp
 |k+1,cO=>by rw[qy,List.foldl_cons,Ny items k,Array.size_append,Nat.succ_mul];lia
theorem Yr(l:Addr)(items:Array Value)(n:Nat)(dd:Option Addr)(sl:Array (Option Value))(x:Int)(u:Tok)(hx:2≤x)(hx2:x<2^63)(cM:items.isEmpty=false)(hz:items.size*x.toNat≤sizeLine) :
  Meets (Builtin.«tuple.__mul__» ⟨[.ref l,.int x u],[]⟩) (λ_ R s=>s.heap.get? l=some { cls:=.type "tuple",dict:=dd,data:=.seq items n,slots:=sl }∧
   R (.ok (.ret (Value.ref s.heap.objs.size))) { s with heap:=s.heap.push { cls:=Value.type "tuple",data:=Data.seq (List.foldl (λx1 x2=>x1++x2) #[] (List.replicate x.toNat items)) } }):=
 .of_wp λprog w A R s h=>by
  obtain⟨G1,G2,G3,G4,G5⟩:=s;have n5:=h.1;have f1:=AutoSeq1.idx_int;have c1:(decide (x < -2^63)||decide (x≥2^63))=false:=by simp;lia
  have c2:(items.isEmpty||x==1)=false:=by rw[cM];simp;lia
  have c3:(decide (x≤0)||items.isEmpty)=false:=by rw[cM];simp;lia
  have e:(items.size:Int)*x=((items.size*x.toNat:Nat):Int):=by
   rw[Int.natCast_mul];congr 1;lia
  have Bv:(sizeLine:Nat)≤(2^63-1)/8:=by decide
  have c4:decide ((items.size:Int)*x>(2^63-1)/8)=false:=by rw[e];simp only[aG];lia
  have c5:Builtin.Tuple.tupleTooMany ((items.size:Int)*x)=false:=by rw[e];unfold Builtin.Tuple.tupleTooMany;simp only[aG];lia
  have c6:(List.foldl (λx1 x2=>x1++x2) #[] (List.replicate x.toNat items)).size≤sizeLine:=by rw[Ny,Array.size_empty,tF,Nat.mul_comm];exact hz
  wp_walk using tE n5
  refine aF (by rw[c1];rfl) ?_;wp_walk using tE n5
  refine aF (by rw[c2];rfl) ?_;wp_walk using tE n5
  refine aF (by rw[c3];rfl) ?_;wp_walk
  refine aF c4 ?_;wp_walk
  refine aF (by rw[c5];rfl) ?_;wp_walk
  exact⟨_,rfl,h.2⟩
def BO(K:Frag):R2:=λx y H Q=>∃a k xs,x=.ref a∧y=.int k∧bc K H a xs∧xs≠[]∧-(2^63)≤k∧k<2^63∧xs.length*k.toNat≤sizeLine∧ib K H (List.replicate k.toNat xs).flatten Q
theorem Ys{X:Cx}:dY X (binaryOp .Mult) (BO X.K):=by
 intro aJ s σ H x y v u Q I rx ry h;obtain⟨l,k,xs,rfl,rfl,hH,cM,h1,h2,hz,q⟩:=h;cases rx;obtain⟨t,rfl⟩:=ry;obtain⟨its,r,ht,_⟩:=I.tuple hH;obtain⟨⟨cls,dd,data,sl⟩,ho,hc,n,hd⟩:=id ht;simp only at hc hd;subst hc hd;have hi:its.toArray.isEmpty=false:=by
  have:its≠[]:=λz=>cM (r.Bo.mp z)
  cases its with
  |nil=>exact absurd rfl this
  |cons a b=>rfl
 have cE:its.toArray.size*k.toNat≤sizeLine:=by rw[dG,← r.length];exact hz
 have f0:∀m:Nat,List.foldl (λx1 x2=>x1++x2) #[] (List.replicate m its.toArray)=(List.replicate m its).flatten.toArray:=λm=>by
  have:=foldl_rep its m []
  rw[uW]at this;exact this
 refine wpAny_binaryOp_repeat_ref (T := "tuple") (U := "int") (by decide) ⟨_,ho,rfl⟩ (λs'=>typeIs_int s' k t) Yf F.fills_int_mul F.slot_int_rmul Yg F.slot_int_index.lookup
  (aD F.slot_int_rmul (typeIs_int s k t) F.entry_int_rmul (F.args_int_rmul_2 _ _) (Yh k t l its.toArray n dd sl) ⟨ho,rfl,⟨_,ho,rfl⟩,?_⟩)
 by_cases Yt:k=1
 ·subst Yt;refine aD F.slot_tuple_mul ⟨_,ho,rfl⟩ F.entry_tuple_mul (F.args_tuple_mul_2 _ _) (Yp l its.toArray n dd sl t) ⟨ho,?_⟩;exact⟨.ref l,H,I,rfl,q.old (by simpa using hH)⟩
 ·by_cases G8:k≤0
  ·refine aD F.slot_tuple_mul ⟨_,ho,rfl⟩ F.entry_tuple_mul (F.args_tuple_mul_2 _ _) (Yq l its.toArray n dd sl k t G8 h1 hi) ⟨ho,?_⟩;have e:k.toNat=0:=by lia
   rw[e]at q;exact⟨.ref _,_,I.laid (t':=s.toks) (o:=.tup []) (λb ob q=>dD _ q) (bX _) ⟨jq _,[],.nil,IsTup.new _ _⟩,rfl,q.new I.fresh⟩
  ·refine aD F.slot_tuple_mul ⟨_,ho,rfl⟩ F.entry_tuple_mul (F.args_tuple_mul_2 _ _) (Yr l its.toArray n dd sl k t (by lia) h2 hi cE) ⟨ho,?_⟩;rw[f0];exact⟨.ref _,_,I.laid (t':=s.toks) (o:=.tup (List.replicate k.toNat xs).flatten) (λb ob q=>dD _ q) (bX _) ⟨by rw[MN,Nat.mul_comm];exact hz,_,r.rep k.toNat,IsTup.new _ _⟩,rfl,q.new I.fresh⟩
noncomputable def Nz(oN:List Str)(rZ:Scope)(N:List Str)(own:Nat)(caps:List Nat)(scope:Scope):Bool:=
 decide (scope.kind=.function)&&decide N.Nodup&&decide (scope.names.map (·.1)).Nodup &&
 scope.names.all (λx=>x.2 != .free||(decide (rZ.names.lookup x.1=some .cell)||decide (rZ.names.lookup x.1=some .free))) &&
 decide (N.length=own+caps.length)&&decide (caps.map (λi=>oN[i]?)=(N.drop own).map some)&&(N.drop own).all (λx=>decide (scope.names.lookup x=some .free))
theorem dR.mk'{oN:List Str}{rZ:Scope}{N:List Str}{own:Nat}{caps:List Nat}{scope:Scope}(h:Nz oN rZ N own caps scope=true):dR oN rZ N own caps scope:=by
 unfold Nz at h;simp only[eF,aH,oO,Bool.or_eq_true,bne_iff_ne,ne_eq]at h;obtain⟨⟨⟨⟨⟨⟨h1,h2⟩,h3⟩,h4⟩,h5⟩,h6⟩,h7⟩:=h;exact⟨h1,h2,h3,λx hx hk=>(h4 x hx).elim (λz=>absurd hk z) id,h5,h6,h7⟩
def lT(n:Nat)(cp:St)(H1:Hp)(P:Hp→List V→Prop):St→Hp→List V→Prop:=λσ H zs=>(∃o:St,o.length=n∧σ=o++cp)∧aL H1 H∧P H zs
section
variable{K:Frag}{H1:Hp}{cp:St}{g:TG}{tt:TT}{te:TE}{Q:VK}{xs ys:List V}{l1 l2 a:Addr}{b1 b2 b:Bool}{n own:Nat}{J:It}
theorem yk(Pv:Nat→Hp→List V→Prop)(hn:n≤sizeLine)(h0:Pv 0 H1 [])(cE:∀i H zs,Pv i H zs→zs.length≤i)
  (Yu:∀i H,aL H1 H→i<n→J.go i H) (Yv:∀H,aL H1 H→J.stop n H)
  (step:∀i o H zs,i<n→o.length=own→aL H1 H→Pv i H zs→∀x H2,J.p6 i H x H2→g x (o++cp) H2 λσ3 H3=>tt σ3 H3 λc H4=>if c=true then te σ3 H4 λv H5=>lT own cp H1 (Pv (i+1)) σ3 H5 (zs++[v])else lT own cp H1 (Pv (i+1)) σ3 H4 zs)
  (done:∀H zs,aL H1 H→Pv n H zs→∀p,H p=none→Q (.ref p) (upd H p (.lst zs))) :
  ∃W:Nat→Nat→St→Hp→List V→Prop,(∃m,W 0 m (List.replicate own none++cp) H1 [])∧kI J g tt te Q W:=by
 refine⟨λi m σ H zs=>m=n-i∧i≤n∧lT own cp H1 (Pv i) σ H zs,⟨n,by simp,jq _,⟨_,by simp,rfl⟩,.refl _,h0⟩,?_⟩;rintro i m σ H zs ⟨rfl,hi,⟨o,ho,rfl⟩,sm,pv⟩;have hl:=cE _ _ _ pv;by_cases cX:i<n
 ·exact .inr ⟨Yu i H sm cX,by lia,lT own cp H1 (Pv (i+1)),λσ2 H2 ym q=>⟨n-(i+1),by lia,rfl,cX,q⟩,step i o H zs cX ho sm pv⟩
 ·have e:i=n:=by lia
  subst e;exact .inl ⟨Yv H sm,by lia,done H zs sm pv⟩
theorem BP{o:St}(h:o.length=1):∃x,o=[x]:=by
 match o,h with
 | [x],_=>exact⟨x,rfl⟩
theorem NA{o:St}(h:o.length=2):∃x y,o=[x,y]:=by
 match o,h with
 | [x,y],_=>exact⟨x,y,rfl⟩
theorem o6(Pv:Nat→Hp→List V→Prop)(hq:di K H1 a xs)(hz:xs.length≤sizeLine)(h0:Pv 0 H1 [])(cE:∀i H zs,Pv i H zs→zs.length≤i)
  (step:∀i x H zs,xs[i]?=some x→aL H1 H→Pv i H zs→tt (some x::cp) H λc H4=>if c=true then te (some x::cp) H4 λv H5=>lT 1 cp H1 (Pv (i+1)) (some x::cp) H5 (zs++[v])else lT 1 cp H1 (Pv (i+1)) (some x::cp) H4 zs)
  (done:∀H zs,aL H1 H→Pv xs.length H zs→∀p,H p=none→Q (.ref p) (upd H p (.lst zs))) :
  ∃W:Nat→Nat→St→Hp→List V→Prop,(∃m,W 0 m (List.replicate 1 none++cp) H1 [])∧kI (qI K a) (bN 0) tt te Q W:=by
 refine yk (n:=xs.length) Pv hz h0 cE (λi H sm hi=>⟨xs,xs[i],sm.seq hq,by simp[hi]⟩) (λH sm=>⟨xs,sm.seq hq,bX _⟩) (λi o H zs hi ho sm pv x H2 y=>?_) done;obtain⟨w,rfl⟩:=BP ho;obtain⟨rfl,y⟩:=y;exact step i x _ zs (y xs (sm.seq hq)) sm pv
theorem yn(Pv:Nat→Hp→List V→Prop)(hq:bc K H1 a xs)(hz:xs.length≤sizeLine)(h0:Pv 0 H1 [])(cE:∀i H zs,Pv i H zs→zs.length≤i)
  (step:∀i x H zs,xs[i]?=some x→aL H1 H→Pv i H zs→tt (some x::cp) H λc H4=>if c=true then te (some x::cp) H4 λv H5=>lT 1 cp H1 (Pv (i+1)) (some x::cp) H5 (zs++[v])else lT 1 cp H1 (Pv (i+1)) (some x::cp) H4 zs)
  (done:∀H zs,aL H1 H→Pv xs.length H zs→∀p,H p=none→Q (.ref p) (upd H p (.lst zs))) :
  ∃W:Nat→Nat→St→Hp→List V→Prop,(∃m,W 0 m (List.replicate 1 none++cp) H1 [])∧kI (qJ K a) (bN 0) tt te Q W:=by
 refine yk (n:=xs.length) Pv hz h0 cE (λi H sm hi=>⟨xs,xs[i],sm.bo hq,by simp[hi]⟩) (λH sm=>⟨xs,sm.bo hq,bX _⟩) (λi o H zs hi ho sm pv x H2 y=>?_) done;obtain⟨w,rfl⟩:=BP ho;obtain⟨rfl,y⟩:=y;exact step i x _ zs (y xs (sm.bo hq)) sm pv
theorem Yw{lo:Int}(Pv:Nat→Hp→List V→Prop)(hz:n≤sizeLine)(h0:Pv 0 H1 [])(cE:∀i H zs,Pv i H zs→zs.length≤i)
  (step:∀i H zs,i<n→aL H1 H→Pv i H zs→tt (some (.int (lo+(i:Nat)))::cp) H λc H4=>if c=true then te (some (.int (lo+(i:Nat)))::cp) H4 λv H5=>lT 1 cp H1 (Pv (i+1)) (some (.int (lo+(i:Nat)))::cp) H5 (zs++[v])else lT 1 cp H1 (Pv (i+1)) (some (.int (lo+(i:Nat)))::cp) H4 zs)
  (done:∀H zs,aL H1 H→Pv n H zs→∀p,H p=none→Q (.ref p) (upd H p (.lst zs))) :
  ∃W:Nat→Nat→St→Hp→List V→Prop,(∃m,W 0 m (List.replicate 1 none++cp) H1 [])∧kI (rR lo n) (bN 0) tt te Q W:=by
 refine yk (n:=n) Pv hz h0 cE (λi H sm hi=>hi) (λH sm=>bX _) (λi o H zs hi ho sm pv x H2 y=>?_) done;obtain⟨w,rfl⟩:=BP ho;obtain⟨rfl,rfl⟩:=y;exact step i _ zs hi sm pv
abbrev BQ(K:Frag)(i j:Nat):TG:=Fs K 2 (iE (bN i) (iE (bN j) rQ))
theorem G9{p:Addr}{x y:V}{i j:Nat}{σ:St}{H:Hp}{R:St→Hp→Prop}(h:bc K H p [x,y])(q:R ((σ.set i (some x)).set j (some y)) H):BQ K i j (.ref p) σ H R:=
 ⟨p,[x,y],rfl,h,rfl,x,[y],rfl,y,[],rfl,rfl,q⟩
theorem Yx(Pv:Nat→Hp→List V→Prop)(jA:Sq b1 K H1 l1 xs)(ia:Sq b2 K H1 l2 ys)(hl:xs.length=ys.length)(hz:xs.length≤sizeLine)(h0:Pv 0 H1 [])(cE:∀i H zs,Pv i H zs→zs.length≤i)(mono:∀i H H' zs,aL H H'→Pv i H zs→Pv i H' zs)
  (step:∀i x y H zs,xs[i]?=some x→ys[i]?=some y→aL H1 H→Pv i H zs→tt (some x::some y::cp) H λc H4=>if c=true then te (some x::some y::cp) H4 λv H5=>lT 2 cp H1 (Pv (i+1)) (some x::some y::cp) H5 (zs++[v])else lT 2 cp H1 (Pv (i+1)) (some x::some y::cp) H4 zs)
  (done:∀H zs,aL H1 H→Pv xs.length H zs→∀p,H p=none→Q (.ref p) (upd H p (.lst zs))) :
  ∃W:Nat→Nat→St→Hp→List V→Prop,(∃m,W 0 m (List.replicate 2 none++cp) H1 [])∧kI (vD K b1 b2 l1 l2) (BQ K 0 1) tt te Q W:=by
 refine yk (n:=xs.length) Pv hz h0 cE (λi H sm hi=>⟨xs,ys,xs[i],ys[i],sm.sq jA,sm.sq ia,by simp[hi],by simp[hl▸hi]⟩) (λH sm=>⟨xs,ys,sm.sq jA,sm.sq ia,.inl rfl⟩) (λi o H zs hi ho sm pv v H2 yl=>?_) done;obtain⟨w1,w2,rfl⟩:=NA ho;obtain⟨p,x,y,rfl,hp,rfl,hx,hy⟩:=yl;refine G9 (.of aQ) ?_;have s2:aL H (upd H p (.tup [x,y])):=.upd hp;exact step i x y _ zs (hx xs (sm.sq jA)) (hy ys (sm.sq ia)) (sm.trans s2) (mono _ _ _ _ s2 pv)
theorem Ha(Pv:Nat→Hp→List V→Prop)(hq:Sq b K H1 a xs)(hz:xs.length≤sizeLine)(h0:Pv 0 H1 [])(cE:∀i H zs,Pv i H zs→zs.length≤i)(mono:∀i H H' zs,aL H H'→Pv i H zs→Pv i H' zs)
  (step:∀i x H zs,xs[i]?=some x→aL H1 H→Pv i H zs→tt (some (.int (i:Nat))::some x::cp) H λc H4=>if c=true then te (some (.int (i:Nat))::some x::cp) H4 λv H5=>lT 2 cp H1 (Pv (i+1)) (some (.int (i:Nat))::some x::cp) H5 (zs++[v])else lT 2 cp H1 (Pv (i+1)) (some (.int (i:Nat))::some x::cp) H4 zs)
  (done:∀H zs,aL H1 H→Pv xs.length H zs→∀p,H p=none→Q (.ref p) (upd H p (.lst zs))) :
  ∃W:Nat→Nat→St→Hp→List V→Prop,(∃m,W 0 m (List.replicate 2 none++cp) H1 [])∧kI (GZ K b a) (BQ K 0 1) tt te Q W:=by
 refine yk (n:=xs.length) Pv hz h0 cE (λi H sm hi=>⟨xs,xs[i],sm.sq hq,by simp[hi]⟩) (λH sm=>⟨xs,sm.sq hq,rfl⟩) (λi o H zs hi ho sm pv v H2 yl=>?_) done;obtain⟨w1,w2,rfl⟩:=NA ho;obtain⟨p,x,rfl,hp,rfl,hx⟩:=yl;refine G9 (.of aQ) ?_;have s2:aL H (upd H p (.tup [.int i,x])):=.upd hp;exact step i x _ zs (hx xs (sm.sq hq)) (sm.trans s2) (mono _ _ _ _ s2 pv)
end
section
variable{K:Frag}{a l1 l2:Addr}{xs ys:List V}{b b1 b2:Bool}{tb:TS}{D:Ends}{σ:St}{H:Hp}{i j:Nat}
theorem Yy(Pv:Nat→St→Hp→Prop)(hl:xs.length=ys.length)(h0:Pv 0 σ H)(hq:∀k σ H,Pv k σ H→Sq b1 K H l1 xs∧Sq b2 K H l2 ys)(mono:∀k σ H H',aL H H'→Pv k σ H→Pv k σ H')
  (hs:∀k x y σ H,xs[k]?=some x→ys[k]?=some y→Pv k σ H→tb { D with nx:=Pv (k+1),ct:=Pv (k+1),bk:=D.nx } ((σ.set i (some x)).set j (some y)) H) (hd:∀σ H,Pv xs.length σ H→D.nx σ H) :
  ∃W:Nat→Nat→St→Hp→Prop,(∃m,W 0 m σ H)∧∀k m σ H,W k m σ H→
   ((vD K b1 b2 l1 l2).stop k H∧D.nx σ H)∨((vD K b1 b2 l1 l2).go k H∧∃N:St→Hp→Prop,(∀σ' H',N σ' H'→∃m',m'<m∧W (k+1) m' σ' H')∧∀x H',(vD K b1 b2 l1 l2).p6 k H x H'→BQ K i j x σ H' λσ2 H2=>tb { D with nx:=N,ct:=N,bk:=D.nx } σ2 H2):=by
 refine⟨λk m σ H=>m=xs.length-k∧k≤xs.length∧Pv k σ H,⟨xs.length,by simp,jq _,h0⟩,?_⟩;rintro k m σ H ⟨rfl,hk,p⟩;obtain⟨q1,q2⟩:=hq k σ H p;by_cases cX:k<xs.length
 ·refine .inr ⟨⟨xs,ys,xs[k],ys[k],q1,q2,by simp[cX],by simp[hl▸cX]⟩,Pv (k+1),λσ' H' p'=>⟨xs.length-(k+1),by lia,rfl,cX,p'⟩,λv H' yl=>?_⟩;obtain⟨pp,x,y,rfl,hp,rfl,hx,hy⟩:=yl;exact G9 (.of aQ) (hs k x y σ _ (hx xs q1) (hy ys q2) (mono _ _ _ _ (.upd hp) p))
 ·have e:k=xs.length:=by lia
  subst e;exact .inl ⟨⟨xs,ys,q1,q2,.inl rfl⟩,hd σ H p⟩
end
theorem BR(K:Frag):kitOne K (.type "int") (.type "int")=some true:=by kernel_rfl
theorem NB(K:Frag):kitOne K (.type "int") (.type "bool")=some false:=by kernel_rfl
theorem NC(K:Frag):kitOne K (.type "tuple") (.type "tuple")=some true:=by kernel_rfl
theorem Hc(K:Frag):kitOne K (.type "str") (.type "int")=some false:=by kernel_rfl
section
variable{X:Cx}
theorem Yz{T:String}:fq X (.builtin "isinstance") (λxs H Q=>∃a ys b,xs=[.ref a,.ty T]∧bc X.K H a ys∧kitOne X.K (.type "tuple") (.type T)=some b∧Q (.bl b) H):=by
 intro aJ s σ H vs us Q I r h;obtain⟨a,ys,b,rfl,hq,e,q⟩:=h;obtain⟨u,v,rfl,ru,rv⟩:=vals2 r;cases ru;cases rv;obtain⟨its,rr,⟨o,h1,h2,_⟩,_⟩:=I.tuple hq;exact oK PySem.W.kitx_tuple I.eR ⟨o,h1,h2⟩ e (λz=>nomatch z) λtk=>⟨.bl b,H,I.tok tk,rfl,q⟩
theorem YA{T:String}:fq X (.builtin "isinstance") (λxs H Q=>∃i b,xs=[.int i,.ty T]∧kitOne X.K (.type "int") (.type T)=some b∧Q (.bl b) H):=by
 intro aJ s σ H vs us Q I r h;obtain⟨i,b,rfl,e,q⟩:=h;exact G6 aJ s σ H _ us Q I r ⟨.int i,_,b,rfl,.int i,e,q⟩
end
theorem YB(n:String):RelV (.ty n) (.type n):=rfl
theorem qT{X:Cx}{x:Str}{T:String}{pos:Pos}(hg:Gl X x)(hm:X.mg x=none)(hv:bootBuiltins x=some (.type T))(hn:x ≠ "__name__":=by decide)(hd:(x==("__debug__":Str))=false:=by decide):PE X (.Name x pos) (tC (.ty T)):=Vx hg hm hv (YB T) hn hd
noncomputable def vG:List Expr→Option (List Int)
 | []=>some []
 | .Constant (.int i) _ _::es=>(vG es).map (i::·)
 |_=>none
theorem ND{X:Cx}:∀(es:List Expr)(ns:List Int),vG es=some ns→PA X es (λ_ H Q=>Q (ns.map V.int) H)
 | [],ns,h=>by
  cases h;exact aM
 | .Constant (.int i) j pos::es,ns,h=>by
  unfold vG at h;cases e:vG es with
  |none=>rw[e]at h;cases h
  |some ms=>
   rw[e]at h;have h':i::ms=ns:=c7 h;subst h';exact aK aR (ND es ms e) rfl
 | .Constant .none _ _::_,_,h=>by cases h
 | .Constant (.bool _) _ _::_,_,h=>by cases h
 | .Constant (.str _) _ _::_,_,h=>by cases h
 | .Constant (.bytes _) _ _::_,_,h=>by cases h
 | .Constant .ellipsis _ _::_,_,h=>by cases h
 | .Name ..::_,_,h=>by cases h
theorem Hd{K:Frag}{H:Hp}{x:V}{r:List Int}(h:gB K H x (cJ r)):∃a,x=.ref a∧bc K H a (r.map V.int):=by
 unfold cJ at h;cases h with
 |tuple hq ha=>exact⟨_,rfl,by rw[← ha.G7];exact hq⟩
theorem lU{K:Frag}{H:Hp}{a:Addr}{r:List Int}(h:bc K H a (r.map V.int)):gB K H (.ref a) (cJ r):=.tuple h (bI.ints r)
theorem aL.write{H H':Hp}{l:Addr}{o:HO}(sm:aL H H')(h:H l=none):aL H (L2.upd H' l o):=λb u e=>by rw[cy (eQ e h)];exact sm b u e
open Classical in
theorem He{d e:Dat}{A B:Prop}(h:d=e)(b:B):if(if true=true then !decide (d=e)else decide (d=e))=true then A else B:=by
 subst h;simp only[decide_true,Bool.not_true,if_true,AN,if_false];exact b
open Classical in
theorem YC{d e:Dat}(h:d=e):(if false=true then !decide (d=e)else decide (d=e))=true:=by
 subst h;simp only[decide_true,AN,if_false]
theorem NF(n:Nat)(ns:List Int):(ns.map Dat.int).all (kqdOk n)=true:=by
 rw[List.all_map];exact oO.mpr λ_ _=>by cases n<;>rfl
theorem NG(n:Nat)(rs:LL):(rs.map cJ).all (kqdOk (n+1))=true:=by
 rw[List.all_map];exact oO.mpr λr _=>Yn n r
theorem tV(rs:LL)(fs:List Int):kqdOk 8 (.list [.list (rs.map cJ),.list (fs.map .int)])=true:=by
 show([Dat.list (rs.map cJ),Dat.list (fs.map .int)]).all (kqdOk 7)=true;rw[List.all_cons,List.all_cons,List.all_nil,Bool.and_true];show((rs.map cJ).all (kqdOk 6)&&(fs.map Dat.int).all (kqdOk 6))=true;rw[NG 5,NF];rfl
section
variable{X:Cx}(K:Frag)(hK:X.K=K)
include hK
theorem cA:xW X (jV K):=hK▸Wt
theorem cT:xW X (Bp K):=hK▸Wu
theorem fH:vp X (rY K):=hK▸Wz
theorem iX:fq X (.builtin "len") (λxs H Q=>∃p ys,xs=[.ref p]∧(di K H p ys∨bc K H p ys)∧Q (.int ys.length) H):=hK▸WD
theorem yo:fq X (.type "list") (λxs H Q=>∃p ys,xs=[.ref p]∧(di K H p ys∨bc K H p ys)∧∀l,H l=none→Q (.ref l) (upd H l (.lst ys))):=hK▸WE
theorem lV:fq X (.type "tuple") (λxs H Q=>∃p ys,xs=[.ref p]∧((di K H p ys∧∀l,H l=none→Q (.ref l) (upd H l (.tup ys)))∨(bc K H p ys∧Q (.ref p) H))):=hK▸WG
theorem NH{T:String}:fq X (.builtin "isinstance") (λxs H Q=>∃a ys b,xs=[.ref a,.ty T]∧bc K H a ys∧kitOne K (.type "tuple") (.type T)=some b∧Q (.bl b) H):=hK▸Yz
theorem BU{T:String}:fq X (.builtin "isinstance") (λxs H Q=>∃i b,xs=[.int i,.ty T]∧kitOne K (.type "int") (.type T)=some b∧Q (.bl b) H):=hK▸YA
theorem yq(hc:X.calm=true):fq X (.builtin "sum") (λxs H Q=>∃p ns,xs=[.ref p]∧di K H p (List.map V.int ns)∧Q (.int ns.sum) H):=hK▸Yk hc
theorem yr(hu:X.A.units+64<cLine):dY X (compareOp .Eq) (BM K false):=hK▸Yl hu
theorem BV(hu:X.A.units+64<cLine):dY X (compareOp .NotEq) (BM K true):=hK▸Ym hu
theorem tW:dY X (binaryOp .Mult) (BO K):=hK▸Ys
theorem NI:dY X (compareOp .In) (Bq K false):=hK▸WB
theorem YD:dY X (compareOp .NotIn) (Bq K true):=hK▸WC
theorem ir{tg l:Expr}{tl:TE}(hl:PE X l tl):PI X tg l (Bf K tl):=hK▸VR hl
theorem n6{tg l:Expr}{tl:TE}(hl:PE X l tl):PI X tg l (rS K tl):=hK▸VT hl
theorem NJ(b1 b2:Bool){a b:Expr}{ta:TA}{p pos pt:Pos}{es:List Expr}{kt:Nat}(hg:Gl X "zip")(hm:X.mg "zip"=none)(ha:PA X [a,b] ta)(hs:starEach [a,b] X.env=[(false,eval a X.env),(false,eval b X.env)]:=by rfl)(jC:starEach [b] X.env=[(false,eval b X.env)]:=by rfl) :
  PI X (.Tuple es kt pt) (.Call (.Name "zip" p) [a,b] [] pos) (Nu K b1 b2 ta):=hK▸Yd b1 b2 hg hm ha hs jC
theorem Hf(b:Bool){a:Expr}{ta:TA}{p pos pt:Pos}{es:List Expr}{kt:Nat}(hg:Gl X "enumerate")(hm:X.mg "enumerate"=none)(ha:PA X [a] ta)(hs:starEach [a] X.env=[(false,eval a X.env)]:=by rfl) :
  PI X (.Tuple es kt pt) (.Call (.Name "enumerate" p) [a] [] pos) (Nv K b ta):=hK▸Ye b hg hm ha hs
theorem yu{es:List Expr}{k:Nat}{t:p5}{n:Nat}{pos:Pos}(hc:X.calm=true)(h:vj X es t)
  (hn:(assignEach es X.env).length=n:=by rfl) (xK:(assignEach es X.env).findIdx? (·.1)=none:=by rfl):PG X (.Tuple es k pos) (Fs K n t):=hK▸VH hc h hn xK
end
theorem jY:bootBuiltins "tuple"=some (.type "tuple"):=by decide +kernel
theorem qU:bootBuiltins "list"=some (.type "list"):=by decide +kernel
theorem yv:bootBuiltins "int"=some (.type "int"):=by decide +kernel
theorem NK:bootBuiltins "bool"=some (.type "bool"):=by decide +kernel
theorem BW:bootBuiltins "range"=some (.type "range"):=by decide +kernel
theorem n8:bootBuiltins "isinstance"=some (.builtin "isinstance"):=by decide +kernel
theorem yw:bootBuiltins "sum"=some (.builtin "sum"):=by decide +kernel
theorem iY:bootBuiltins "len"=some (.builtin "len"):=by decide +kernel
theorem jZ{σ:St}{H:Hp}{Y N:Hp→Prop}(h:Y H):kH σ H (λc H4=>if c=true then Y H4 else N H4):=by
 show if true=true then Y H else N H
 exact dy h
end L2
namespace L2
open PySem
structure NL(X:Cx)(es:List Expr)(ns:List Int):Prop where
 get:PA X es (λ_ H Q=>Q (ns.map V.int) H)
theorem NM{X:Cx}{es:List Expr}{ns:List Int}(h:vG es=some ns):NL X es ns:=⟨ND es ns h⟩
def Hg(ns:List Int):TE:=cS (λ_ H Q=>Q (ns.map V.int) H)
theorem NO{X:Cx}{es:List Expr}{ns:List Int}{pos:Pos}(h:NL X es ns):PE X (.List es pos) (Hg ns):=bE h.get
end L2
namespace L2
open PySem PySem.Spec PyProof.Rows
section
variable{X:Cx}{pos:Pos}
def tX(K:Frag)(n:Nat)(t:p5):TG:=λv σ H Q=>∃a xs,v=.ref a∧di K H a xs∧xs.length=n∧t xs σ H Q
theorem o7{es:List Expr}{k n:Nat}{t:p5}(hc:X.calm=true)(h:vj X es t)(hn:(assignEach es X.env).length=n:=by rfl)(xK:(assignEach es X.env).findIdx? (·.1)=none:=by rfl):PG X (.Tuple es k pos) (tX X.K n t):=by
 rintro aJ s σ H v u Q I r ⟨a,xs,rfl,hq,hl,hw⟩;cases r;obtain⟨its,rv,pl,_⟩:=I.list hq;have sz:its.toArray.size=n:=by rw[dG,← rv.length,hl]
 rw[assign_Tuple];refine ao (wpAny_standAt ?_);unfold unpack;rw[xK,hn,← sz];refine ao (aq (PySem.W.kun_itemsOf (I.ok.hd hc) pl.isList λh' ex=>?_));exact h aJ _ σ H xs _ Q (I.kept (t':=s.toks) λb o e=>ex b o (fZ (dF e)) e) (by simpa using rv) hw
end
noncomputable def yy(c:Int)(n:Nat):It:=⟨λi _=>i<n,λi H x H'=>H'=H∧x=.int (i*c),λi _=>n≤i⟩
theorem YE{P:Program}{w:World}{K:Frag}{tg:Expr}(it:Addr)(c:Int)(n:Nat):Turn P w K tg (yy c n) [it] it (λi h=>IsRangeIter h it (0+(i:Nat)*c) ((n:Int)-(i:Nat)) c):=by
 refine⟨cR.mpr rfl,λi h st b hb=>?_,λi h h' st q=>q it (cR.mpr rfl) _ st,?_,?_,λ_ _ _ _ _ st q=>wpAny_pyIter_rangeiter st q⟩
 ·cases cR.mp hb;refine⟨_,st,λv q=>?_⟩;have q':Data.fields _=Data.cell v:=q;cases q'
 ·rintro X rfl rfl rfl hc i aJ s σ H E I hf st hg;obtain⟨f0,f1,_,f3,f4,f5⟩:=hf it (cR.mpr rfl);refine(Walks.range (I.ok.hd hc) it 0 c n).item i s _ _ hg st λv h' tk hv lN kk=>?_;obtain⟨t,rfl⟩:=hv;have I1:=I.turned (h':=h') (t':=tk) (it:=it) (λb o hb e=>kk b o (λz=>hb (cR.mp z)) e) f0 f1 f3 f4 f5;exact⟨_,rfl,xM (s:={ s with heap:=h',toks:=tk }) (n := "range_iterator") lN rfl rfl (by decide) ⟨.int (i*c),H,I1,⟨t,by rw[kl]⟩,⟨rfl,rfl⟩,lN,λb hb=>(hf b hb).1⟩⟩
 ·rintro X rfl rfl rfl hc i aJ s σ H E I hf st hg;obtain⟨f0,f1,_,f3,f4,f5⟩:=hf it (cR.mpr rfl);have hg:n≤i:=hg;exact wpAny_pyNext_range_end (I.ok.hd hc) st (by lia) λh' eb=>⟨rfl,I.turned (t':=s.toks) (λb o hb e=>eb b o hb e) f0 f1 f3 f4 f5⟩
theorem Hh{x:V}{xs:List V}{us:List Value}(r:Vals (x::xs) us):∃u NP,us=u::NP∧RelV x u∧Vals xs NP:=by
 cases r with
 |cons a b=>exact⟨_,_,rfl,a,b⟩
theorem YF{c:Int}{n:Nat}{g:TG}{tb:TS}{D:Ends}{σ:St}{H:Hp}(Pv:Nat→St→Hp→Prop)(h0:Pv 0 σ H)
  (hs:∀i σ H,i<n→Pv i σ H→g (.int (i*c)) σ H λσ2 H2=>tb { D with nx:=Pv (i+1),ct:=Pv (i+1),bk:=D.nx } σ2 H2) (hd:∀σ H,Pv n σ H→D.nx σ H) :
  ∃W:Nat→Nat→St→Hp→Prop,(∃m,W 0 m σ H)∧∀i m σ H,W i m σ H→
   ((yy c n).stop i H∧D.nx σ H)∨((yy c n).go i H∧∃N:St→Hp→Prop,(∀σ' H',N σ' H'→∃m',m'<m∧W (i+1) m' σ' H')∧∀x H',(yy c n).p6 i H x H'→g x σ H' λσ2 H2=>tb { D with nx:=N,ct:=N,bk:=D.nx } σ2 H2):=by
 refine⟨λi m σ H=>m+i=n∧Pv i σ H,⟨n,rfl,h0⟩,?_⟩;rintro i m σ H ⟨e,p⟩;cases m with
 |zero=>
  have:i=n:=by lia
  subst this;exact .inl ⟨bX _,hd σ H p⟩
 |succ m=>
  refine .inr ⟨show i<n by lia,Pv (i+1),λσ' H' p'=>⟨m,Nat.lt_succ_self _,by lia,p'⟩,?_⟩;rintro x H' ⟨rfl,rfl⟩;exact hs i σ _ (by lia) p
theorem YG(l b:Addr)(its vq:Array Value)(n n2:Nat)(dd Bk:Option Addr)(sl Bl:Array (Option Value))(he:its.isEmpty=true) :
  Meets (Builtin.«tuple.__add__» ⟨[.ref l,.ref b],[]⟩) (λ_ R s=>s.heap.get? l=some { cls:=.type "tuple",dict:=dd,data:=.seq its n,slots:=sl }∧s.heap.get? b=some { cls:=.type "tuple",dict:=Bk,data:=.seq vq n2,slots:=Bl }∧R (.ok (.ret (.ref b))) s):=
 .of_wp λ_ _ _ _ s h=>by
  obtain⟨hpA,gA,dA,tkA,osA⟩:=s;have n5:=h.1;have YH:=h.2.1;have f2:=AutoSeq1.sub_tuple_tuple;wp_walk using tE n5,tE YH
  exact⟨_,rfl,h.2.2⟩
def vH(K:Frag):R2:=λx y H Q=>∃a b xs ys,x=.ref a∧y=.ref b∧bc K H a xs∧bc K H b ys∧xs.length+ys.length≤sizeLine∧ib K H (xs++ys) Q
theorem YI{X:Cx}:dY X (binaryOp .Add) (vH X.K):=by
 rintro aJ s σ H x y v u Q I rx ry ⟨a,b,xs,ys,rfl,rfl,ha,hb,hz,q⟩;by_cases hx:xs=[]
 ·subst hx;cases rx;cases ry;obtain⟨its,r1,⟨⟨c1,d1,t1,s1⟩,o1,e1,n1,f1⟩,_⟩:=I.tuple ha;obtain⟨vq,r2,⟨⟨c2,d2,t2,s2⟩,o2,e2,n2,f2⟩,_⟩:=I.tuple hb;simp only at e1 f1 e2 f2;subst e1 f1 e2 f2;cases r1;refine concat_meets ⟨_,o1,rfl⟩ ⟨_,o2,rfl⟩ noFill_tuple_add seq_tuple_add PySem.F.slot_tuple_add PySem.F.entry_tuple_add (PySem.F.args_tuple_add_2 _ _) (YG a b _ _ _ _ d1 d2 s1 s2 rfl) ⟨o1,o2,?_⟩;exact⟨.ref b,H,I,rfl,q.old hb⟩
 ·refine Wr aJ s σ H _ _ v u Q I rx ry ⟨a,b,xs,ys,rfl,rfl,ha,hb,hx,hz,λhy=>?_,λ_ p hp=>q.new hp⟩;subst hy;exact q.old (by rw[iB];exact ha)
theorem iH{X:Cx}(K:Frag)(hK:X.K=K):dY X (binaryOp .Add) (vH K):=hK▸YI
theorem YJ(d:Bool)(bs:List Bool):(List.range bs.length).map (λi=>(bs[i]?).getD d)=bs:=by
 apply List.ext_getElem
 ·simp
 ·intro i h1 h2;simp[cg h2]
theorem YK(bs:List Bool):((List.range bs.length).any λi=>(bs[i]?).getD false)=bs.any id:=by
 have e:=aj (λl=>List.any l id) (YJ false bs);rw[← e];simp only[List.any_map];rfl
section
variable{X:Cx}
theorem YL:bootBuiltins "any"=some (.builtin "any"):=by decide +kernel
end
end L2
namespace Bw
variable{D L rs:LL}{c j m n place:Nat}{f:Nat→Int}{h o:List Int}{ls:List Nat}{p:Int}{u v:Fn}
noncomputable def cb:List Int:=[2,3,5,7,11,13,17,19,23,29,31,37,41,43,47,53,59,61,67,71,73,79,83,89,97]
noncomputable def tY(p n:Int):Nat→Int
 |0=>1
 |k+1=>tY p n k*n%p
noncomputable def dC(p n:Int):Int:=tY p n (p-2).toNat
noncomputable def NQ(p n:Int):Bool:=decide (1≤dC p n)&&decide (dC p n<p)&&decide (dC p n*n%p=1)
theorem YM:(cb.all λp=>(List.range p.toNat).all λn=>n==0||NQ p n)=true:=by decide +kernel
theorem eI:∀p∈cb,2≤p∧p≤97:=by decide +kernel
theorem vI{n:Int}(hp:p∈cb)(h1:1≤n)(h2:n<p):1≤dC p n∧dC p n<p∧dC p n*n%p=1:=by
 have h:=oO.mp YM p hp;have h':=oO.mp h n.toNat (oJ.mpr (by lia));have en:((n.toNat:Nat):Int)=n:=by lia
 have n0:(n.toNat==0)=false:=by simp;lia
 rw[n0,Bool.false_or,en]at h';unfold NQ at h';simp only[aH,eF]at h';exact⟨h'.1.1,h'.1.2,h'.2⟩
theorem YN{n:Int}(hp:2≤p):∀k,0≤tY p n k∧tY p n k<p
 |0=>by unfold tY;lia
 |k+1=>by
  unfold tY;exact⟨jr _ (by lia),js _ (by lia)⟩
noncomputable def fN(p:Int)(row:List Int)(f:Int)(other:List Int):List Int:=List.zipWith (λa b=>(a+f*b)%p) row other
noncomputable def j4(p:Int):List (List Int×Int)→List Int→List Int
 | [],t=>t
 |(r,f)::L,t=>j4 p L (fN p t f r)
noncomputable def tZ(L:List (List Int×Int))(j:Nat):Int:=(L.map λq=>q.1.getD j 0*q.2).sum
theorem YO(r:List Int)(f:Int)(L:List (List Int×Int))(j:Nat):tZ ((r,f)::L) j=r.getD j 0*f+tZ L j:=by simp[tZ]
theorem YQ{f:Int}{r:List Int}(c:Nat→Int)(hr:r.length=n):fN p ((List.range n).map λj=>c j%p) f r=(List.range n).map λj=>(c j+r.getD j 0*f)%p:=by
 apply List.ext_getElem
 ·simp[fN,hr]
 ·intro i h1 h2;have hi:i<r.length:=by simp[fN,hr]at h1;lia
  simp only[fN,List.getElem_zipWith,List.getElem_map,List.getElem_range];rw[cW,cg hi,Option.getD_some,rM f,Int.emod_add_emod]
theorem NR{p:Int}{n:Nat}:∀(L:List (List Int×Int))(c:Nat→Int),(∀q∈L,q.1.length=n)→j4 p L ((List.range n).map λj=>c j%p)=(List.range n).map λj=>(c j+tZ L j)%p
 | [],c,_=>by simp[j4,tZ]
 |(r,f)::L,c,h=>by
  rw[j4,YQ c (h (r,f) dN),NR L (λj=>c j+r.getD j 0*f) λq hq=>h q (gp _ hq)];apply uY;intro j _;rw[YO,Int.add_assoc]
theorem NT(L:List (List Int×Int))(h:∀q∈L,q.1.length=n):j4 p L (List.replicate n 0)=(List.range n).map λj=>tZ L j%p:=by
 have e:List.replicate n (0:Int)=(List.range n).map λj=>(λ_=>(0:Int)) j%p:=by
  apply List.ext_getElem
  ·simp
  ·intro i _ _;simp
 rw[e,NR L (λ_=>0) h];apply uY;intro j _;rw[kl]
abbrev Fn:=Nat→Int
def gg(p:Int)(u v:Fn):Prop:=∀j,p∣u j-v j
theorem lW(p a:Int):p∣a%p-a:=⟨-(a/p),by
 have:=Int.emod_add_mul_ediv a p
 rw[Int.mul_neg];lia⟩
theorem gg.refl(p:Int)(u:Fn):gg p u u:=λj=>⟨0,by lia⟩
theorem gg.trans{w:Fn}(h:gg p u v)(k:gg p v w):gg p u w:=λj=>by
 have:=pV (h j) (k j)
 rwa[show u j-v j+(v j-w j)=u j-w j by lia]at this
inductive Sp(p:Int)(R:Fn→Prop):Fn→Prop
 |zero:Sp p R (λ_=>0)
 |add {v r:Fn} (c:Int):Sp p R v→R r→Sp p R (λj=>v j+c*r j)
 |eC {u v:Fn}:Sp p R v→gg p v u→Sp p R u
section
variable{p:Int}{R R':Fn→Prop}
theorem Sp.of_eq(h:Sp p R v)(e:∀j,v j=u j):Sp p R u:=.eC h λj=>⟨0,by rw[e j];lia⟩
theorem Sp.mem{r:Fn}(h:R r):Sp p R r:=(Sp.add 1 .zero h).of_eq λj=>by lia
theorem Sp.plus(c:Int)(hu:Sp p R u)(hv:Sp p R v):Sp p R (λj=>u j+c*v j):=by
 induction hv with
 |zero=>exact hu.of_eq λj=>by simp
 | @add v r d _ hr ih=>exact(Sp.add (c*d) ih hr).of_eq λj=>by rw[Int.mul_add,← Int.add_assoc,Int.mul_assoc]
 | @eC w v _ e ih=>
  refine .eC ih λj=>?_
  have:p∣c*(v j-w j):=Fb (e j)
  rw[pW]at this;rwa[show u j+c*v j-(u j+c*w j)=c*v j-c*w j by lia]
theorem Sp.trans(h:∀r,R r→Sp p R' r)(hv:Sp p R v):Sp p R' v:=by
 induction hv with
 |zero=>exact .zero
 |add c _ hr ih=>exact ih.plus c (h _ hr)
 |eC _ e ih=>exact .eC ih e
end
noncomputable def fn(r:List Int):Fn:=λj=>r.getD j 0
def RS(L:LL):Fn→Prop:=λf=>∃r∈L,f=fn r
def Rw(p:Int)(n:Nat)(r:List Int):Prop:=r.length=n∧∀x∈r,0≤x∧x<p
def bw(p:Int)(n:Nat)(L:LL):Prop:=∀r∈L,Rw p n r
theorem Rw.at{r:List Int}(hp:0<p)(h:Rw p n r)(j:Nat):0≤r.getD j 0∧r.getD j 0<p:=by
 rw[cW (i:=j)];by_cases hj:j<r.length
 ·rw[cg hj];exact h.2 _ (nP hj)
 ·rw[lI (by lia)];exact⟨Int.le_refl 0,hp⟩
theorem Rw.out{r:List Int}(h:Rw p n r)(hj:n≤j):r.getD j 0=0:=by
 rw[cW,lI (by rw[h.1];exact hj)];rfl
theorem NU{a b:Int}(h:p∣a-b)(a0:0≤a)(a1:a<p)(b0:0≤b)(b1:b<p):a=b:=by
 obtain⟨c,hc⟩:=h
 have:c=0:=by
  rcases Int.lt_trichotomy c 0 with h|h|h
  ·have:=LN (show c≤-1 by lia) (show 0≤p by lia)
   lia
  ·exact h
  ·have:=LN (show 1≤c by lia) (show 0≤p by lia)
   lia
 rw[this]at hc;lia
theorem Rw.ext{r s:List Int}(hp:0<p)(hr:Rw p n r)(hs:Rw p n s)(h:∀j,p∣r.getD j 0-s.getD j 0):r=s:=by
 apply List.ext_getElem (by rw[hr.1,hs.1]);intro i h1 h2
 have:=NU (h i) (hr.at hp i).1 (hr.at hp i).2 (hs.at hp i).1 (hs.at hp i).2
 simpa[cW,h1,h2]using this
theorem yz{r:List Int}(f:Int)(hr:r.length=n)(ho:o.length=n)(j:Nat):(fN p r f o).getD j 0=if j<n then(r.getD j 0+f*o.getD j 0)%p else 0:=by
 by_cases hj:j<n
 ·rw[af hj];have h1:j<r.length:=by lia
  have h2:j<o.length:=by lia
  have h3:j<(fN p r f o).length:=by simp[fN];lia
  rw[cW,cg h3,cW,cg h1,cW,cg h2];simp[fN]
 ·rw[ag hj,cW,lI (by simp[fN];lia)];rfl
theorem yB{r:List Int}(f:Int)(hp:0<p)(hr:r.length=n)(ho:o.length=n):Rw p n (fN p r f o):=by
 refine⟨by simp[fN];lia,λx hx=>?_⟩;obtain⟨i,hi,rfl⟩:=mz.mp hx;simp only[fN,List.getElem_zipWith];exact⟨jr _ (show p≠0 by lia),js _ hp⟩
theorem NV{r:List Int}(f:Int)(hr:r.length=n)(ho:o.length=n):gg p (λj=>fn r j+f*fn o j) (fn (fN p r f o)):=λj=>by
 show p∣r.getD j 0+f*o.getD j 0-(fN p r f o).getD j 0;rw[yz f hr ho];by_cases hj:j<n
 ·rw[af hj]
  have:=Int.dvd_neg.mpr (lW p (r.getD j 0+f*o.getD j 0))
  rwa[show -((r.getD j 0+f*o.getD j 0)%p-(r.getD j 0+f*o.getD j 0))=r.getD j 0+f*o.getD j 0-(r.getD j 0+f*o.getD j 0)%p by lia]at this
 ·rw[ag hj];have e1:r.getD j 0=0:=by rw[cW,lI (by lia)];rfl
  have e2:o.getD j 0=0:=by rw[cW,lI (by lia)];rfl
  rw[e1,e2];exact⟨0,by simp⟩
noncomputable def dW(p:Int)(lead:List Int)(place:Nat)(row:List Int):List Int:=if row.getD place 0≠0 then fN p row (-(row.getD place 0)) lead else row
section
variable{p:Int}{n place:Nat}{lead row:List Int}
theorem NW(hp:0<p)(hl:Rw p n lead)(hr:Rw p n row):Rw p n (dW p lead place row):=by
 unfold dW;split
 ·exact yB _ hp hr.1 hl.1
 ·exact hr
theorem NX(hl:Rw p n lead)(hr:Rw p n row):gg p (λj=>fn row j + -(row.getD place 0)*fn lead j) (fn (dW p lead place row)):=by
 unfold dW;split
 ·exact NV _ hr.1 hl.1
 ·rename_i h
  have h0:row.getD place 0=0:=by simpa using h
  rw[h0];intro j;exact⟨0,by simp⟩
theorem BX(hl:Rw p n lead)(hr:Rw p n row)(hj:lead.getD j 0=0)(hp:0<p):(dW p lead place row).getD j 0=row.getD j 0:=by
 unfold dW;split
 ·rw[yz _ hr.1 hl.1,hj,Int.mul_zero,pX];by_cases h:j<n
  ·rw[af h];exact Int.emod_eq_of_lt (hr.at hp j).1 (hr.at hp j).2
  ·rw[ag h,hr.out (by lia)]
 ·rfl
theorem NY(hl:Rw p n lead)(hr:Rw p n row)(h1:lead.getD place 0=1):(dW p lead place row).getD place 0=0:=by
 unfold dW;split
 ·rw[yz _ hr.1 hl.1,h1];split
  ·rw[Int.mul_one,show row.getD place 0 + -(row.getD place 0)=0 by lia];exact Int.zero_emod p
  ·rfl
 ·rename_i h
  simpa using h
end
noncomputable def dS(p:Int)(n:Nat)(h:List Int)(place:Nat):List Int:=j4 p [(h,dC p (h.getD place 0))] (List.replicate n 0)
noncomputable def ua(p:Int)(n:Nat)(st:LL×LL)(place:Nat):LL×LL:=
 match st.2.filter λr=>r.getD place 0≠0 with
 | []=>st
 |h::_=>(st.1.map (dW p (dS p n h place) place)++[dS p n h place],st.2.map (dW p (dS p n h place) place))
noncomputable def iu(p:Int)(n:Nat)(L:LL):Nat→LL×LL
 |0=>([],L)
 |k+1=>ua p n (iu p n L k) k
noncomputable def qV(L:LL):Nat:=(L.head?.map List.length).getD 0
noncomputable def cz(p:Int)(L:LL):LL:=(iu p (qV L) L (qV L)).1
structure gO(n k:Nat)(D:LL)(ls:List Nat):Prop where
 len:ls.length=D.length
 up:ls.Pairwise (· < ·)
 lt:∀l∈ls,l<k
 one:∀(i:Nat)(r:List Int)(l:Nat),D[i]?=some r→ls[i]?=some l→r.getD l 0=1∧∀j,j<l→r.getD j 0=0
 alone:∀(i i':Nat)(r:List Int)(l:Nat),i≠i'→D[i']?=some r→ls[i]?=some l→r.getD l 0=0
theorem yC(hh:Rw p n h)(j:Nat):(dS p n h place).getD j 0=if j<n then h.getD j 0*dC p (h.getD place 0)%p else 0:=by
 unfold dS;rw[NT _ (λq hq=>by rw[cR.mp hq];exact hh.1)];by_cases hj:j<n
 ·rw[af hj];simp[cW,hj,tZ]
 ·rw[ag hj];simp[cW,hj]
theorem yD(hp:0<p)(hh:Rw p n h):Rw p n (dS p n h place):=by
 unfold dS;rw[NT _ (λq hq=>by rw[cR.mp hq];exact hh.1)];refine⟨by simp,λx hx=>?_⟩;obtain⟨j,_,rfl⟩:=cY.mp hx;exact⟨jr _ (show p≠0 by lia),js _ hp⟩
theorem NZ(hh:Rw p n h):gg p (λj=>dC p (h.getD place 0)*fn h j) (fn (dS p n h place)):=λj=>by
 show p∣dC p (h.getD place 0)*h.getD j 0-(dS p n h place).getD j 0;rw[yC hh,rM];by_cases hj:j<n
 ·rw[af hj]
  have:=Int.dvd_neg.mpr (lW p (h.getD j 0*dC p (h.getD place 0)))
  rwa[show -(h.getD j 0*dC p (h.getD place 0)%p-h.getD j 0*dC p (h.getD place 0))=h.getD j 0*dC p (h.getD place 0)-h.getD j 0*dC p (h.getD place 0)%p by lia]at this
 ·rw[ag hj,hh.out (by lia)];exact⟨0,by simp⟩
structure iZ(p:Int)(n:Nat)(L:LL)(k:Nat)(st:LL×LL):Prop where
 d:bw p n st.1
 r:bw p n st.2
 z:∀r∈st.2,∀j,j<k→r.getD j 0=0
 ic:∃ls,gO n k st.1 ls
 sub:∀r∈st.1++st.2,Sp p (RS L) (fn r)
 sup:∀r∈L,Sp p (RS (st.1++st.2)) (fn r)
theorem N0{k:Nat}{st:LL×LL}(hp:p∈cb)(hk:k+1≤n)(I:iZ p n L k st):iZ p n L (k+1) (ua p n st k):=by
  have p0:0<p:=by have:=eI p hp;lia
  obtain⟨D,T⟩:=st;unfold ua;dsimp only;cases hf:T.filter λr=>r.getD k 0≠0 with
  |nil=>
   dsimp only;obtain⟨ls,E⟩:=I.ic;refine⟨I.d,I.r,λr hr j hj=>?_,⟨ls,E.len,E.up,λl hl=>Nat.lt_succ_of_lt (E.lt l hl),E.one,E.alone⟩,I.sub,I.sup⟩;by_cases BY:j<k
   ·exact I.z r hr j BY
   ·have ej:j=k:=by lia
    subst ej;by_cases h0:r.getD j 0=0
    ·exact h0
    ·have:r∈T.filter λr=>r.getD j 0≠0:=pS.mpr ⟨hr,by simpa using h0⟩
     rw[hf]at this;cases this
  |cons h du=>
   dsimp only;have hm:h∈T.filter λr=>r.getD k 0≠0:=by rw[hf];exact dN
   obtain⟨hT,G8⟩:=pS.mp hm;have adX:h.getD k 0≠0:=by simpa using G8
   have hh:=I.r h hT;have j5:Rw p n (dS p n h k):=yD p0 hh;have hb:=hh.at p0 k;obtain⟨t1,t2,t3⟩:=vI hp (show 1≤h.getD k 0 by lia) hb.2;have l1:(dS p n h k).getD k 0=1:=by rw[yC hh,af (by lia),rM];exact t3
   have l0:∀j,j<k→(dS p n h k).getD j 0=0:=λj hj=>by
    rw[yC hh,I.z h hT j hj,Int.zero_mul];split
    ·exact Int.zero_emod p
    ·rfl
   have N1:∀{Q:Fn→Prop},Sp p Q (fn h)→Sp p Q (fn (dS p n h k)):=λq=>.eC (((Sp.zero).plus (dC p (h.getD k 0)) q).of_eq λj=>by rw[kl]) (NZ hh);have YR:∀{Q:Fn→Prop},Sp p Q (fn (dS p n h k))→Sp p Q (fn h):=λ{Q} q=>by
    refine .eC (((Sp.zero).plus (h.getD k 0) q)) λj=>?_;rw[kl];show p∣h.getD k 0*(dS p n h k).getD j 0-h.getD j 0;have a:=NZ (place:=k) hh j;have a':p∣h.getD k 0*(dC p (h.getD k 0)*fn h j-fn (dS p n h k) j):=Fb a;rw[pW]at a';have t4:p∣dC p (h.getD k 0)*h.getD k 0-1:=by
     have z:=Int.dvd_neg.mpr (lW p (dC p (h.getD k 0)*h.getD k 0));rw[t3]at z;rwa[show -(1-dC p (h.getD k 0)*h.getD k 0)=dC p (h.getD k 0)*h.getD k 0-1 by lia]at z
    have b:p∣h.getD j 0*(dC p (h.getD k 0)*h.getD k 0-1):=Fb t4;have c:=Int.dvd_sub b a';have e:h.getD j 0*(dC p (h.getD k 0)*h.getD k 0-1)-(h.getD k 0*(dC p (h.getD k 0)*fn h j)-h.getD k 0*fn (dS p n h k) j)=h.getD k 0*(dS p n h k).getD j 0-h.getD j 0:=by
     show h.getD j 0*(dC p (h.getD k 0)*h.getD k 0-1)-(h.getD k 0*(dC p (h.getD k 0)*h.getD j 0)-h.getD k 0*(dS p n h k).getD j 0)=_;rw[pW,Int.mul_one,Int.mul_left_comm (h.getD k 0),rM (h.getD j 0) (dC p (h.getD k 0)*h.getD k 0),Int.mul_assoc];lia
    rwa[e]at c
   generalize dS p n h k=lead at j5 l1 l0 N1 YR ⊢;obtain⟨ls,E⟩:=I.ic;have BZ:ls.length=D.length:=E.len;have hD:∀r∈D,Rw p n r:=I.d;have yE:∀r∈T,Rw p n r:=I.r;have spT:Sp p (RS L) (fn h):=I.sub h (gY _ hT);have Hi:=N1 spT;have jf:∀{Q:Fn→Prop}{r:List Int},Rw p n r→Sp p Q (fn r)→Sp p Q (fn lead)→Sp p Q (fn (dW p lead k r)):=λhr a b=>.eC (a.plus _ b) (NX j5 hr);have N2:∀{Q:Fn→Prop}{r:List Int},Rw p n r→Sp p Q (fn (dW p lead k r))→Sp p Q (fn lead)→Sp p Q (fn r):=λ{Q r} hr a b=>by
    refine .eC (a.plus (r.getD k 0) b) λj=>?_;have q:=(NX (place:=k) j5 hr j);have q':=Int.dvd_neg.mpr q;rwa[show -(fn r j + -(r.getD k 0)*fn lead j-fn (dW p lead k r) j)=fn (dW p lead k r) j+r.getD k 0*fn lead j-fn r j by rw[Int.neg_mul];lia]at q'
   refine⟨λr hr=>?_,λr hr=>?_,λr hr j hj=>?_,⟨ls++[k],?_,?_,?_,?_,?_⟩,λr hr=>?_,λr hr=>?_⟩
   ·rcases(c9.mp hr)with(hr|hr)
    ·obtain⟨r0,h0,rfl⟩:=cY.mp hr;exact NW p0 j5 (hD r0 h0)
    ·rw[cR.mp hr];exact j5
   ·obtain⟨r0,h0,rfl⟩:=cY.mp hr;exact NW p0 j5 (yE r0 h0)
   ·obtain⟨r0,h0,rfl⟩:=cY.mp hr;by_cases BY:j<k
    ·rw[BX j5 (yE r0 h0) (l0 j BY) p0];exact I.z r0 h0 j BY
    ·have ej:j=k:=by lia
     subst ej;exact NY j5 (yE r0 h0) l1
   ·simp[E.len]
   ·refine List.pairwise_append.mpr ⟨E.up,by simp,λa ha b hb=>?_⟩;rw[cR.mp hb];exact E.lt a ha
   ·intro l hl;rcases(c9.mp hl)with(hl|hl)
    ·exact Nat.lt_succ_of_lt (E.lt l hl)
    ·rw[cR.mp hl];exact Nat.lt_succ_self k
   ·intro i r l hr hl;by_cases hi:i<D.length
    ·rw[gy (by simpa using hi),eE,cg hi]at hr;rw[gy (by rw[BZ];exact hi)]at hl;cases hr;have B0:l<k:=E.lt l (da hl);obtain⟨o1,o2⟩:=E.one i _ l (cg hi) hl;have rD:=hD _ (nP hi);refine⟨by rw[BX j5 rD (l0 l B0) p0];exact o1,λj hj=>?_⟩;rw[BX j5 rD (l0 j (by lia)) p0];exact o2 j hj
    ·rw[iC (by simpa using hi),ba]at hr;rw[iC (by lia),BZ]at hl;have e0:i-D.length=0:=by
      have:=(dz.mp hr).1
      simp at this;lia
     rw[e0]at hr hl;simp at hr hl;subst hr hl;exact⟨l1,l0⟩
   ·intro i i' r l cM hr hl;by_cases hi:i<ls.length
    ·rw[gy hi]at hl;have B0:l<k:=E.lt l (da hl);by_cases jg:i'<D.length
     ·rw[gy (by simpa using jg),eE,cg jg]at hr;cases hr;rw[BX j5 (hD _ (nP jg)) (l0 l B0) p0];exact E.alone i i' _ l cM (cg jg) hl
     ·rw[iC (by simpa using jg),ba]at hr;have e0:i' - D.length=0:=by
       have:=(dz.mp hr).1
       simp at this;lia
      rw[e0]at hr;simp at hr;subst hr;exact l0 l B0
    ·rw[iC (by lia)]at hl;have e0:i-ls.length=0:=by
      have:=(dz.mp hl).1
      simp at this;lia
     rw[e0]at hl;simp at hl;subst hl;by_cases jg:i'<D.length
     ·rw[gy (by simpa using jg),eE,cg jg]at hr;cases hr;exact NY j5 (hD _ (nP jg)) l1
     ·rw[iC (by simpa using jg),ba]at hr;have e1:i' - D.length=0:=by
       have:=(dz.mp hr).1
       simp at this;lia
      lia
   ·rcases(c9.mp hr)with(hr|hr)
    ·rcases(c9.mp hr)with(hr|hr)
     ·obtain⟨r0,h0,rfl⟩:=cY.mp hr;exact jf (hD r0 h0) (I.sub r0 (lG _ h0)) Hi
     ·rw[cR.mp hr];exact Hi
    ·obtain⟨r0,h0,rfl⟩:=cY.mp hr;exact jf (yE r0 h0) (I.sub r0 (gY _ h0)) Hi
   ·refine Sp.trans (λf hf=>?_) (I.sup r hr);obtain⟨r0,h0,rfl⟩:=hf;have vJ:Sp p (RS (D.map (dW p lead k)++[lead]++T.map (dW p lead k))) (fn lead):=.mem ⟨lead,by simp,rfl⟩;rcases(c9.mp h0)with(h0|h0)
    ·exact N2 (hD r0 h0) (.mem ⟨_,by simp;exact .inl ⟨r0,h0,rfl⟩,rfl⟩) vJ
    ·exact N2 (yE r0 h0) (.mem ⟨_,by simp;exact .inr (.inr ⟨r0,h0,rfl⟩),rfl⟩) vJ
theorem Hj{p:Int}{n:Nat}{L:LL}(hp:p∈cb)(hL:bw p n L):∀k,k≤n→iZ p n L k (iu p n L k)
 |0,_=>⟨λr hr=>absurd hr (by simp[iu]),by simpa[iu]using hL,λr _ j hj=>absurd hj (by lia),⟨[],by simp[iu],.nil,by simp,by simp[iu],by simp⟩,
   λr hr=>.mem ⟨r,by simpa[iu]using hr,rfl⟩,λr hr=>.mem ⟨r,by simpa[iu]using hr,rfl⟩⟩
 |k+1,hk=>N0 hp hk (Hj hp hL k (by lia))
noncomputable def Sg(f:Nat→Int):Nat→Int
 |0=>0
 |n+1=>Sg f n+f n
theorem vK(h:∀i,i<n→f i=0):Sg f n=0:=by
 induction n with
 |zero=>rfl
 |succ n ih=>rw[Sg,ih λi hi=>h i (by lia),h n (by lia)];rfl
theorem Hk(f g:Nat→Int)(n:Nat):Sg (λi=>f i+g i) n=Sg f n+Sg g n:=by
 induction n with
 |zero=>rfl
 |succ n ih=>rw[Sg,ih,Sg,Sg];lia
theorem yF(h:∀i,i<n→p∣f i):p∣Sg f n:=by
 induction n with
 |zero=>exact⟨0,by simp[Sg]⟩
 |succ n ih=>rw[Sg];exact pV (ih λi hi=>h i (by lia)) (h n (by lia))
theorem yG{l:Nat}(hl:l<n):Sg f n=f l+Sg (λi=>if i=l then 0 else f i) n:=by
 induction n with
 |zero=>lia
 |succ n ih=>
  by_cases h:l=n
  ·subst h;rw[Sg,Sg,af rfl];have e:Sg (λi=>if i=l then 0 else f i) l=Sg f l:=by
    have:∀m,m≤l→Sg (λi=>if i=l then 0 else f i) m=Sg f m:=by
     intro m;induction m with
     |zero=>intro _;rfl
     |succ m ih=>intro hm;rw[Sg,Sg,ih (by lia),ag (by lia)]
    exact this l (bX l)
   rw[e];lia
  ·rw[Sg,Sg,ih (by lia),ag (λz=>h z.symm)];lia
def ES(n:Nat)(e:Nat→Option (List Int)):Fn→Prop:=λf=>∃l r,l<n∧e l=some r∧f=fn r
noncomputable def dt(e:Nat→Option (List Int))(l j:Nat):Int:=match e l with|some r=>r.getD j 0|none=>0
theorem ES.coeff{e:Nat→Option (List Int)}(h:Sp p (ES n e) v):∃c:Nat→Int,gg p (λj=>Sg (λl=>c l*dt e l j) n) v:=by
 induction h with
 |zero=>exact⟨λ_=>0,λj=>⟨0,by simp[vK]⟩⟩
 | @add v r d _ hr ih=>
  obtain⟨c,hc⟩:=ih;obtain⟨l,row,hl,he,rfl⟩:=hr;refine⟨λi=>c i+if i=l then d else 0,λj=>?_⟩
  have e1:Sg (λi=>(c i+if i=l then d else 0)*dt e i j) n=Sg (λi=>c i*dt e i j) n+d*fn row j:=by
   have e2:(λi=>(c i+if i=l then d else 0)*dt e i j)=λi=>c i*dt e i j+(if i=l then d*fn row j else 0):=by
    funext i
    by_cases hi:i=l
    ·subst hi;rw[af rfl,af rfl,Int.add_mul]
     congr 1
     simp[dt,he,fn]
    ·rw[ag hi,ag hi,pX,pX]
   rw[e2,Hk]
   congr 1
   rw[yG hl,af rfl,vK λi _=>by by_cases hi:i=l<;>simp[hi]]
   lia
  show p∣Sg (λi=>(c i+if i=l then d else 0)*dt e i j) n-(v j+d*fn row j)
  rw[e1,show Sg (λi=>c i*dt e i j) n+d*fn row j-(v j+d*fn row j)=Sg (λi=>c i*dt e i j) n-v j by lia];exact hc j
 |eC _ q ih=>
  obtain⟨c,hc⟩:=ih;exact⟨c,hc.trans q⟩
structure Hl(n:Nat)(e:Nat→Option (List Int)):Prop where
 one:∀l r,e l=some r→l<n→r.getD l 0=1∧∀j,j<l→r.getD j 0=0
theorem Hl.zero{p:Int}{n:Nat}{e:Nat→Option (List Int)}{v:Fn}(E:Hl n e)(h:Sp p (ES n e) v)(hz:∀l r,l<n→e l=some r→p∣v l):∀j,p∣v j:=by
 obtain⟨c,hc⟩:=ES.coeff h;have all:∀m,m≤n→∀l,l<m→∀j,p∣c l*dt e l j:=by
  intro m;induction m with
  |zero=>intro _ l hl;lia
  |succ m ih=>
   intro hm l hl j;by_cases qW:l<m
   ·exact ih (by lia) l qW j
   ·have el:l=m:=by lia
    subst el;cases hr:e l with
    |none=>exact⟨0,by simp[dt,hr]⟩
    |some r=>
     obtain⟨o1,o2⟩:=E.one l r hr (by lia);have s:=hc l;dsimp only at s;rw[yG (show l<n by lia)]at s;have du:p∣Sg (λi=>if i=l then 0 else c i*dt e i l) n:=yF λi hi=>by
      by_cases h1:i=l
      ·rw[af h1];exact⟨0,by simp⟩
      ·rw[ag h1];by_cases h2:i<l
       ·exact ih (by lia) i h2 l
       ·cases vL:e i with
        |none=>exact⟨0,by simp[dt,vL]⟩
        |some r2=>
         have:=(E.one i r2 vL hi).2 l (by lia)
         refine⟨0,?_⟩;simp only[dt,vL,this,Int.mul_zero]
     have e1:dt e l l=1:=by simp only[dt,hr];exact o1
     rw[e1,Int.mul_one]at s;have k:=pV (Int.dvd_sub s du) (hz l r (by lia) hr);rw[show c l+Sg (λi=>if i=l then 0 else c i*dt e i l) n-v l-Sg (λi=>if i=l then 0 else c i*dt e i l) n+v l=c l by lia]at k
     exact Int.dvd_mul_of_dvd_left k
 intro j;have s:=hc j;dsimp only at s;have t:p∣Sg (λl=>c l*dt e l j) n:=yF λi hi=>all n (bX n) i hi j;have k:=Int.dvd_sub t s;rwa[show Sg (λl=>c l*dt e l j) n-(Sg (λl=>c l*dt e l j) n-v j)=v j by lia]at k
theorem N3{r:List Int}(h:Rw p n r)(hz:∀j,j<n→r.getD j 0=0)(j:Nat):fn r j=0:=by
 by_cases hj:j<n
 ·exact hz j hj
 ·exact h.out (by lia)
noncomputable def eJ:LL→List Nat→Nat→Option (List Int)
 |r::D,l::ls,i=>if i=l then some r else eJ D ls i
 |_,_,_=>none
theorem sg:∀{D:LL}{ls:List Nat}{l:Nat}{r:List Int},eJ D ls l=some r→∃(i:Nat),D[i]?=some r∧ls[i]?=some l
 | [],_,_,_,h=>by simp[eJ]at h
 |_::_,[],_,_,h=>by simp[eJ]at h
 |q::D,m::ls,l,r,h=>by
  rw[eJ]at h;by_cases e:l=m
  ·rw[af e]at h;cases h;exact⟨0,rfl,by rw[e];rfl⟩
  ·rw[ag e]at h;obtain⟨i,h1,h2⟩:=sg h;exact⟨i+1,by simpa using h1,by simpa using h2⟩
theorem B1:∀{D:LL}{ls:List Nat}{i l:Nat}{r:List Int},ls.Pairwise (· < ·)→D[i]?=some r→ls[i]?=some l→eJ D ls l=some r
 | [],_,_,_,_,_,h,_=>by simp at h
 |_::_,[],_,_,_,_,_,h=>by simp at h
 |q::D,m::ls,0,l,r,_,h1,h2=>by simp at h1 h2;subst h1 h2;simp[eJ]
 |q::D,m::ls,i+1,l,r,hp,h1,h2=>by
  have hl:ls[i]?=some l:=by simpa using h2
  have:m<l:=(AO.mp hp).1 l (da hl)
  rw[eJ,ag (by lia)];exact B1 (AO.mp hp).2 (by simpa using h1) hl
theorem gO.lead{k:Nat}(E:gO n k D ls):Hl k (eJ D ls):=⟨λl r h _=>by
 obtain⟨i,h1,h2⟩:=sg h;exact E.one i r l h1 h2⟩
theorem gO.sp{k:Nat}(E:gO n k D ls)(h:Sp p (RS D) v):Sp p (ES k (eJ D ls)) v:=h.trans λf hf=>by
 obtain⟨r,hr,rfl⟩:=hf;obtain⟨i,hi,rfl⟩:=mz.mp hr;have hl:i<ls.length:=by rw[E.len];exact hi
 exact .mem ⟨ls[i],D[i],E.lt _ (nP hl),B1 E.up (cg hi) (cg hl),rfl⟩
structure Hm(p:Int)(n:Nat)(L D:LL):Prop where
 rws:bw p n D
 ic:∃ls,gO n n D ls
 sub:∀r∈D,Sp p (RS L) (fn r)
 sup:∀r∈L,Sp p (RS D) (fn r)
theorem B2(h:bw p n L)(cM:L≠[]):qV L=n:=by
 cases L with
 |nil=>exact absurd rfl cM
 |cons r L=>exact(h r dN).1
theorem gP(hp:p∈cb)(hL:bw p n L):Hm p n L (cz p L):=by
 by_cases cM:L=[]
 ·subst cM;exact⟨λr hr=>absurd hr (by simp[cz,qV,iu]),⟨[],by simp[cz,qV,iu],.nil,by simp,by simp,by simp⟩,λr hr=>absurd hr (by simp[cz,qV,iu]),λr hr=>absurd hr (by simp)⟩
 ·unfold cz;rw[B2 hL cM];have I:=Hj hp hL n (bX n);generalize iu p n L n=st at I;refine⟨I.d,I.ic,λr hr=>I.sub r (lG _ hr),λr hr=>(I.sup r hr).trans λf hf=>?_⟩;obtain⟨r0,h0,rfl⟩:=hf;rcases(c9.mp h0)with(h0|h0)
  ·exact .mem ⟨r0,h0,rfl⟩
  ·exact(Sp.zero).of_eq λj=>(N3 (I.r r0 h0) (I.z r0 h0) j).symm
theorem gO.same(E:gO n n D ls)(hu:Sp p (RS D) u)(hv:Sp p (RS D) v)(h:∀l∈ls,p∣u l-v l):gg p u v:=λj=>by
 have hd:Sp p (RS D) (λj=>u j+(-1)*v j):=hu.plus (-1) hv
 have:=E.lead.zero (E.sp hd) (λl r _ he=>by
  obtain⟨i,_,h2⟩:=sg he;have q:=h l (da h2);show p∣u l + -1*v l;rwa[show u l + -1*v l=u l-v l by lia]) j
 rwa[show u j + -1*v j=u j-v j by lia]at this
theorem Hn(hp:p∈cb):¬p∣1:=λ⟨c,hc⟩=>by
 have:=eI p hp
 rcases Int.lt_trichotomy c 0 with h|h|h
 ·have:=LN (show c≤-1 by lia) (show 0≤p by lia)
  lia
 ·rw[h]at hc;lia
 ·have:=LN (show 1≤c by lia) (show 0≤p by lia)
  lia
theorem gO.starts(hp:p∈cb)(E:gO n n D ls){l:Nat}(hv:Sp p (RS D) v)(h1:v l=1)(h0:∀j,j<l→v j=0):l∈ls:=by
 by_cases hm:l∈ls
 ·exact hm
 ·exfalso;obtain⟨c,hc⟩:=ES.coeff (E.sp hv);have all:∀m,m≤l→∀i,i<m→∀j,p∣c i*dt (eJ D ls) i j:=by
   intro m;induction m with
   |zero=>intro _ i hi;lia
   |succ m ih=>
    intro hml i hi j;by_cases YT:i<m
    ·exact ih (by lia) i YT j
    ·have ei:i=m:=by lia
     subst ei;cases hr:eJ D ls i with
     |none=>exact⟨0,by simp[dt,hr]⟩
     |some r=>
      obtain⟨z,z1,z2⟩:=sg hr;have jD:i<n:=E.lt i (da z2);have s:=hc i;dsimp only at s;rw[yG jD,h0 i (by lia)]at s;have du:p∣Sg (λq=>if q=i then 0 else c q*dt (eJ D ls) q i) n:=yF λq hq=>by
       by_cases q1:q=i
       ·rw[af q1];exact⟨0,by simp⟩
       ·rw[ag q1];by_cases q2:q<i
        ·exact ih (by lia) q q2 i
        ·cases ia:eJ D ls q with
         |none=>exact⟨0,by simp[dt,ia]⟩
         |some r2=>
          have:=(E.lead.one q r2 ia hq).2 i (by lia)
          exact⟨0,by simp only[dt,ia,this,Int.mul_zero]⟩
      have e1:dt (eJ D ls) i i=1:=by simp only[dt,hr];exact(E.lead.one i r hr jD).1
      rw[e1,Int.mul_one]at s;have k:=Int.dvd_sub s du;rw[show c i+Sg (λq=>if q=i then 0 else c q*dt (eJ D ls) q i) n-0-Sg (λq=>if q=i then 0 else c q*dt (eJ D ls) q i) n=c i by lia]at k
      exact Int.dvd_mul_of_dvd_left k
  have s:=hc l;dsimp only at s;have t:p∣Sg (λq=>c q*dt (eJ D ls) q l) n:=yF λq hq=>by
   by_cases q2:q<l
   ·exact all l (bX l) q q2 l
   ·cases ia:eJ D ls q with
    |none=>exact⟨0,by simp[dt,ia]⟩
    |some r2=>
     obtain⟨z,z1,z2⟩:=sg ia
     have:q≠l:=λe=>hm (e▸da z2)
     have:=(E.lead.one q r2 ia hq).2 l (by lia)
     exact⟨0,by simp only[dt,ia,this,Int.mul_zero]⟩
  have k:=Int.dvd_sub t s;rw[show Sg (λq=>c q*dt (eJ D ls) q l) n-(Sg (λq=>c q*dt (eJ D ls) q l) n-v l)=v l by lia,h1]at k;exact Hn hp k
theorem Ho:∀{a b:List Nat},a.Pairwise (· < ·)→b.Pairwise (· < ·)→(∀x,x∈a↔x∈b)→a=b
 | [],[],_,_,_=>rfl
 | [],y::b,_,_,h=>absurd ((h y).mpr dN) (by simp)
 |x::a,[],_,_,h=>absurd ((h x).mp dN) (by simp)
 |x::a,y::b,ha,hb,h=>by
  obtain⟨a1,a2⟩:=AO.mp ha;obtain⟨b1,b2⟩:=AO.mp hb;have YU:x=y:=by
   rcases dP.mp ((h x).mp dN)with e|e
   ·exact e
   ·rcases dP.mp ((h y).mpr dN)with e2|e2
    ·exact e2.symm
    ·have:=b1 x e
     have:=a1 y e2
     lia
  subst YU
  congr 1
  refine Ho a2 b2 λz=>⟨λhz=>?_,λhz=>?_⟩
  ·rcases dP.mp ((h z).mp (gp _ hz))with e|e
   ·have:=a1 z hz;lia
   ·exact e
  ·rcases dP.mp ((h z).mpr (gp _ hz))with e|e
   ·have:=b1 z hz;lia
   ·exact e
theorem gO.unique{D':LL}{qX:List Nat}(hp:p∈cb)(E:gO n n D ls)(E':gO n n D' qX)(hD:bw p n D)(YV:bw p n D')(s1:∀r∈D,Sp p (RS D') (fn r))(s2:∀r∈D',Sp p (RS D) (fn r)):D=D':=by
 have p0:0<p:=by have:=eI p hp;lia
 have N4:∀{D D':LL}{ls qX:List Nat},gO n n D ls→gO n n D' qX→(∀r∈D,Sp p (RS D') (fn r))→∀x,x∈ls→x∈qX:=λ{D D' ls qX} E E' s x hx=>by
  obtain⟨i,hi,rfl⟩:=mz.mp hx;have N5:i<D.length:=by rw[← E.len];exact hi
  obtain⟨o1,o2⟩:=E.one i D[i] ls[i] (cg N5) (cg hi);exact E'.starts hp (s _ (nP N5)) o1 o2
 have el:ls=qX:=Ho E.up E'.up λx=>⟨N4 E E' s1 x,N4 E' E s2 x⟩;subst el;have BZ:D.length=D'.length:=by rw[← E.len,← E'.len]
 apply List.ext_getElem BZ;intro i h1 h2;have hi:i<ls.length:=by rw[E.len];exact h1
 refine(hD _ (nP h1)).ext p0 (YV _ (nP h2)) ?_;refine E'.same (s1 _ (nP h1)) (.mem ⟨_,nP h2,rfl⟩) λl hl=>?_;obtain⟨k,hk,rfl⟩:=mz.mp hl;by_cases Hq:k=i
 ·subst Hq;have a:=(E.one k D[k] ls[k] (cg h1) (cg hk)).1;have b:=(E'.one k D'[k] ls[k] (cg h2) (cg hk)).1;show p∣(D[k]).getD ls[k] 0-(D'[k]).getD ls[k] 0;rw[a,b];exact⟨0,by lia⟩
 ·have a:=E.alone k i D[i] ls[k] Hq (cg h1) (cg hk);have b:=E'.alone k i D'[i] ls[k] Hq (cg h2) (cg hk);show p∣(D[i]).getD ls[k] 0-(D'[i]).getD ls[k] 0;rw[a,b];exact⟨0,by lia⟩
theorem YW{L':LL}(hp:p∈cb)(hL:bw p n L)(ub:bw p n L')(s1:∀r∈L,Sp p (RS L') (fn r))(s2:∀r∈L',Sp p (RS L) (fn r)):cz p L=cz p L':=by
 have A:=gP hp hL;have B:=gP hp ub;obtain⟨ls,E⟩:=A.ic;obtain⟨qX,E'⟩:=B.ic;have t:∀{P Q:LL},(∀r∈P,Sp p (RS Q) (fn r))→∀{v:Fn},Sp p (RS P) v→Sp p (RS Q) v:=λh v hv=>hv.trans λf hf=>by
  obtain⟨r,hr,rfl⟩:=hf;exact h r hr
 exact E.unique hp E' A.rws B.rws (λr hr=>t B.sup (t s1 (A.sub r hr))) (λr hr=>t A.sup (t s2 (B.sub r hr)))
theorem N6{f:Int→Int}{r:List Int}(hr:r.length=n)(h0:j<n):(r.map f).getD j 0=f (r.getD j 0):=by
 have:j<r.length:=by lia
 rw[cW,eE,cg this,cW,cg this];rfl
noncomputable def qd(r:List Int):List Nat:=(List.range r.length).filter λj=>r.getD j 0≠0
theorem YX{r:List Int}(h:qd r=[])(j:Nat)(hj:j<r.length):r.getD j 0=0:=by
 have:=List.filter_eq_nil_iff.mp h j (oJ.mpr hj)
 simpa using this
theorem YY{r:List Int}{l:Nat}{t:List Nat}(h:qd r=l::t):l<r.length∧r.getD l 0≠0∧∀j,j<l→r.getD j 0=0:=by
 have hm:l∈qd r:=by rw[h];exact dN
 have h1:=pS.mp hm;have hl:=oJ.mp h1.1;refine⟨hl,by simpa using h1.2,λj hj=>?_⟩;apply Fc;intro cM;have vM:j∈qd r:=pS.mpr ⟨oJ.mpr (by lia),by simpa using cM⟩;rw[h]at vM;have hs:(qd r).Pairwise (· < ·):=List.Pairwise.filter _ List.pairwise_lt_range;rw[h]at hs;cases vM with
 |head=>lia
 |tail _ vM=>have:=(AO.mp hs).1 j vM;lia
theorem N7{r:List Int}{l:Nat}(hr:r.length=n)(hl:l<n)(h1:r.getD l 0=1)(h0:∀j,j<l→r.getD j 0=0):∃t,qd r=l::t:=by
 cases h:qd r with
 |nil=>have:=YX h l (by lia);lia
 |cons m t=>
  obtain⟨a,b,c⟩:=YY h
  have:m=l:=by
   apply Fc;intro cM;by_cases cX:m<l
   ·exact b (h0 m cX)
   ·have:=c l (by lia);lia
  exact⟨t,by rw[this]⟩
noncomputable def dot(f v:Fn)(m:Nat):Int:=Sg (λi=>f i*v i) m
theorem vN{g:Nat→Int}(h:∀i,i<n→f i=g i):Sg f n=Sg g n:=by
 induction n with
 |zero=>rfl
 |succ n ih=>rw[Sg,Sg,ih λi hi=>h i (by lia),h n (by lia)]
theorem YZ(c:Int)(f:Nat→Int)(n:Nat):Sg (λi=>c*f i) n=c*Sg f n:=by
 induction n with
 |zero=>simp[Sg]
 |succ n ih=>rw[Sg,Sg,ih,Int.mul_add]
theorem Y0(f u v:Fn)(c:Int)(m:Nat):dot f (λj=>u j+c*v j) m=dot f u m+c*dot f v m:=by
 unfold dot;rw[← YZ,← Hk];exact vN λi _=>by rw[Int.mul_add,Int.mul_left_comm]
theorem Y1{f:Fn}(h:gg p u v):p∣dot f u m-dot f v m:=by
 have e:dot f u m-dot f v m=Sg (λi=>f i*(u i-v i)) m:=by
  have:dot f u m=Sg (λi=>f i*(u i-v i)) m+dot f v m:=by
   unfold dot;rw[← Hk];exact vN λi _=>by rw[← Int.mul_add];congr 1;lia
  lia
 rw[e];exact yF λi _=>Int.dvd_trans (h i) (Int.dvd_mul_left _ _)
theorem N8{f:Fn}{R:Fn→Prop}(h:∀r,R r→p∣dot f r m)(hv:Sp p R v):p∣dot f v m:=by
 induction hv with
 |zero=>exact⟨0,by unfold dot;rw[vK λi _=>by simp];simp⟩
 |add c _ hr ih=>
  rw[Y0];exact pV ih (Int.dvd_trans (h _ hr) (Int.dvd_mul_left _ _))
 |eC _ e ih=>
  have:=Int.dvd_sub ih (Y1 (f:=f) (m:=m) e)
  rwa[show ∀a b:Int,a-(a-b)=b from λa b=>by lia]at this
noncomputable def yH(f:Fn)(c:Nat):Fn:=λi=>if i=c then -1 else f i
theorem B3(f v:Fn)(c:Nat):dot (yH f c) v (c+1)=dot f v c-v c:=by
 unfold dot;rw[Sg];have e1:yH f c c=-1:=af rfl;rw[e1,vN (g:=λi=>f i*v i) λi hi=>by unfold yH;rw[ag (by lia)]];lia
theorem N9{A:LL}(hp:p∈cb)(R:Hm p (c+1) A D){r:List Int}(hr:r∈D)(h1:r.getD c 0=1)(h0:∀j,j<c→r.getD j 0=0)(f:Fn):¬ ∀a∈A,p∣dot f (fn a) c-fn a c:=λh=>by
 have hd:p∣dot (yH f c) (fn r) (c+1):=N8 (R:=RS A) (λg hg=>by
  obtain⟨a,ha,rfl⟩:=hg;rw[B3];exact h a ha) (R.sub r hr)
 rw[B3]at hd;have z:dot f (fn r) c=0:=vK λi hi=>by
  show f i*r.getD i 0=0;rw[h0 i hi,Int.mul_zero]
 rw[z]at hd
 have:p∣1:=by
  have:=Int.dvd_neg.mpr hd
  rwa[show -(0-fn r c)=1 by show -(0-r.getD c 0)=1;rw[h1];rfl]at this
 exact Hn hp this
theorem Oa{A:LL}(R:Hm p (c+1) A D)(E:gO (c+1) (c+1) D ls)(hl:∀l∈ls,l<c):∀a∈A,p∣dot (λk=>dt (eJ D ls) k c) (fn a) c-fn a c:=by
 have key:∀r∈D,p∣dot (yH (λk=>dt (eJ D ls) k c) c) (fn r) (c+1):=λr hr=>by
  obtain⟨i,hi,rfl⟩:=mz.mp hr;have j6:i<ls.length:=by rw[E.len];exact hi
  have hD:=cg hi;have hL:=cg j6;obtain⟨o1,o2⟩:=E.one i _ _ hD hL;have mZ:=hl _ (nP j6);rw[B3];have e:dot (λk=>dt (eJ D ls) k c) (fn D[i]) c=fn D[i] c:=by
   unfold dot;rw[yG mZ,vK λk hk=>?_]
   ·have q:eJ D ls ls[i]=some D[i]:=B1 E.up hD hL;show dt (eJ D ls) ls[i] c*(D[i]).getD ls[i] 0+0=(D[i]).getD c 0;unfold dt;rw[q];show(D[i]).getD c 0*(D[i]).getD ls[i] 0+0=(D[i]).getD c 0;rw[o1,Int.mul_one,pX]
   ·by_cases Hr:k=ls[i]
    ·rw[af Hr]
    ·rw[ag Hr];cases q:eJ D ls k with
     |none=>
      show dt (eJ D ls) k c*_=0;unfold dt;rw[q,Int.zero_mul]
     |some r'=>
      obtain⟨i',eU,qS⟩:=sg q;have cM:i'≠i:=λz=>by
       subst z;rw[hL]at qS;exact Hr (c7 qS).symm
      have:=E.alone i' i _ k cM hD qS
      show dt (eJ D ls) k c*(D[i]).getD k 0=0;rw[this,Int.mul_zero]
  rw[e];exact⟨0,by lia⟩
 intro a ha
 have:=N8 (R:=RS D) (λg hg=>by obtain⟨r,hr,rfl⟩:=hg;exact key r hr) (R.sup a ha)
 rwa[B3]at this
noncomputable def j7(rs:LL)(r:List Int)(j:Nat):List Int:=rs.map (λq=>q.getD j 0)++[r.getD j 0]
theorem Ob{r:List Int}(p0:0<p)(hR:bw p n rs)(hr:Rw p n r):Rw p (rs.length+1) (j7 rs r j):=by
 refine⟨by simp[j7],λx hx=>?_⟩;refine(c9.mp hx).elim (λh=>?_) λh=>?_
 ·obtain⟨q,hq,rfl⟩:=cY.mp h;exact(hR q hq).at p0 j
 ·rw[cR.mp h];exact hr.at p0 j
theorem B4{r:List Int}:fn (j7 rs r j) rs.length=r.getD j 0:=by
 show(j7 rs r j).getD rs.length 0=_;unfold j7;rw[cW,iC (by simp)];simp
theorem B5{r:List Int}(f:Fn):dot f (fn (j7 rs r j)) rs.length=dot f (fn (rs.map λq=>q.getD j 0)) rs.length:=by
 unfold dot;refine vN λi hi=>?_;show f i*(j7 rs r j).getD i 0=f i*(rs.map λq=>q.getD j 0).getD i 0;unfold j7;rw[cW,gy (by simp;exact hi),← cW]
theorem Hs{fs:List Int}{l k:Nat}{v:Int}(h:l<fs.length):(fs.set l v).getD k 0=if k=l then v else fs.getD k 0:=by
 rw[cW,List.getElem?_set];by_cases e:l=k
 ·subst e;simp[h]
 ·rw[ag e,ag (λz=>e z.symm),cW]
structure FI(p:Int)(c:Nat)(D:LL)(ls:List Nat)(i:Nat)(fs:List Int):Prop where
 rw:Rw p c fs
 lt:∀i' l,i'<i→ls[i']?=some l→l<c
 at_:∀i' l r,i'<i→ls[i']?=some l→D[i']?=some r→fs.getD l 0=r.getD c 0
 off:∀k,(∀i',i'<i→ls[i']?≠some k)→fs.getD k 0=0
theorem FI.start(p0:0<p):FI p c D ls 0 (List.replicate c 0):=
 ⟨⟨by simp,λx hx=>by rw[(tG.mp hx).2];lia⟩,λ_ _ h=>by lia,λ_ _ _ h=>by lia,λk _=>by rw[cW,E9];split<;>rfl⟩
theorem FI.step{i l:Nat}{fs r:List Int}(p0:0<p)(F:FI p c D ls i fs)(up:ls.Pairwise (· < ·))(hr:Rw p m r)(hl:ls[i]?=some l)(hD:D[i]?=some r)(hc:l<c):FI p c D ls (i+1) (fs.set l (r.getD c 0)):=by
 have nc:l<fs.length:=by rw[F.rw.1];exact hc
 have ne:∀i' l',i'<i→ls[i']?=some l'→l'≠l:=λi' l' h1 h2 z=>by
  obtain⟨a,ea⟩:=dz.mp h2;obtain⟨b,eb⟩:=dz.mp hl
  have:=List.pairwise_iff_getElem.mp up i' i a b h1
  lia
 refine⟨⟨by rw[List.length_set];exact F.rw.1,λx hx=>?_⟩,λi' l' h1 h2=>?_,λi' l' r' h1 h2 h3=>?_,λk hk=>?_⟩
 ·rcases List.mem_or_eq_of_mem_set hx with h|rfl
  ·exact F.rw.2 x h
  ·exact hr.at p0 c
 ·by_cases e:i'=i
  ·subst e;rw[hl]at h2;cases h2;exact hc
  ·exact F.lt i' l' (by lia) h2
 ·by_cases e:i'=i
  ·subst e;rw[hl]at h2;rw[hD]at h3;cases h2;cases h3;rw[Hs nc,af rfl]
  ·rw[Hs nc,ag (ne i' l' (by lia) h2)];exact F.at_ i' l' r' (by lia) h2 h3
 ·have:k≠l:=λz=>hk i (by lia) (by rw[hl,z])
  rw[Hs nc,ag this];exact F.off k λi' h=>hk i' (by lia)
theorem FI.done{fs:List Int}(up:ls.Pairwise (· < ·))(len:ls.length=D.length)(F:FI p c D ls D.length fs)(k:Nat):fs.getD k 0=dt (eJ D ls) k c:=by
 unfold dt;cases q:eJ D ls k with
 |some r=>
  obtain⟨i,h1,h2⟩:=sg q;exact F.at_ i k r (dz.mp h1).1 h2 h1
 |none=>
  refine F.off k λi hi h=>?_
  have:=B1 up (cg hi) h
  rw[q]at this;cases this
noncomputable def col(rs:LL)(j:Nat):Fn:=fn (rs.map λq=>q.getD j 0)
theorem Ht{k:Nat}{q:List Int}(h:rs[k]?=some q):col rs j k=q.getD j 0:=by
 show(rs.map λq=>q.getD j 0).getD k 0=_;rw[cW,eE,h];rfl
theorem Oc{p:Int}{rs:LL}(f:Fn):∀m,m≤rs.length→Sp p (RS rs) (λj=>dot f (col rs j) m)
 |0,_=>Sp.zero
 |m+1,h=>by
  have hm:m<rs.length:=h;refine(Sp.add (f m) (Oc f m (by lia)) ⟨rs[m],nP hm,rfl⟩).of_eq λj=>?_;show dot f (col rs j) m+f m*fn rs[m] j=dot f (col rs j) (m+1);unfold dot;rw[Sg,Ht (cg hm)];rfl
noncomputable def Y2(rs:LL)(fs:List Int)(j:Nat):Int:=(List.zipWith (λr f=>r.getD j 0*f) rs fs).sum
noncomputable def lX(p:Int)(rs:LL)(fs:List Int)(n:Nat):List Int:=(List.range n).map λj=>Y2 rs fs j%p
def qY(p:Int):List (Fn×Nat)→Prop
 | []=>True
 |q::F=>¬p∣q.1 q.2∧(∀x∈F,p∣x.1 q.2)∧qY p F
theorem Y3{U:List Fn}(h:Sp p (·∈u::U) v):∃(c:Int)(w:Fn),Sp p (·∈U) w∧gg p (λj=>w j+c*u j) v:=by
 induction h with
 |zero=>exact⟨0,λ_=>0,.zero,λj=>⟨0,by simp⟩⟩
 | @add v r d _ hr ih=>
  obtain⟨c,w,hw,e⟩:=ih;rcases(dP.mp hr)with(rfl|hr)
  ·refine⟨c+d,w,hw,λj=>?_⟩;obtain⟨k,hk⟩:=e j;exact⟨k,by grind⟩
  ·refine⟨c,_,Sp.add d hw hr,λj=>?_⟩;obtain⟨k,hk⟩:=e j;exact⟨k,by grind⟩
 |eC _ e ih=>
  obtain⟨c,w,hw,e2⟩:=ih;exact⟨c,w,hw,e2.trans e⟩
theorem Y4{c:Int}(hp:p∈cb)(h:¬p∣c):∃d,p∣d*c-1:=by
 have p2:=(eI p hp).1;have h0:0≤c%p:=jr _ (by lia);have h1:c%p<p:=js _ (by lia);have h2:c%p≠0:=λz=>h (Int.dvd_of_emod_eq_zero z);obtain⟨_,_,e⟩:=vI hp (show 1≤c%p by lia) h1;refine⟨dC p (c%p),?_⟩;obtain⟨k,hk⟩:=lW p c;obtain⟨k2,uc⟩:=lW p (dC p (c%p)*(c%p));rw[e]at uc;exact⟨-k2-dC p (c%p)*k,by grind⟩
theorem Od{p:Int}(hp:p∈cb){u:Fn}{U:List Fn}:∀F:List (Fn×Nat),qY p F→(∀x∈F,Sp p (·∈u::U) x.1)→
  (∀x∈F,Sp p (·∈U) x.1)∨∃(r0 w0:Fn)(d:Int)(F':List (Fn×Nat)),Sp p (·∈U) w0∧gg p (λj=>w0 j+d*r0 j) u∧F'.length+1=F.length∧qY p F'∧(∀x∈F',Sp p (·∈U) x.1)∧
   ∀j,(∀x∈F,p∣x.1 j)→p∣r0 j∧∀x∈F',p∣x.1 j
 | [],_,_=>.inl λx hx=>(nomatch hx)
 |(r,l)::G,⟨h1,h2,h3⟩,hS=>by
  obtain⟨c,w,hw,e⟩:=Y3 (hS (r,l) dN);rcases Od hp G h3 (λx hx=>hS x (gp _ hx))with hG|⟨r0,w0,d,F',a1,a2,a3,a4,a5,a6⟩
  ·by_cases hc:p∣c
   ·refine .inl λx hx=>?_;rcases(dP.mp hx)with(rfl|hx)
    ·refine .eC hw λj=>?_;obtain⟨k,hk⟩:=e j;obtain⟨k2,uc⟩:=hc;exact⟨k-k2*u j,by grind⟩
    ·exact hG x hx
   ·obtain⟨d,hd⟩:=Y4 hp hc;refine .inr ⟨r,λj=>0 + -d*w j,d,G,Sp.plus (-d) .zero hw,λj=>?_,rfl,h3,hG,λj hj=>⟨hj _ dN,λx hx=>hj x (gp _ hx)⟩⟩;obtain⟨k,hk⟩:=e j;obtain⟨k2,uc⟩:=hd;exact⟨-d*k+k2*u j,by grind⟩
  ·have z0:=a6 l h2;refine .inr ⟨r0,w0,d,(λj=>r j + -(c*d)*r0 j,l)::F',a1,a2,by simp[a3],⟨λz=>h1 ?_,z0.2,a4⟩,λx hx=>?_,λj hj=>?_⟩
   ·obtain⟨k,hk⟩:=z;obtain⟨k2,uc⟩:=z0.1;exact⟨k+c*d*k2,by grind⟩
   ·rcases(dP.mp hx)with(rfl|hx)
    ·refine .eC (hw.plus c a1) λj=>?_;obtain⟨k,hk⟩:=e j;obtain⟨k2,uc⟩:=a2 j;exact⟨k+c*k2,by grind⟩
    ·exact a5 x hx
   ·obtain⟨b1,b2⟩:=a6 j λx hx=>hj x (gp _ hx);refine⟨b1,λx hx=>?_⟩;rcases(dP.mp hx)with(rfl|hx)
    ·obtain⟨k,hk⟩:=hj (r,l) dN;obtain⟨k2,uc⟩:=b1;exact⟨k-c*d*k2,by grind⟩
    ·exact b2 x hx
theorem Y5{R:Fn→Prop}(h0:∀f,¬R f)(h:Sp p R v)(j:Nat):p∣v j:=by
 induction h with
 |zero=>exact⟨0,by simp⟩
 |add c _ hr ih=>exact absurd hr (h0 _)
 |eC _ e ih=>
  obtain⟨k,hk⟩:=ih;obtain⟨k2,uc⟩:=e j;exact⟨k-k2,by grind⟩
theorem B6{p:Int}(hp:p∈cb):∀(U:List Fn)(F:List (Fn×Nat)),qY p F→(∀x∈F,Sp p (·∈U) x.1)→F.length≤U.length
 | [],F,hT,hS=>by
  cases F with
  |nil=>exact bX _
  |cons q F=>exact absurd (Y5 (λf hf=>nomatch hf) (hS q dN) q.2) hT.1
 |u::U,F,hT,hS=>by
  rcases Od hp F hT hS with h|⟨_,_,_,F',_,_,a3,a4,a5,_⟩
  ·exact Nat.le_succ_of_le (B6 hp U F hT h)
  ·have:=B6 hp U F' a4 a5
   simp only[eO];lia
theorem Oe:Sp p (RS L) v↔Sp p (·∈L.map fn) v:=by
 constructor
 ·exact λh=>h.trans λf ⟨r,hr,e⟩=>.mem (e▸AQ hr)
 ·exact λh=>h.trans λf hf=>by
   obtain⟨r,hr,rfl⟩:=cY.mp hf;exact .mem ⟨r,hr,rfl⟩
theorem Of{p:Int}(hp:p∈cb):∀{L:LL}{ls:List Nat},(∀(i:Nat)(r:List Int)(l:Nat),L[i]?=some r→ls[i]?=some l→r.getD l 0=1)→(∀(i j:Nat)(r:List Int)(l:Nat),i<j→L[j]?=some r→ls[i]?=some l→r.getD l 0=0)→qY p ((L.map fn).zip ls)
 | [],_,_,_=>trivial
 |_::_,[],_,_=>trivial
 |r::L,l::ls,h1,h2=>by
  refine⟨λz=>?_,λx hx=>?_,Of hp (λi r l a b=>h1 (i+1) r l a b) (λi j r l h a b=>h2 (i+1) (j+1) r l (by lia) a b)⟩
  ·have e:=h1 0 r l rfl rfl;have z:p∣r.getD l 0:=z;rw[e]at z;exact Hn hp z
  ·obtain⟨q,hq,e⟩:=cY.mp (qx hx).1;obtain⟨j,hj,rfl⟩:=mz.mp hq
   have:=h2 0 (j+1) L[j] l (by lia) (cg (l:=r::L) (i:=j+1) (by simpa using hj)) rfl
   rw[← e];exact⟨0,by show(L[j]).getD l 0=_;rw[this];lia⟩
theorem gO.Og{k:Nat}(hp:p∈cb)(E:gO n k D ls):qY p ((D.map fn).zip ls):=
 Of hp (λi r l a b=>(E.one i r l a b).1) λi j r l h a b=>E.alone i j r l (by lia) a b
noncomputable def Y6(n:Nat)(ls:List Nat):List Nat:=(List.range n).filter λj=>j ∉ ls
theorem Y7(up:ls.Pairwise (· < ·))(lt:∀l∈ls,l<n):(Y6 n ls).length+ls.length=n:=by
 have hnd:ls.Nodup:=up.imp λh=>by lia
 have h1:((List.range n).filter λj=>j∈ls).length=ls.length:=by
  have e:((List.range n).filter λj=>j∈ls)=ls:=by
   refine Ho (List.Pairwise.filter _ List.pairwise_lt_range) up λx=>?_;simp only[pS,oJ,aH];exact⟨λh=>h.2,λh=>⟨lt x h,h⟩⟩
  rw[e]
 have h2:∀L:List Nat,(L.filter λj=>j ∉ ls).length+(L.filter λj=>j∈ls).length=L.length:=by
  intro L;induction L with
  |nil=>rfl
  |cons a L ih=>
   by_cases h:a∈ls
   ·rw[List.filter_cons_of_neg (by simpa using h),Fd (by simpa using h),eO,eO];lia
   ·rw[Fd (by simpa using h),List.filter_cons_of_neg (by simpa using h),eO,eO];lia
 have:=h2 (List.range n)
 rw[h1,tD]at this;exact this
theorem Oh{p:Int}{f:Fn}{l:Nat}(hf:¬p∣f l):∀{A:List (Fn×Nat)},qY p A→(∀q∈A,p∣f q.2)→qY p (A++[(f,l)])
 | [],_,_=>⟨hf,λx hx=>(nomatch hx),trivial⟩
 |q::A,⟨h1,h2,h3⟩,h=>⟨h1,λx hx=>by
   rcases(c9.mp hx)with(hx|hx)
   ·exact h2 x hx
   ·rw[cR.mp hx];exact h q dN,Oh hf h3 λq hq=>h q (gp _ hq)⟩
noncomputable def Y8(D:LL):List Nat:=D.map λr=>(qd r).headD 0
section
variable{p:Int}{n:Nat}{D:LL}{ls:List Nat}
end
end Bw
namespace L2
open PySem Bw
def LR(N:Addr→Prop)(H:Hp)(LS:List V)(L:LL):Prop:=LS.length=L.length∧∀(i:Nat)(v:V)(r:List Int),LS[i]?=some v→L[i]?=some r→∃a,v=.ref a∧N a∧H a=some (.lst (r.map V.int))
noncomputable abbrev B7(r:List Int):Dat:=.list (r.map .int)
section
variable{N:Addr→Prop}{H H':Hp}{LS:List V}{L:LL}{l a:Addr}{o:HO}{r:List Int}
theorem LR.nil:LR N H [] []:=⟨rfl,λi v r h=>by simp at h⟩
theorem LR.mono(h:LR N H LS L)(e:aL H H'):LR N H' LS L:=⟨h.1,λi v r a b=>by
 obtain⟨x,rfl,hN,g⟩:=h.2 i v r a b;exact⟨x,rfl,hN,e _ _ g⟩⟩
theorem LR.wr(h:LR (·≠l) H LS L):LR (·≠l) (upd H l o) LS L:=⟨h.1,λi v r a b=>by
 obtain⟨x,rfl,ne,g⟩:=h.2 i v r a b;exact⟨x,rfl,ne,by rw[cy ne];exact g⟩⟩
theorem LR.snoc(h:LR N H LS L)(hN:N a)(g:H a=some (.lst (r.map V.int))):LR N H (LS++[.ref a]) (L++[r]):=⟨by simp[h.1],λj v q e1 e2=>by
 by_cases hj:j<LS.length
 ·rw[gy hj]at e1;rw[gy (by rw[← h.1];exact hj)]at e2;exact h.2 j v q e1 e2
 ·rw[iC (by lia)]at e1;rw[iC (by rw[← h.1];lia),← h.1]at e2;cases hk:j-LS.length with
  |zero=>rw[hk]at e1 e2;cases e1;cases e2;exact⟨a,rfl,hN,g⟩
  |succ k=>rw[hk]at e1;cases e1⟩
theorem LR.has{K:Frag}:∀{LS:List V}{L:LL},LR N H LS L→bI K H LS (L.map B7)
 | [],[],_=>.nil
 | [],_::_,h=>by have:=h.1;simp at this
 |_::_,[],h=>by have:=h.1;simp at this
 |v::LS,r::L,h=>by
  obtain⟨a,rfl,_,g⟩:=h.2 0 v r rfl rfl;refine .cons (.list (.of g) (bI.ints _)) (LR.has ⟨by have:=h.1;simpa using this,λi v r e1 e2=>h.2 (i+1) v r e1 e2⟩)
end
theorem Y9(L:LL):kqdOk 8 (.list (L.map B7))=true:=by
 show(L.map B7).all (kqdOk 7)=true;rw[oO];intro d hd;obtain⟨r,_,rfl⟩:=cY.mp hd;show(r.map Dat.int).all (kqdOk 6)=true;exact NF 6 r
end L2
namespace L2
open PySem PySem.Spec PyProof.Rows
end L2
namespace L2
open PySem Bw
end L2
namespace L2
open PySem PySem.Spec PyProof.Rows
variable{H H':Hp}{Q:QV}{X:Cx}{aU:List (List Key×V)}{u:Value}{xs:List (List Key×Addr×Value)}{y:V}
section
variable{κ:Type} [DecidableEq κ]
noncomputable def dU(aU:List (κ×V))(k:κ):Option V:=(aU.find? λkv=>decide (kv.1=k)).map (·.2)
noncomputable def gF(aU:List (κ×V))(k:κ)(v:V):List (κ×V):=
 if(aU.any λkv=>decide (kv.1=k))=true then aU.map (λkv=>if kv.1=k then(kv.1,v)else kv)else aU++[(k,v)]
theorem jh{p:κ×V}{r:List (κ×V)}{k:κ}(e:p.1=k):dU (p::r) k=some p.2:=by simp[dU,List.find?_cons,e]
theorem n9{p:κ×V}{r:List (κ×V)}{k:κ}(e:¬p.1=k):dU (p::r) k=dU r k:=by simp[dU,List.find?_cons,e]
theorem yI(k:κ):∀aU:List (κ×V),(aU.any λkv=>decide (kv.1=k))=(dU aU k).isSome
 | []=>rfl
 |p::r=>by
  rw[List.any_cons];by_cases e:p.1=k
  ·simp only[jh e,aE e,Bool.true_or,Option.isSome_some]
  ·rw[n9 e,ae e,Bool.false_or];exact yI k r
theorem Oi(k j:κ)(y:V):∀aU:List (κ×V),dU (aU.map λkv=>if kv.1=k then(kv.1,y)else kv) j=(dU aU j).map λx=>if j=k then y else x
 | []=>rfl
 |p::r=>by
  have ih:=Oi k j y r;rw[kj];by_cases h:p.1=k
  ·rw[af h];by_cases e:p.1=j
   ·rw[jh (p:=(p.1,y)) e,jh e,Option.map_some,af (e.symm.trans h)]
   ·rw[n9 (p:=(p.1,y)) e,n9 e,ih]
  ·rw[ag h];by_cases e:p.1=j
   ·rw[jh (p:=p) e,jh e,Option.map_some,ag (λz=>h (e.trans z))]
   ·rw[n9 (p:=p) e,n9 e,ih]
theorem Oj(k j:κ)(y:V):∀aU:List (κ×V),dU aU k=none→dU (aU++[(k,y)]) j=if j=k then some y else dU aU j
 | [],_=>by
  by_cases e:k=j
  ·rw[af e.symm];exact jh (p:=(k,y)) e
  ·rw[ag (λz=>e z.symm)];exact n9 (p:=(k,y)) e
 |p::r,hn=>by
  rw[tu];have hk:¬p.1=k:=λz=>by rw[jh z]at hn;cases hn
  rw[n9 hk]at hn;have ih:=Oj k j y r hn;by_cases e:p.1=j
  ·rw[jh e,jh e,ag (λz=>hk (e.trans z))]
  ·rw[n9 e,n9 e,ih]
theorem Za(aU:List (κ×V))(k j:κ)(y:V):dU (gF aU k y) j=if j=k then some y else dU aU j:=by
 unfold gF;by_cases a:(aU.any λkv=>decide (kv.1=k))=true
 ·rw[af a,Oi];rw[yI]at a;by_cases e:j=k
  ·obtain⟨x,hx⟩:=AL.mp a;rw[af e,e,hx,Option.map_some,af rfl]
  ·rw[ag e];cases dU aU j with
   |none=>rfl
   |some x=>rw[Option.map_some,ag e]
 ·rw[ag a];refine Oj k j y aU ?_;rw[yI]at a;cases q:dU aU k with
  |none=>rfl
  |some x=>rw[q]at a;exact(a rfl).elim
theorem B8(aU:List (κ×V))(k:κ)(v:V):(gF aU k v).length≤aU.length+1:=by
 unfold gF;split
 ·rw[ba];lia
 ·rw[bK,eO,List.length_nil];lia
theorem Ol{aU:List (κ×V)}{k:κ}(v:V)(h:dU aU k=none):gF aU k v=aU++[(k,v)]:=by
 unfold gF;rw[yI,h];exact ag (by decide)
theorem oR.Hu{o:Option V}{u:Option Value}(r:oR o u):o.isSome=u.isSome:=by
 cases o with
 |none=>cases u with
  |none=>rfl
  |some _=>exact(show False from r).elim
 |some _=>cases u with
  |none=>exact(show False from r).elim
  |some _=>rfl
theorem KV.val{aU:List (κ×V)}{vs:List (κ×Value)}(r:KV aU vs)(k:κ):oR (dU aU k) (valueAt vs k):=by
 unfold KV at r;induction r with
 |nil=>exact True.intro
 | @cons p q ps qs h t ih=>
  obtain⟨h1,h2⟩:=h;by_cases e:p.1=k
  ·have e':q.1=k:=h1.symm.trans e;have b:valueAt (q::qs) k=some q.2:=by simp[valueAt,List.find?_cons,e']
   rw[jh e,b];exact h2
  ·have e':¬q.1=k:=λz=>e (h1.trans z);have b:valueAt (q::qs) k=valueAt qs k:=by simp[valueAt,List.find?_cons,e']
   rw[n9 e,b];exact ih
theorem KV.any{aU:List (κ×V)}{vs:List (κ×Value)}(r:KV aU vs)(k:κ):(aU.any λkv=>decide (kv.1=k))=vs.any λkv=>decide (kv.1=k):=by
 unfold KV at r;induction r with
 |nil=>rfl
 |cons h t ih=>rw[List.any_cons,List.any_cons,ih,h.1]
theorem KV.Hv{aU:List (κ×V)}{vs:List (κ×Value)}(r:KV aU vs)(k:κ)(ry:RelV y u) :
  KV (aU.map λkv=>if kv.1=k then(kv.1,y)else kv) (vs.map λkv=>if kv.1=k then(kv.1,u)else kv):=by
 unfold KV at r ⊢;induction r with
 |nil=>exact .nil
 | @cons p q ps qs h t ih=>
  rw[kj,kj];refine .cons ?_ ih;obtain⟨h1,h2⟩:=h;by_cases e:p.1=k
  ·rw[af e,af (h1.symm.trans e)];exact⟨h1,ry⟩
  ·rw[ag e,ag (λz=>e (h1.trans z))];exact⟨h1,h2⟩
theorem KV.put{aU:List (κ×V)}{vs:List (κ×Value)}(r:KV aU vs)(k:κ)(ry:RelV y u):KV (gF aU k y) (stored vs k u):=by
 unfold gF stored;rw[r.any k];by_cases e:(vs.any λkv=>decide (kv.1=k))=true
 ·rw[af e,af e];exact r.Hv k ry
 ·rw[ag e,ag e];exact Paired.snoc r ⟨rfl,ry⟩
theorem KV.length{aU:List (κ×V)}{vs:List (κ×Value)}(r:KV aU vs):aU.length=vs.length:=Paired.length r
end
theorem yJ{P:Program}{w:World}{k:Key}(r:RelV (kV k) u):(jS P w).is k u=true:=by
 cases k with
 |inl i=>obtain⟨t,e⟩:=(show ∃t,u=Value.int i t from r);subst e;exact Vl P w i t
 |inr x=>obtain⟨t,e⟩:=(show ∃t,u=Value.str x t from r);subst e;exact Vm P w x t
theorem Om{P:Program}{w:World}:∀{ks:List Key}{us:List Value},Vals (ks.map kV) us→ItemsAre (jS P w) ks us
 | [],_,r=>by rw[List.map_nil]at r;cases r;exact .nil
 |k::ks,_,r=>by
  rw[kj]at r;cases r with
  |cons h t=>exact .cons (yJ h) (Om t)
abbrev KT(H:Hp):List (List Key×V)→List (List Key×Addr×Value)→Prop:=Paired λp q=>p.1=q.1∧H q.2.1=some (.tup (p.1.map kV))∧RelV p.2 q.2.2
theorem KT.val(r:KT H aU xs)(k:List Key):oR (dU aU k) ((atKey xs k).map (·.2)):=by
 induction r with
 |nil=>exact True.intro
 | @cons p q ps qs h t ih=>
  obtain⟨h1,_,h2⟩:=h;by_cases e:p.1=k
  ·have e':q.1=k:=h1.symm.trans e;have b:atKey (q::qs) k=some q.2:=by simp[atKey,List.find?_cons,e']
   rw[jh e,b];exact h2
  ·have e':¬q.1=k:=λz=>e (h1.trans z);have b:atKey (q::qs) k=atKey qs k:=by simp[atKey,List.find?_cons,e']
   rw[n9 e,b];exact ih
theorem KT.Hv(r:KT H aU xs)(k:List Key)(ry:RelV y u) :
  KT H (aU.map λkv=>if kv.1=k then(kv.1,y)else kv) (xs.map (putAt k u)):=by
 induction r with
 |nil=>exact .nil
 | @cons p q ps qs h t ih=>
  rw[kj,kj];refine .cons ?_ ih;obtain⟨h1,h2,h3⟩:=h;unfold putAt;by_cases e:p.1=k
  ·rw[af e,af (h1.symm.trans e)];exact⟨h1,h2,ry⟩
  ·rw[ag e,ag (λz=>e (h1.trans z))];exact⟨h1,h2,h3⟩
theorem KT.put(r:KT H aU xs)(k:List Key){b:Addr}(hb:H b=some (.tup (k.map kV)))(ry:RelV y u) :
  KT H (gF aU k y) (storedH xs k b u):=by
 have e:(aU.any λkv=>decide (kv.1=k))=(atKey xs k).isSome:=by
  rw[yI,(r.val k).Hu,Option.isSome_map]
 unfold gF storedH;rw[e];by_cases q:(atKey xs k).isSome=true
 ·rw[af q,af q];exact r.Hv k ry
 ·rw[ag q,ag q];exact Paired.snoc r ⟨rfl,hb,ry⟩
theorem KT.keeps(r:KT H aU xs)(ht:∀b ys,H b=some (.tup ys)→H' b=some (.tup ys)):KT H' aU xs:=
 Paired.Fe r λ_ _ z=>⟨z.1,ht _ _ z.2.1,z.2.2⟩
section
variable{P:Program}{w:World}{H:Hp}{h:Heap}{a:Addr}
theorem Oo{u:HO}(ok:dI P w H h)(e:Rd H a u):ek P w H h a u:=e.ok ok
theorem B9{aU:List (Key×V)}(ok:dI P w H h)(e:Rd H a (.dK aU)):aU.length≤sizeLine∧(a==sysModules)=false∧∃vs,KV aU vs∧h.DictOf (jS P w) a vs:=
 show ek P w H h a (.dK aU) from Oo ok e
theorem Oq{aU:List (Key×V)}(ok:dI P w H h)(e:H a=some (.dK aU)):aU.length≤sizeLine∧(a==sysModules)=false∧∃vs,KV aU vs∧h.DictOf (jS P w) a vs:=B9 ok (.inl e)
theorem Ca{ks:List Key}(ok:dI P w H h)(e:H a=some (.tup (ks.map kV))):(tupleKind (jS P w)).is h ks a:=by
 obtain⟨_,its,r,o,h1,h2,n,h3⟩:=(show ek P w H h a (.tup (ks.map kV)) from ok a _ e)
 exact⟨o,its.toArray,n,h1,h2,h3,by simpa using Om r⟩
theorem Cb(ok:dI P w H h)(e:Rd H a (.dT aU)):aU.length≤sizeLine∧(a==sysModules)=false∧
  ∃xs,KT H aU xs∧h.DictOfH (tupleKind (jS P w)) a xs:=by
 obtain⟨z,y,xs,r,o,es,ep,h1,h2,h3,h4,h5⟩:=(show ek P w H h a (.dT aU) from Oo ok e)
 refine⟨z,y,xs,r,o,es,ep,h1,h2,h3,h4,λx hx=>?_,h5⟩;have all:∀{l:List (List Key×V)}{m:List (List Key×Addr×Value)},KT H l m→∀x∈m,(tupleKind (jS P w)).is h x.1 x.2.1:=by
  intro l m q;induction q with
  |nil=>intro x hx;exact nomatch hx
  | @cons p q ps qs hq t ih=>
   intro x hx;rcases dP.mp hx with e|hx
   ·subst e;exact Ca ok (by rw[← hq.1];exact hq.2.1)
   ·exact ih x hx
 exact all r x hx
theorem Zb(ok:dI P w H h)(e:H a=some (.dT aU)):aU.length≤sizeLine∧(a==sysModules)=false∧
  ∃xs,KT H aU xs∧h.DictOfH (tupleKind (jS P w)) a xs:=Cb ok (.inl e)
end
def oa(H:Hp)(a:Addr)(y:V)(r:Option V):Prop:=
 (∃aU k,Rd H a (.dK aU)∧y=kV k∧r=dU aU k)∨∃aU k b,Rd H a (.dT aU)∧y=.ref b∧H b=some (.tup (k.map kV))∧r=dU aU k
def vO(H:Hp)(a:Addr)(y v:V)(H':Hp):Prop:=
 (∃aU k,H a=some (.dK aU)∧y=kV k∧aU.length<sizeLine∧H'=upd H a (.dK (gF aU k v))) ∨
 ∃aU k b,H a=some (.dT aU)∧y=.ref b∧H b=some (.tup (k.map kV))∧aU.length<sizeLine∧H'=upd H a (.dT (gF aU k v))
theorem oa.k{H:Hp}{a:Addr}{aU:List (Key×V)}{k:Key}(e:H a=some (.dK aU)):oa H a (kV k) (dU aU k):=.inl ⟨aU,k,.inl e,rfl,rfl⟩
theorem vO.k{H:Hp}{a:Addr}{aU:List (Key×V)}{k:Key}{v:V}(e:H a=some (.dK aU))(hl:aU.length<sizeLine):vO H a (kV k) v (upd H a (.dK (gF aU k v))):=.inl ⟨aU,k,e,rfl,hl,rfl⟩
section
variable{X:Cx}{aJ:List (Addr×Obj)}{σ:St}{H:Hp}{s:Shared}{a:Addr}{y v:V}{u r:Value}{o:Option V}{A:Around}{E:QV}
theorem Inv.big(I:Inv X aJ σ H s):sysModules<s.heap.objs.size:=by
 have h:mainGlobals<s.heap.objs.size:=(I.mod.glob.keeps I.bk).lt;exact Nat.lt_trans (by decide) h
theorem Zc(hu:A.units+1<cLine)(I:Inv X aJ σ H s)(g:oa H a y (some v))(ry:RelV y u)(h:∀w' s',Inv X aJ σ H s'→RelV v w'→Q w' s') :
  wpAny (model X.prog X.w) A (getItem (.ref a) u) Q E s:=by
 rcases g with⟨aU,k,e,ey,l⟩|⟨aU,k,b,e,ey,eb,l⟩
 ·subst ey;obtain⟨z,hd,vs,rel,dd⟩:=B9 I.br e;obtain⟨w',hw,oW⟩:=oR.some_of (v:=v) (o:=valueAt vs k) (by rw[l];exact rel.val k);exact wpAny_getItem_of (yJ ry) dd.mapOf hw (h w' _ (I.tok _) oW)
 ·subst ey;cases(show u=Value.ref b from ry)
  obtain⟨z,hd,xs,rel,dd⟩:=Cb I.br e;obtain⟨w',hw,oW⟩:=oR.some_of (v:=v) (o:=(atKey xs k).map (·.2)) (by rw[l];exact rel.val k);obtain⟨p,hp,yj⟩:=Option.map_eq_some_iff.mp hw;refine wpAny_getItem_heap (tupleKind_room_in1 hu) (Ca I.br eb) dd hp ?_;rw[yj];exact h w' _ (I.tok _) oW
theorem Zd(hu:A.units+1<cLine)(I:Inv X aJ σ H s)(g:oa H a y o)(ry:RelV y u)(h:∀s',Inv X aJ σ H s'→Q (.bool o.isSome) s') :
  wpAny (model X.prog X.w) A (compareOp .In u (.ref a)) Q E s:=by
 rcases g with⟨aU,k,e,ey,l⟩|⟨aU,k,b,e,ey,eb,l⟩
 ·subst ey;obtain⟨z,hd,vs,rel,dd⟩:=B9 I.br e;refine wpAny_in_of (yJ ry) hd dd.mapOf ?_;rw[← (rel.val k).Hu,← l];exact h _ (I.tok _)
 ·subst ey;cases(show u=Value.ref b from ry)
  obtain⟨z,hd,xs,rel,dd⟩:=Cb I.br e;refine wpAny_in_heap (tupleKind_room_in1 hu) (Ca I.br eb) hd dd ?_;have q:=(rel.val k).Hu;rw[Option.isSome_map]at q;rw[← q,← l];exact h _ (I.tok _)
theorem Hw{h':Heap}{t':Nat}{ob:HO}(I:Inv X aJ σ H s)(mu:xx (H a))(hs:Heap.SameBut a s.heap h')(he:∃q,h'.get? a=some q)(new:ek X.prog X.w (upd H a ob) h' a ob) :
  Inv X aJ σ (upd H a ob) { s with heap:=h',toks:=t' }:=
 I.write (x:=a) (e:=a) mu (.inl rfl) (λb q hb z=>(hs.2 b hb).trans z) he new
theorem Ot{P:Program}{w:World}{h':Heap}{aU:List (Key×V)}{vs:List (Key×Value)}(z:aU.length≤sizeLine)(hd:(a==sysModules)=false)(rel:KV aU vs)(dd:h'.DictOf (jS P w) a vs) :
  ek P w H' h' a (.dK aU):=⟨z,hd,vs,rel,dd⟩
theorem Ze{Q:Unit→Shared→Prop}(hu:A.units+1<cLine)(I:Inv X aJ σ H s)(g:vO H a y v H')(ry:RelV y u)(rv:RelV v r)(h:∀s',Inv X aJ σ H' s'→Q () s') :
  wpAny (model X.prog X.w) A (setItem (.ref a) u r) Q E s:=by
 rcases g with⟨aU,k,e,ey,l,eH⟩|⟨aU,k,b,e,ey,eb,l,eH⟩
 ·subst ey eH;obtain⟨z,hd,vs,rel,dd⟩:=Oq I.br e;have hz:vs.length≤sizeLine:=by rw[← rel.length];exact z
  have hl:(gF aU k v).length≤sizeLine:=by have:=B8 aU k v;lia
  refine wpAny_setItem_pairs (hsz:=hz) (yJ ry) dd λh' ud hs=>h _ ?_;have he:∃q,h'.get? a=some q:=let ⟨q,_,_,hq,_⟩:=ud;⟨q,hq⟩;exact Hw I (by rw[e];exact True.intro) hs he (Ot hl hd (rel.put k rv) ud)
 ·subst ey eH;cases(show u=Value.ref b from ry)
  obtain⟨z,hd,xs,rel,dd⟩:=Zb I.br e;have hz:xs.length≤sizeLine:=by rw[← Paired.length rel];exact z
  have hl:(gF aU k v).length≤sizeLine:=by have:=B8 aU k v;lia
  refine wpAny_setItem_heap (hsz:=hz) (tupleKind_room_in1 hu) (Ca I.br eb) dd λh' ud hs=>h _ ?_;obtain⟨q,es,ep,hq,h2,h3,h4,_,h5⟩:=ud;refine Hw I (by rw[e];exact True.intro) hs ⟨q,hq⟩ ⟨hl,hd,_,(rel.put k eb rv).keeps λc ys ec=>?_,q,es,ep,hq,h2,h3,h4,h5⟩;rw[cy (Vo ec e (λz=>nomatch z))];exact ec
end
section
variable{X:Cx}{aJ:List (Addr×Obj)}{σ:St}{H:Hp}{s:Shared}{a:Addr}{aU:List (Key×V)}{k:Key}{u:Value}{A:Around}{E:QV}
end
def Hy(i:Expr):Prop:=∀ov iv,subscripted i false ov iv=operate [ov,iv] (getItem ov iv)
theorem Ou{prog:Program}{w:World}{A:Around}{E:QV}{s:Shared}{env:Env}{value slice:Expr}{pos:Pos}{T id:String}
  (hl:typeLookup (.type T) "__getitem__"=pure (some (.builtin id))) (hs:Hy slice)
  (h:wpAny (model prog w) A (eval value env) (λo s₁=>wpAny (model prog w) A (eval slice env) (λi s₂=>s₂.TypeIs o T∧wpAny (model prog w) A (getItem o i) Q E s₂) E s₁) E s) :
  wpAny (model prog w) A (eval (.Subscript value slice pos) env) Q E s:=by
 refine Subscript_ (ah h (λo s₁ h₁=>ah h₁ (λi s₂ h₂=>?_) λ_ _ x=>x) λ_ _ x=>x);obtain⟨hT,h₂⟩:=h₂;unfold subscriptTail;refine ao ?_;rw[getitemInPython_of_ne hT.not_modules];refine ao (wpAny_specialOf hT hl ?_);have fin:wpAny (model prog w) A (subscripted slice false o i) (λr s₃=>wpAny (model prog w) A (letTemporaryGo value o r >>= λ_=>pure r) Q E s₃) E s₂:=by
  rw[hs o i];exact wpAny_operating (ah h₂ (λr s₃ h₃=>ao (wpAny_letTemporaryGo (ar h₃))) λ_ _ x=>x)
 first
  |exact ar (ao fin)
  |exact ao (ar (ao fin))
  |exact ao fin
theorem Zf{aJ:List (Addr×Obj)}{σ:St}{s:Shared}{a:Addr}{o:Option V}(I:Inv X aJ σ H s)(g:oa H a y o):s.TypeIs (.ref a) "dict":=by
 rcases g with⟨aU,k,e,_,_⟩|⟨aU,k,b,e,_,_,_⟩
 ·obtain⟨_,_,vs,_,dd⟩:=B9 I.br e;exact dd.typeIs
 ·obtain⟨_,_,xs,_,dd⟩:=Cb I.br e;exact dd.typeIs
def Ov(td ty:TE):TE:=λσ H Q=>td σ H λx H1=>ty σ H1 λy H2=>∃a v,x=.ref a∧oa H2 a y (some v)∧Q v H2
def Ow(ty td:TE):TE:=λσ H Q=>ty σ H λy H1=>td σ H1 λx H2=>∃a o,x=.ref a∧oa H2 a y o∧Q (.bl o.isSome) H2
def yM(td ty tv:TE):TS:=λD σ H=>tv σ H λv H1=>td σ H1 λx H2=>ty σ H2 λy H3=>∃a H4,x=.ref a∧vO H3 a y v H4∧D.nx σ H4
section
variable{X:Cx}{o i e value:Expr}{pos oV Wb:Pos}{td ty tv:TE}
theorem yN(hu:X.A.units+1<cLine)(ho:PE X o td)(hi:PE X i ty)(hs:Hy i):PE X (.Subscript o i pos) (Ov td ty):=by
 intro aJ s σ H Q I h;refine Ou PySem.F.slot_dict_getitem.lookup hs (aZ (ho aJ s σ H _ I h) λu s1 ⟨x,H1,I1,rx,q1⟩=>aZ (hi aJ s1 σ H1 _ I1 q1) λiv s2 ⟨y,H2,I2,ry,a,v,ex,g,q2⟩=>?_);subst ex;obtain rfl:u=Value.ref a:=rx;exact⟨Zf I2 g,Zc hu I2 g ry λw' s3 I3 oW=>⟨v,H2,I3,oW,q2⟩⟩
theorem Zg(hu:X.A.units+1<cLine)(hi:PE X i ty)(ho:PE X o td):PC X .In i o (Ow ty td):=by
 intro aJ s σ H Q I h;refine aZ (hi aJ s σ H _ I h) λiv s1 ⟨y,H1,I1,ry,q1⟩=>aZ (ho aJ s1 σ H1 _ I1 q1) λu s2 ⟨x,H2,I2,rx,a,ov,ex,g,q2⟩=>?_;subst ex;obtain rfl:u=Value.ref a:=rx;exact Zd hu I2 g ry λs3 I3=>⟨.bl ov.isSome,H2,I3,rfl,q2⟩
theorem Cc(hu:X.A.units+1<cLine)(ho:PE X o td)(hi:PE X i ty)(hv:PE X value tv)(hs:swapsWith value (some (.Subscript o i oV)) pos.line X.env=pure false) :
  PS X (.Assign [.Subscript o i oV] value pos) (yM td ty tv):=by
 intro aJ s σ H D I h;refine wpAny_Assign_Subscript (aZ (hv aJ s σ H _ I h) λr s1 ⟨v,H1,I1,rv,q1⟩=>aZ (ho aJ s1 σ H1 _ I1 q1) λu s2 ⟨x,H2,I2,rx,q2⟩=>aZ (hi aJ s2 σ H2 _ I2 q2) λiv s3 ⟨y,H3,I3,ry,a,H4,ex,g,q3⟩=>?_) hs;subst ex;obtain rfl:u=Value.ref a:=rx;exact Ze hu I3 g ry rv λs4 I4=>⟨σ,H4,I4,q3⟩
end
theorem Ox{P:Program}{w:World}(h:Heap)(hb:sysModules<h.objs.size):ek P w H (h.push { cls:=.type "dict",data:=.dict #[] }) h.objs.size (.dK []):=
 ⟨jq _,beq_eq_false_iff_ne.mpr (Ne.symm (fZ hb)),[],.nil,Heap.DictOf.new h⟩
def Zh:TE:=λ_ H Q=>∀p,H p=none→Q (.ref p) (upd H p (.dK []))
section
variable{X:Cx}{pos:Pos}
theorem Zi:PE X (.Dict [] [] pos) Zh:=λaJ s σ H Q I h=>
 wpAny_Dict_empty ⟨.ref s.heap.objs.size,_,I.laid (a:=s.heap.objs.size) (o:=.dK []) (t':=s.toks) (λ_ _ q=>dD _ q) (bX _) (Ox s.heap I.big),rfl,h _ (I.br.fresh (bX _))⟩
end
def si:List (TE×TE)→St→Hp→(List (V×V)→Hp→Prop)→Prop
 | [],_,H,Q=>Q [] H
 |(tk,tv)::r,σ,H,Q=>tk σ H λx H1=>tv σ H1 λy H2=>si r σ H2 λps H3=>Q ((x,y)::ps) H3
abbrev VV:List (V×V)→List (Value×Value)→Prop:=Paired λp q=>RelV p.1 q.1∧RelV p.2 q.2
def Cd(X:Cx)(pos:Pos)(keys:List (Option Expr))(values:List Expr)(qZ:List (TE×TE)):Prop:=
 ∀(aJ:List (Addr×Obj))(s:Shared)(σ:St)(H:Hp)(Q:List (V×V)→Hp→Prop),Inv X aJ σ H s→si qZ σ H Q→
  wpAny (model X.prog X.w) X.A (evalPairs (pairTrees keys values X.env pos)) (λvs s'=>∃ps H',Inv X aJ σ H' s'∧VV ps vs∧Q ps H') X.xe s
theorem Zj{pos:Pos}:Cd X pos [] [] []:=λaJ s σ H Q I h=>pairTrees_nil_walk ⟨[],H,I,.nil,h⟩
theorem Ce{pos:Pos}{k v:Expr}{ks:List (Option Expr)}{vs:List Expr}{tk tv:TE}{qZ:List (TE×TE)}(hk:PE X k tk)(hv:PE X v tv)(hr:Cd X pos ks vs qZ) :
  Cd X pos (some k::ks) (v::vs) ((tk,tv)::qZ):=λaJ s σ H Q I h=>
 pairTrees_cons_walk (aZ (hk aJ s σ H _ I h) λu s1 ⟨x,H1,I1,rx,q1⟩=>aZ (hv aJ s1 σ H1 _ I1 q1) λw2 s2 ⟨y,H2,I2,ry,q2⟩=>
  aZ (hr aJ s2 σ H2 _ I2 q2) λws s3 ⟨ps,H3,I3,rel,q3⟩=>⟨(x,y)::ps,H3,I3,.cons ⟨rx,ry⟩ rel,q3⟩)
noncomputable def ue(aU more:List (Key×V)):List (Key×V):=more.foldl (λcO kv=>gF cO kv.1 kv.2) aU
theorem KV.merge:∀{more:List (Key×V)}{rs:List (Key×Value)}{aU:List (Key×V)}{vs:List (Key×Value)},KV more rs→KV aU vs→KV (ue aU more) (merged vs rs):=by
 intro more rs aU vs r;unfold KV at r;induction r generalizing aU vs with
 |nil=>intro q;exact q
 | @cons p q ps qs h t ih=>
  intro r0;have e:KV (gF aU p.1 p.2) (stored vs q.1 q.2):=by
   have:=r0.put p.1 h.2
   rw[← h.1];exact this
  exact ih e
theorem Oy:∀(more aU:List (Key×V)),(ue aU more).length≤aU.length+more.length
 | [],aU=>by show aU.length≤aU.length+0;lia
 |p::r,aU=>by
  have h1:=Oy r (gF aU p.1 p.2);have h2:=B8 aU p.1 p.2;show(ue (gF aU p.1 p.2) r).length≤_;rw[eO];lia
theorem Oz{P:Program}{w:World}:∀{aU:List (Key×V)}{ws:List (Value×Value)},VV (aU.map λkv=>(kV kv.1,kv.2)) ws→∃rs,Carries (jS P w) ws rs∧KV aU rs
 | [],_,r=>by rw[List.map_nil]at r;cases r;exact⟨[],True.intro,.nil⟩
 |p::aU,_,r=>by
  rw[kj]at r;cases r with
  | @cons a b as bs h t=>
   obtain⟨rs,c,q⟩:=Oz (P:=P) (w:=w) t;obtain⟨b1,b2⟩:=b;exact⟨(p.1,b2)::rs,⟨yJ h.1,rfl,c⟩,.cons ⟨rfl,h.2⟩ q⟩
def OA(qZ:List (TE×TE)):TE:=λσ H Q=>∀p,H p=none→si qZ σ (upd H p (.dK [])) λps H2=>H2 p=some (.dK [])∧∃aU:List (Key×V),ps=aU.map (λkv=>(kV kv.1,kv.2))∧aU.length≤15∧Q (.ref p) (upd H2 p (.dK (ue [] aU)))
theorem Zk{pos:Pos}{keys:List (Option Expr)}{values:List Expr}{qZ:List (TE×TE)}(h:Cd X pos keys values qZ)(Gi:keys.all (·.isSome)=true)(hl:keys.length=values.length)(h0:keys≠[])
  (Hz:keys.length≤15):PE X (.Dict keys values pos) (OA qZ):=by
 intro aJ s σ H Q I q;have hn:=I.br.fresh (bX s.heap.objs.size);have I1:=I.laid (a:=s.heap.objs.size) (o:=.dK []) (h':=s.heap.push { cls:=.type "dict",data:=.dict #[] }) (t':=s.toks) (λ_ _ q=>dD _ q) (bX _) (Ox s.heap I.big);refine wpAny_Dict_walk (knd:=jS X.prog X.w) Gi hl h0 Hz (aZ (h aJ _ σ _ _ I1 (q _ hn)) λws s2 ⟨ps,H2,I2,rel,e,aU,ep,lk,q2⟩=>?_);subst ep;obtain⟨rs,c,rk⟩:=Oz (P:=X.prog) (w:=X.w) rel;obtain⟨z,hd,vs0,r0,dd⟩:=Oq I2.br e;cases r0;refine⟨rs,c,dd,λh' ud hs=>⟨.ref s.heap.objs.size,_,?_,rfl,q2⟩⟩;have hz:(ue [] aU).length≤sizeLine:=by
  have h1:=Oy aU [];rw[List.length_nil]at h1;rw[sizeLine_eq];lia
 have he:∃q,h'.get? s.heap.objs.size=some q:=let ⟨q,_,_,hq,_⟩:=ud;⟨q,hq⟩;exact Hw I2 (by rw[e];exact True.intro) hs he (Ot hz hd (rk.merge .nil) ud)
structure M2(X:Cx)(o:Expr)(m:Str)(kn:Pos)(e f:Expr)(gc:Pos):Prop where
 base:attributeBase o m X.env (eval o X.env)=eval o X.env
 lY:((backTo gc (starEach [e,f] X.env)).all (λx=>!x.1)&&(backToKw gc (keywordEach [] X.env)).all (λx=>x.1.isSome)
  && decide (([e,f]:List Expr).length+([]:List Keyword).length+(if([]:List Keyword).isEmpty then 0 else 1)<30))=true
 line:(kn.endLine==gc.line)=true
 trees:backTo gc (starEach [e,f] X.env)=[(false,eval e X.env),(false,eval f X.env)]
section
variable{X:Cx}{aJ:List (Addr×Obj)}{σ:St}{H:Hp}{s:Shared}{a:Addr}{y d:V}{u r:Value}{o:Option V}{A:Around}{E:QV}
end
section
variable{X:Cx}{o e f:Expr}{kn gc:Pos}{td ty tx:TE}
end
section
variable{X:Cx}{aJ:List (Addr×Obj)}{σ:St}{H:Hp}{s:Shared}{a:Addr}{aU:List (Key×V)}{A:Around}{E:QV}
end
section
variable{X:Cx}{aJ:List (Addr×Obj)}{σ:St}{H:Hp}{s:Shared}{a:Addr}{y:V}{u:Value}{A:Around}{E:QV}
end
end L2
namespace HT
open PySem PySem.Spec PyProof.Rows
variable{prog:Program}{w:World}{A:Around}{E:QV}{s:Shared}
theorem Zl{t sl:Addr}{items:Array Value}{vl vu:Value}{lo hi:Option Int}{Q:QV}(ht:IsTup s.heap t items)(hs:s.heap.IsSliceOf sl vl vu .none)(pl:IsPart vl lo)(pu:IsPart vu hi)
  (h0:cF items.size 0 lo=0) (h1:cF items.size items.size hi=items.size) (h:Q (.ref t) s):wpAny (model prog w) A (getItem (.ref t) (.ref sl)) Q E s:=by
 obtain⟨os,tS,Bm,xV⟩:=id hs;have FX:s.TypeIs (.ref sl) "slice":=⟨os,tS,Bm⟩;unfold getItem
 try with_reducible refine aq ?_
 first|refine ao (ar ?_)|skip
 refine ao (wpAny_sequenceKey ht.typeIs (by decide) ?_);refine ao (aA (name:=Str.ofString "__getitem__") ht.typeIs AM (aC AM ht.typeIs entry_tuple_getitem ?_ (args_tuple_getitem _ _)));show wpAny _ _ (Builtin.Tuple.tupleItemsOf (.ref t) >>= _) _ _ s;refine ao (tupleItemsOf_ ht ?_);refine ao (wpAny_typeOf FX ?_);rw[af (by decide)];refine ao (MA hs pl pu ?_);have Zm:(((cF items.size 0 lo:Nat):Int)==0&&(1:Int)==1&&(cF items.size items.size hi-cF items.size 0 lo)==items.size)=true:=by
  rw[h0,h1];simp
 show wpAny _ _ (if(((cF items.size 0 lo:Nat):Int)==0&&(1:Int)==1&&(cF items.size items.size hi-cF items.size 0 lo)==items.size)=true then _ else _) _ _ s
 rw[af Zm];unfold Builtin.Tuple.tupleIsExact;refine ao (ao (wpAny_typeOf ht.typeIs (ar ?_)));rw[af (by decide)];first
  |exact ao (ar (ar ⟨_,rfl,ar h⟩))
  |exact ao (m:=rule _) (ar ⟨_,rfl,ar h⟩)
  |exact ar ⟨_,rfl,ar h⟩
  |exact ao (wpAny_rule (ar ⟨_,rfl,ar h⟩))
  |exact ao (wpAny_rule (ao (ar (ar ⟨_,rfl,ar h⟩))))
end HT
namespace L2
open PySem PySem.Spec PyProof.Rows
variable{H H':Hp}{Q:QV}{X:Cx}{a c f:Addr}{fd:FuncData}{h:Heap}{i:Int}{n:Nat}{ps:List Str}{qual x:Str}{s:Shared}{st:Stmt}
def kX(K:Frag):V→Option Int→Option Int→Hp→VK→Prop:=λx lo hi H Q=>∃a xs,x=.ref a∧bc K H a xs∧ib K H (fh xs lo hi) Q
theorem Zn:vp X (kX X.K):=by
 intro aJ s σ H x v vl vu lo hi sl Q I rx hs pl pu h;obtain⟨a,xs,rfl,hx,q⟩:=h;by_cases hw:HT.cF xs.length 0 lo=0∧HT.cF xs.length xs.length hi=xs.length
 ·cases rx;obtain⟨its,r,ht,hz⟩:=I.tuple hx;have cE:its.toArray.size=xs.length:=by rw[dG];exact r.length.symm
  refine⟨"tuple",_,AM.lookup,ht.typeIs,?_⟩;refine HT.Zl ht hs pl pu (by rw[cE];exact hw.1) (by rw[cE];exact hw.2) ?_;refine⟨.ref a,H,I,rfl,q.old ?_⟩;unfold fh;rw[hw.1,hw.2,List.drop_zero,Nat.sub_zero,km];exact hx
 ·exact Wo aJ s σ H _ v vl vu lo hi sl Q I rx hs pl pu ⟨a,xs,rfl,hx,hw,λp hp=>q.new hp⟩
theorem jE(K:Frag)(hK:X.K=K):vp X (kX K):=hK▸Zn
section
variable{X:Cx}
theorem Zo(hc:X.calm=true):fq X (.builtin "any") (λxs H Q=>∃p ns,xs=[.ref p]∧bc X.K H p (List.map V.int ns)∧Q (.bl (ns.any λn=>n != 0)) H):=by
 intro aJ s σ H vs us Q I r h;obtain⟨p,ns,rfl,hq,q⟩:=h;obtain⟨u,rfl,ru⟩:=vals1 r;cases ru;obtain⟨its,rv,ht,hz⟩:=I.tuple hq;have cX:p<s.heap.objs.size:=ht.lt;have cE:its.length=ns.length:=by have:=rv.length;rw[ba]at this;exact this.symm
 apply call_any_walk;apply wpAny_pyIter_tuple ht;refine⟨s.heap.objs.size,[s.heap.objs.size,p],[s.heap.objs.size],its.toArray.size,_,_,λi=>((ns.map λn=>n != 0)[i]?).getD false,rfl,Walks.tuple (A:=X.A.in1) (I.ok.hd hc) _ p (fZ cX) its.toArray,⟨⟨_,gK _ rfl,rfl,rfl⟩,ht.push _⟩,λi v s1 Q1 E1 hP hQ=>?_,λh1 tk1 hk=>?_⟩
 ·have hP:its[i]?=some v:=by simpa using hP
  have hi:i<ns.length:=by rw[← cE];exact(dz.mp hP).1
  have hx:(ns.map V.int)[i]?=some (.int ns[i]):=by simp[hi]
  obtain⟨u,hu,ru⟩:=rv.get hx;rw[hP]at hu;cases hu;obtain⟨t,rfl⟩:=ru;dsimp only at hQ;rw[show(ns.map λn=>n != 0)[i]?=some (ns[i] != 0) by simp[hi],Option.getD_some]at hQ;exact truthy_int hQ
 ·have e:((List.range its.toArray.size).any λi=>((ns.map λn=>n != 0)[i]?).getD false)=ns.any λn=>n != 0:=by
   have e2:=YK (ns.map λn=>n != 0);rw[ba]at e2;rw[dG,cE,e2,List.any_map];rfl
  rw[e];refine⟨.bl _,H,I.kept (λb x e=>hk b x (λhm=>by rw[cR.mp hm]at e;exact uT _ (dF e)) (dD _ e)),rfl,q⟩
theorem Zp(K:Frag)(hK:X.K=K)(hc:X.calm=true):fq X (.builtin "any") (λxs H Q=>∃p ns,xs=[.ref p]∧bc K H p (List.map V.int ns)∧Q (.bl (ns.any λn=>n != 0)) H):=hK▸Zo hc
end
section
variable{K:Frag}{H1:Hp}{cp:St}{tt:TT}{te:TE}{Q:VK}{xs ys:List V}{l1 l2:Addr}{b1 b2:Bool}
end
def fi(H:Hp)(Pt:Addr)(pos:Pos)(qual:Str):Prop:=
 H Pt=some (.e9 #[])∨∃c',H Pt=some (.e9 #[rawInt pos.line,rawInt pos.col,.ref c'])∧H c'=some (.ext λh=>h.CodeRec (.ref c') qual)
def Cf(Pt:Addr)(H H':Hp):Prop:=∀b o,H b=some o→b≠Pt→H' b=some o
def OB(H:Hp)(f:Addr)(qual:Str)(params:Arguments)(body:Expr)(scope:Scope)(cl:List (Str×Addr)):Prop:=
 ∃c',H f=some (.ext λh=>∃pm gi,h.get? f=some (PySem.W.kla_obj "<lambda>" qual params body scope cl pm c' gi))∧H c'=some (.ext λh=>h.CodeRec (.ref c') qual)
theorem Zq{P:Program}{w:World}(x:h.CodeRec (.ref c) qual):ek P w H h c (.ext λh=>h.CodeRec (.ref c) qual):=by
 refine⟨x,?_,λh1 h2 z k=>?_⟩
 ·obtain⟨c2,oc,vs,t,e,ho,_⟩:=x;cases e;exact⟨oc,ho⟩
 ·obtain⟨c2,oc,vs,t,e,ho,r⟩:=z;cases e;exact⟨c,oc,vs,t,rfl,k _ ho,r⟩
theorem OC{P:Program}{w:World}{params:Arguments}{body:Expr}{scope:Scope}{cl:List (Str×Addr)}{pm gi:Value}(x:h.get? f=some (PySem.W.kla_obj "<lambda>" qual params body scope cl pm c gi)) :
  ek P w H h f (.ext λh=>∃pm gi,h.get? f=some (PySem.W.kla_obj "<lambda>" qual params body scope cl pm c gi)):=
 ⟨⟨pm,gi,x⟩,⟨_,x⟩,λh1 h2 ⟨pm,gi,z⟩ k=>⟨pm,gi,k _ z⟩⟩
def sj(mg:Str→Option Value)(h:Heap):Prop:=∃bm ob,mg "__builtins__"=some (.ref bm)∧bm≠builtinsNs∧h.get? bm=some ob∧ob.cls=.type "module"∧ob.dict=some builtinsNs∧ob.data=.plain
section
variable{X:Cx}
def Zr(Pt:Addr)(pos:Pos)(qual:Str)(params:Arguments)(body:Expr)(scope:Scope)(cl:List (Str×Addr)):TE:=λ_ H Q=>fi H Pt pos qual∧
 ∀f H',H f=none→Cf Pt H H'→fi H' Pt pos qual→OB H' f qual params body scope cl→Q (.ref f) H'
theorem Zs{params:Arguments}{body:Expr}{scope:Scope}{pos:Pos}{Pt:Addr}{cl:List (Str×Addr)}(OD:X.env.code=.ref c)(C:CodeHd X.base c Pt)(B:sj X.mg X.base)(OE:closureFor scope X.env=pure cl)(Zt:defaultsOf params X.env=([],[]):=by rfl) :
  PE X (.Lambda params body scope pos) (Zr Pt pos (X.env.qual ++ "<lambda>") params body scope cl):=by
 intro aJ s σ H Q I h;obtain⟨hT,h⟩:=h;generalize hq:X.env.qual ++ "<lambda>"=qual at hT h;refine PySem.W.kla_eval Zt ?_;rw[hq];have hg:s.heap.Ns mainGlobals X.mg:=I.mod.glob.keeps I.bk;have Cs:=C.keeps I.bk;obtain⟨bm,ob,b1,b2,b3,b4,b5,b6⟩:=B;have OF:bm≠mainGlobals:=λq=>by
  obtain⟨o,es,ep,e,hd,_⟩:=I.mod.glob;rw[q,e]at b3;cases b3;rw[hd]at b6;cases b6
 have Zu:∃ps,H Pt=some (.e9 ps):=hT.elim (λz=>⟨_,z⟩) λ⟨_,z,_⟩=>⟨_,z⟩;obtain⟨Zv,yO⟩:=Zu;have yQ:s.heap.get? Pt=some (PySem.W.tabObj Zv):=I.br Pt _ yO;have Zw:mainGlobals≠Pt:=λq=>by
  obtain⟨o,es,ep,e,hd,_⟩:=hg;rw[q,yQ]at e;cases e;cases hd
 have OG:bm≠Pt:=λq=>by
  have e:=I.bk _ _ b3;rw[q,yQ]at e;cases e;cases b4
 have OH:Pt<s.heap.objs.size:=dF yQ;rcases hT with hT|⟨c',hT,hc⟩
 ·rw[hT]at yO;cases yO;refine PySem.W.kla_makeFunction (mg:=X.mg) OE I.ok.glob hg OD Cs yQ trivial rfl Zw ⟨bm,ob,b1,b2,OF,OG,I.bk _ _ b3,b4,b5,b6⟩ λc' gi h' tk hx Cg cX Zx vP=>?_;have hsz:s.heap.objs.size≤h'.objs.size:=fg Cg (Nat.le_of_lt cX);have hn:∀a,s.heap.objs.size≤a→H a=none:=λa ha=>I.br.fresh ha;have Zy:Pt≠c':=fZ (iA OH Cg);have OI:Pt≠h'.objs.size:=fZ (iA OH hsz);have OJ:c'≠h'.objs.size:=fZ cX;have hk:∀b o,b≠Pt→s.heap.get? b=some o→(h'.push (PySem.W.kla_obj "<lambda>" qual params body scope cl ((X.mg "__name__").getD .none) c' gi)).get? b=some o:=λb o hb e=>dD _ (hx b o hb e);have hf:(h'.push (PySem.W.kla_obj "<lambda>" qual params body scope cl ((X.mg "__name__").getD .none) c' gi)).get? h'.objs.size=some (PySem.W.kla_obj "<lambda>" qual params body scope cl ((X.mg "__name__").getD .none) c' gi):=gK _ rfl;have OK:(h'.push (PySem.W.kla_obj "<lambda>" qual params body scope cl ((X.mg "__name__").getD .none) c' gi)).CodeRec (.ref c') qual:=by
   obtain⟨c2,oc,vs,t,e,ho,r⟩:=Zx;exact⟨c2,oc,vs,t,e,dD _ ho,r⟩
  have HB:(h'.push (PySem.W.kla_obj "<lambda>" qual params body scope cl ((X.mg "__name__").getD .none) c' gi)).get? Pt=some (PySem.W.tabObj (#[]++#[rawInt pos.line,rawInt pos.col,.ref c'])):=dD _ vP;generalize h'.push (PySem.W.kla_obj "<lambda>" qual params body scope cl ((X.mg "__name__").getD .none) c' gi)=hh at hk hf OK HB ⊢;generalize h'.objs.size=f at hsz OI OJ hf ⊢;have HG:=hn f hsz;have Zz:=hn c' Cg
  let H':Hp:=upd (upd (upd H Pt (.e9 (#[]++#[rawInt pos.line,rawInt pos.col,.ref c']))) c' (.ext λh=>h.CodeRec (.ref c') qual)) f (.ext λh=>∃pm gi,h.get? f=some (PySem.W.kla_obj "<lambda>" qual params body scope cl pm c' gi))
  have e1:∀b,b≠f→b≠c'→b≠Pt→H' b=H b:=λb x1 x2 x3=>by
   show upd (upd (upd H Pt _) c' _) f _ b=_;rw[cy x1,cy x2,cy x3]
  have e2:H' Pt=some (.e9 (#[]++#[rawInt pos.line,rawInt pos.col,.ref c'])):=by
   show upd (upd (upd H Pt _) c' _) f _ Pt=_;rw[cy OI,cy Zy,aQ]
  have e3:H' c'=some (.ext λh=>h.CodeRec (.ref c') qual):=by
   show upd (upd (upd H Pt _) c' _) f _ c'=_;rw[cy OJ,aQ]
  have e4:H' f=some (.ext λh=>∃pm gi,h.get? f=some (PySem.W.kla_obj "<lambda>" qual params body scope cl pm c' gi)):=aQ;have e5:∀b o,H b=some o→b≠Pt→H' b=some o:=λb o q hb=>by
   rw[e1 b (eQ q HG) (eQ q Zz) hb];exact q
  have Ci:∀b o,H b=some o→(∀ps,o≠.e9 ps)→b≠Pt:=λb o q ht z=>by
   rw[z,hT]at q;exact ht _ (c7 q).symm
  refine⟨.ref f,H',I.un (t':=tk) ⟨λb o e n _ _=>hk b o (λz=>by rw[z,hT]at n;cases n) e,λb o e n _ _=>⟨o.slots,hk b o (λz=>by rw[z,hT]at n;cases n) e⟩,λb o e n _=>?_,λb o e _=>?_,λb xs q=>e5 b _ q (Ci b _ q λ_ z=>nomatch z),λb o u q=>e5 b _ q (Ci b _ q λ_ z=>nomatch z),λb ps q=>?_⟩ λa o e=>?_,rfl,h f H' HG e5 (.inr ⟨c',by rw[e2];rfl,e3⟩) ⟨c',e4,e3⟩⟩
  ·have hb:=dF e;rw[e1 b (fZ (iA hb hsz)) (fZ (iA hb Cg)) (λz=>by rw[z,hT]at n;cases n)];exact n
  ·by_cases hb:b=Pt
   ·rw[hb];exact⟨_,HB⟩
   ·exact⟨o,hk b o hb e⟩
  ·by_cases hb:b=Pt
   ·subst hb;rw[hT]at q;cases q;exact⟨_,e2⟩
   ·exact⟨#[],by rw[e5 b _ q hb];simp⟩
  ·by_cases fE:a=f
   ·subst fE;rw[e4]at e;cases e;exact OC hf
   by_cases gZ:a=c'
   ·subst gZ;rw[e3]at e;cases e;exact Zq OK
   by_cases vA:a=Pt
   ·subst vA;rw[e2]at e;cases e;exact HB
   ·rw[e1 a fE gZ vA]at e;refine(I.br a o e).jt (λb u hb q=>hk b u (λz=>?_) q) (λb q=>e5 b _ q (Ci b _ q λ_ z=>nomatch z)) λb xs q=>e5 b _ q (Ci b _ q λ_ z=>nomatch z);rcases hb with hb|hb
    ·exact vA (hb▸z)
    ·rw[z,hT]at hb;cases hb
 ·rw[hT]at yO;cases yO;refine PySem.W.kla_makeFunctionHit (cv:=.ref c') (mg:=X.mg) OE I.ok.glob hg OD Cs yQ (by simp[TriplesOk,rawInt]) (by simp[codeAmong,rawInt]) ⟨bm,ob,b1,b2,OF,OG,I.bk _ _ b3,b4,b5,b6⟩ λgi h' tk hk hsz=>?_;have hn:H h'.objs.size=none:=I.br.fresh hsz;refine⟨.ref h'.objs.size,_,I.laid (t':=tk) (o:=.ext λh=>∃pm gi,h.get? h'.objs.size=some (PySem.W.kla_obj "<lambda>" qual params body scope cl pm c' gi)) (λb u e=>dD _ (hk b u e)) hsz (OC (gK _ rfl)),rfl,?_⟩;have e5:∀b o,H b=some o→(upd H h'.objs.size (.ext λh=>∃pm gi,h.get? h'.objs.size=some (PySem.W.kla_obj "<lambda>" qual params body scope cl pm c' gi))) b=some o:=λb o q=>by rw[cy (eQ q hn)];exact q
  exact h _ _ hn (λb o q _=>e5 b o q) (.inr ⟨c',e5 _ _ hT,e5 _ _ hc⟩) ⟨c',aQ,e5 _ _ hc⟩
end
structure sk(P:Program)(w:World)(K:Frag)(mg:Str→Option Value)(base:Heap)(k:Nat)(f:Addr)(fd:FuncData)(ps:List Str)(sp:Shared→Sp):Prop where
 len:∀s vs H Q E,sp s vs H Q E→vs.length=ps.length
 run:∀(A:Around)(outer:List Env)(s:Shared)(H:Hp)(args:Args)(us:List Value)(vs:List V)(Q:VK)(E:XK),dk k A→vn P w K mg base A outer s H→BindsTo s fd args (ps.zip us)→Vals vs us→sp s vs H Q E→
  codeAny (model P w) A (.call (.ref f) args) (CR bj outer P w H s Q E) s
section
variable{P:Program}{w:World}{K:Frag}{mg:Str→Option Value}{base:Heap}
theorem bZ.lZ{N:List Str}{k:Nat}{sp:Shared→Sp}(F:bZ K x qual st f fd)(S:c8 N ps (bq st))(len:∀s vs H Q E,sp s vs H Q E→vs.length=ps.length)
  (o4:∀(bt:Value)(A:Around)(outer:List Env)(s:Shared)(H:Hp)(vs:List V)(Q:VK)(E:XK),dk k (A.deeper (envOfC qual (bq st) s.heap.objs.size f bt))→sp s vs H Q E→
   ∃t,jb (jy bj P w K mg base N qual (bq st) f bt A outer s H E).lL (kz st) t∧t { nx:=λ_ H'=>Q .cm H',rt:=Q } (start N vs) H):sk P w K mg base (k+1) f fd ps sp:=by
 obtain⟨oc,od,kV,doc,pm,an,bt,ct,lQ,rfl,lk,gM⟩:=F.ex;refine⟨len,λA outer s H args us vs Q E hr e0 hb r iW=>?_⟩;have hl:=len _ _ _ _ _ iW;have KX:K.In s.heap:=e0.mod.qB.keeps λb o e=>(e0.bs b o e).1;have tP:s.heap.NoLimit:=e0.mod.nolimit.keeps λb o e=>(e0.bs b o e).1;have xS:∀y∈ps.zip us,(bq st).names.lookup y.1=some .local∨((bq st).names.lookup y.1=some .cell∧((cellsFrom (s.heap.objs.size+1) (bq st).names []).lookup y.1).isSome=true):=λ⟨n,v⟩ hy=>by
  rcases S.par n (qx hy).1 with q|q
  ·exact .inl q
  ·exact .inr ⟨q,E8 _ _ _ (.inl q)⟩
 refine codeAny_call_function hr.depth (KX _ _ lk) rfl S.co S.gen rfl (PySem.W.codeRec_of KX gM) (hb _ _ _ _ ?_);refine ay S.kind xS λenv he s1 x=>?_;subst he;refine⟨tP.keeps x.toInCall.keep,codeAny_func ?_⟩;obtain⟨t,ht,hq⟩:=o4 bt A outer s H vs Q E (hr.deeper _) iW;have I:Inv (jy bj P w K mg base N qual (bq st) f bt A outer s H E) [] (start N vs) H s1:=FV S hr.hd e0 hl r x;refine ah (ht.lL [] s1 (start N vs) H _ I hq) (λfl s' hs=>?_) λe s' hs=>hs;have fin:∀{σ':St}{H':Hp}{v:V}{u:Value},Inv (jy bj P w K mg base N qual (bq st) f bt A outer s H E) [] σ' H' s'→RelV v u→Q v H'→CE outer P w H s Q u s':=
  λ{σ' H' v u} J rv q=>⟨v,H',J.os,J.bare,J.base,J.br,rv,q⟩
 cases fl with
 |ret u=>
  obtain⟨v,σ',H',J,rv,q⟩:=hs;exact fin J rv q
 |next=>
  obtain⟨σ',H',J,q⟩:=hs;exact fin (v:=V.cm) (u:=Value.none) J rfl q
 |brk=>
  obtain⟨_,_,_,q⟩:=hs;exact False.elim q
 |cont=>
  obtain⟨_,_,_,q⟩:=hs;exact False.elim q
end
section
variable{X:Cx}{k:Nat}{f:Addr}{fd:FuncData}{ps:List Str}{x:Str}{p pos:Pos}{e:Expr}{es:List Expr}{t:TA}{te:TE}
theorem Cj{sp:Shared→Sp}(F:sk X.prog X.w X.K X.mg X.base k f fd ps sp)(hr:dk k X.A)(hg:Gl X x)(hm:X.mg x=some (.ref f))(hk:Kp X.K f)(hb:Binds X.K fd ps [])
  (ha:PA X (e::es) t) (qL:(x==("__debug__":Str))=false:=by decide) (he:starEach (e::es) X.env=(false,eval e X.env)::starEach es X.env:=by rfl) (iF:(backTo pos (starEach es X.env)).any (·.1)=false:=by rfl) :
  PE X (.Call (.Name x p) (e::es) [] pos) (λσ H Q=>t σ H λvs H1=>∀aJ s,Inv X aJ σ H1 s→sp s vs H1 Q E0):=by
 intro aJ s σ H Q I h;refine ax (xI I hg hm ?_ qL);refine PySem.W.callWith_K (h₀:=X.base) I.ok.mod.qB hk (aZ (ha pos aJ s σ H _ I h) λus s1 ⟨vs,H1,I1,r,q⟩=>⟨I1.eR,?_⟩) he iF;have hs:=q aJ s1 I1;have hl:us.length=ps.length:=by rw[← r.length];exact F.len _ _ _ _ _ hs
 have qe:=hb s1 us I1.eR (by rw[iB];exact hl);rw[iB]at qe;refine wpAny_call (codeAny_mono (F.run X.A X.stack s1 H1 ⟨us,[]⟩ us vs Q E0 hr I1.Bj qe r hs) λr s' hq=>?_);cases r with
 |error e=>exact False.elim hq
 |ok fl=>
  cases fl with
  |ret u=>exact I1.after hq
  |next=>exact False.elim hq
  |brk=>exact False.elim hq
  |cont=>exact False.elim hq
end
noncomputable def HH(P:Program)(w:World)(K:Frag)(mg:Str→Option Value)(base:Heap)(N:List Str)(qual:Str)(scope:Scope)(f c:Addr)(cl:List (Str×Addr))(A:Around)(outer:List Env)(s:Shared)(H:Hp):Cx where
 prog:=P
 w:=w
 K:=K
 mg:=mg
 base:=base
 A:=A.deeper (PySem.W.envX qual scope s.heap.objs.size f (.ref c) cl)
 N:=N
 s₀:=s
 H₀:=H
 env:=PySem.W.envX qual scope s.heap.objs.size f (.ref c) cl
 outer:=outer
 stack:=PySem.W.envX qual scope s.heap.objs.size f (.ref c) cl::outer
 ex:=[]
 calm:=true
 fn:=λ_=>false
 pn:=[]
 xe:=λe s'=>wpAny (model P w) (A.deeper (PySem.W.envX qual scope s.heap.objs.size f (.ref c) cl)) (leaving (PySem.W.envX qual scope s.heap.objs.size f (.ref c) cl) e) (λ_ _=>False) (λ_ _=>False) s'
section
variable{P:Program}{w:World}{K:Frag}{mg:Str→Option Value}{base:Heap}
end
section
variable{P:Program}{w:World}{K:Frag}{mg:Str→Option Value}{base:Heap}
theorem bZ.ZA{N:List Str}{k:Nat}{sp:Sp}(F:bZ K x qual st f fd)(S:c8 N ps (bq st))(len:∀vs H Q E,sp vs H Q E→vs.length=ps.length)
  (o4:∀(bt:Value)(A:Around)(outer:List Env)(s:Shared)(H:Hp)(vs:List V)(Q:VK)(E:XK),fd.code=bt→dk k (A.deeper (envOfC qual (bq st) s.heap.objs.size f bt))→sp vs H Q E→
   ∃t,jb (jy bj P w K mg base N qual (bq st) f bt A outer s H E).lL (kz st) t∧t { nx:=λ_ H'=>Q .cm H',rt:=Q } (start N vs) H):bf P w K mg base bj (k+1) f fd ps sp:=by
 obtain⟨oc,od,kV,doc,pm,an,bt,ct,lQ,rfl,lk,gM⟩:=F.ex;refine FW lk gM S len λA outer s H vs Q E hr iW=>?_;obtain⟨t,h,q⟩:=o4 bt A outer s H vs Q E rfl hr iW;exact⟨t,h.lL,q⟩
theorem OL{Pt:Addr}{oc:Value}{od:Option Addr}{sl:Array (Option Value)}(a:nsIn K mainGlobals x=some (some (.ref f)))(l:K.lookup f=some ⟨oc,od,.func fd,sl⟩)(t:tabIn K x=some (c,Pt)):fd.code=.ref c:=by
 unfold tabIn at t;rw[a]at t;simp only[l]at t;split at t
 ·rename_i c2 hc
  split at t
  ·split at t
   ·cases t;exact hc
   ·cases t
  ·cases t
 ·cases t
theorem ZC{tabs:List (Addr×Addr)}{mb:Str→Option Value}{k:Nat}{fa:Addr}{sp:Sp}{s₁:Shared}{vs:List Value}{ns:List Int}
  (KX:K.In s₁.heap) (noT:PySem.W.noTabs K=true) (hT:PySem.W.TabsAt tabs s₁.heap) (yR:s₁.heap.Ns mainGlobals mg) (hb:s₁.heap.Ns builtinsNs mb) (qe:∀x:Str,x ≠ "__name__"→mb x=bootBuiltins x) (ZD:sj mg s₁.heap) (ZE:s₁.heap.NoLimit) (hg:s₁.gens=#[])
  (ha:s₁.heap.get? a=some { cls:=.type "list",data:=.seq vs.toArray }) (hi:IntsAre vs ns) (hl:ns.length≤sizeLine) (hr:dk k callerA)
  (F:∀base:Heap,K.In base→base.Ns mainGlobals mg→sj mg base→(∀q∈tabs,CodeHd base q.1 q.2)→bf P w K mg base bj k fa fd [x] sp) (HI:∀(s:Shared)(u:Value),BindsTo s fd ⟨[u],[]⟩ [(x,u)])
  (iW:∀H:Hp,di K H a (ns.map V.int)→(∀q∈tabs,H q.2=some (.e9 #[]))→sp [.ref a] H (λv _=>v=.bl true) λ_ _ _=>False) :
  codeAny (model P w) callerA (.call (.ref fa) ⟨[.ref a],[]⟩) (λr s'=>r=.ok (.ret (.bool true))∧OldK s₁.heap s'.heap∧s'.os=s₁.os∧AllBare s'.gens) s₁:=by
 have rv:=MO hi;have ZF:=hi.length;have ZG:∀q∈tabs,K.lookup q.2=none:=λq hq=>by
  cases e:K.lookup q.2 with
  |none=>rfl
  |some o=>
   have e1:=KX _ _ e;rw[(hT q hq).2]at e1;cases e1;have h2:=oO.mp noT (q.2,PySem.W.tabObj #[]) (PySem.W.mem_of_lookupK e);exact(gJ (show false=true from h2)).elim
 have aT:∀q∈tabs,q.2≠a:=λq hq z=>by
  have e:=(hT q hq).2;rw[z,ha]at e;cases e
 have core:∀H:Hp,di K H a (ns.map V.int)→dI P w H s₁.heap→(∀q∈tabs,H q.2=some (.e9 #[]))→(∀b u,H b=some u→(b=a∧K.lookup a=none∧∃o xs,u=.ja o (.lst xs))∨(∃q∈tabs,b=q.2))→
   codeAny (model P w) callerA (.call (.ref fa) ⟨[.ref a],[]⟩) (λr s'=>r=.ok (.ret (.bool true))∧OldK s₁.heap s'.heap∧s'.os=s₁.os∧AllBare s'.gens) s₁:=by
  intro H hS br vQ hA;have Ck:∀{b:Addr}{o:Obj},s₁.heap.get? b=some o→H b=none→(oS s₁.heap H).get? b=some o:=λe n=>Vr e n;have HJ:∀{b:Addr}{o:Obj},s₁.heap.get? b=some o→o≠{ cls:=.type "list",data:=.seq vs.toArray }→o≠PySem.W.tabObj #[]→H b=none:=λ{b o} e n1 n2=>by
   cases q:H b with
   |none=>rfl
   |some u=>
    rcases hA b u q with⟨rfl,_⟩|⟨r,hr,rfl⟩
    ·rw[ha]at e;cases e;exact absurd rfl n1
    ·rw[(hT r hr).2]at e;cases e;exact absurd rfl n2
  have Cm:∀{b:Addr}{m:Str→Option Value},s₁.heap.Ns b m→(oS s₁.heap H).Ns b m:=λ{b m} ⟨o,es,ep,e,d,r⟩=>⟨o,es,ep,Ck e (HJ e (λz=>by rw[z]at d;cases d) (λz=>by rw[z]at d;cases d)),d,r⟩;have OM:K.In (oS s₁.heap H):=λb o e=>Ck (KX b o e) (by
   cases q:H b with
   |none=>rfl
   |some u=>
    rcases hA b u q with⟨rfl,hn,_⟩|⟨r,hr,rfl⟩
    ·rw[hn]at e;cases e
    ·rw[ZG r hr]at e;cases e)
  have hM:Mod K mg (oS s₁.heap H):=⟨OM,Cm yR,⟨mb,Cm hb,qe⟩,let ⟨mc,h1,h2⟩:=ZE;⟨mc,Cm h1,h2⟩⟩;have ZH:sj mg (oS s₁.heap H):=by
   obtain⟨bm,ob,b1,b2,b3,b4,b5,b6⟩:=ZD;exact⟨bm,ob,b1,b2,Ck b3 (HJ b3 (λz=>by rw[z]at b4;exact absurd (Value.type.inj b4) (by decide)) (λz=>by rw[z]at b4;cases b4)),b4,b5,b6⟩
  have ZI:∀q∈tabs,CodeHd (oS s₁.heap H) q.1 q.2:=λq hq=>by
   obtain⟨o,ZJ,file,tf,ZK,tg,ZL,text,tt,e1,e2,r⟩:=(hT q hq).1;exact⟨o,ZJ,file,tf,ZK,tg,ZL,text,tt,Ck e1 (HJ e1 (λz=>by rw[z]at e2;exact absurd (Value.type.inj e2) (by decide)) (λz=>by rw[z]at e2;cases e2)),e2,r⟩
  have e0:vn P w K mg (oS s₁.heap H) callerA [] s₁ H:=⟨rfl,hM,λb o e=>Vs e,Nat.le_of_eq (Vq _ _),trivial,λb hb=>absurd (show b∈([]:List Addr) from hb) (by simp),br,.of_eq hg⟩
  refine codeAny_mono ((F _ OM (Cm yR) ZH ZI).run callerA [] s₁ H ⟨[.ref a],[]⟩ [.ref a] [.ref a] _ _ hr e0 (HI s₁ (.ref a)) (.cons rfl .nil) (iW H hS vQ)) λr s' h=>?_;cases r with
  |error e=>exact False.elim h
  |ok fl=>
   cases fl with
   |next=>exact False.elim h
   |brk=>exact False.elim h
   |cont=>exact False.elim h
   |ret u=>
    obtain⟨v,H',os,bare,un,ON,r',q⟩:=h;have q':v=.bl true:=q;subst q';obtain rfl:u=Value.bool true:=r';have keep:∀b o,s₁.heap.get? b=some o→s'.heap.get? b=some o∨∃q∈tabs,b=q.2∧o=PySem.W.tabObj #[]∧∃ps,s'.heap.get? b=some (PySem.W.tabObj ps):=λb o e=>by
     cases q:H b with
     |none=>exact .inl (un.keep b o e q (by intro z;exact absurd (show b∈([]:List Addr) from z) (by simp)) (by simp))
     |some u=>
      rcases hA b u q with⟨rfl,_,ob,xs,rfl⟩|⟨r,hr,rfl⟩
      ·have z2:=un.iD _ ob _ q;obtain⟨e1,_⟩:=br _ _ q;obtain⟨e2,_⟩:=ON _ _ z2;rw[e]at e1;cases e1;exact .inl e2
      ·obtain⟨more,hm⟩:=un.iT _ _ (vQ r hr);have e2:=(hT r hr).2;rw[e]at e2;exact .inr ⟨r,hr,rfl,c7 e2,_,ON _ _ hm⟩
    refine⟨rfl,⟨λb o e=>?_,λb o e=>?_⟩,os,bare⟩
    ·rcases keep b o e with h|⟨q,hq,rfl,rfl,ps,hP⟩
     ·exact .inl h
     ·exact .inr (.inl ⟨((hT q hq).1.tab (hT q hq).2).isCodeTable,rfl,#[],ps,rfl,by rw[Array.empty_append];exact hP⟩)
    ·rcases keep b o e with h|⟨q,hq,rfl,rfl,ps,hP⟩
     ·exact⟨_,h⟩
     ·exact⟨_,hP⟩
 cases hk:K.lookup a with
 |some o=>
  have e:=KX a o hk;rw[ha]at e;cases e;refine core (λb=>if b∈tabs.map (·.2)then some (.e9 #[])else none) (.inr ⟨_,vs.toArray,_,hk,rfl,rfl,rfl,by rw[dG,ZF];exact hl,by simpa using rv⟩) (λb u z=>?_) (λq hq=>af (AQ hq)) λb u z=>?_
  ·by_cases nh:b∈tabs.map (·.2)
   ·have z':=(af nh).symm.trans z;cases z';obtain⟨q,hq,rfl⟩:=cY.mp nh;exact(hT q hq).2
   ·have z':=(ag nh).symm.trans z;cases z'
  ·by_cases nh:b∈tabs.map (·.2)
   ·obtain⟨q,hq,rfl⟩:=cY.mp nh;exact .inr ⟨q,hq,rfl⟩
   ·have z':=(ag nh).symm.trans z;cases z'
 |none=>
  have hif:∀b,b=a→(if b=a then some (HO.ja { cls:=.type "list",data:=.seq vs.toArray } (.lst (ns.map V.int)))else if b∈tabs.map (·.2)then some (.e9 #[])else none)=some (HO.ja { cls:=.type "list",data:=.seq vs.toArray } (.lst (ns.map V.int))):=λb hb=>af hb
  refine core (λb=>if b=a then some (.ja { cls:=.type "list",data:=.seq vs.toArray } (.lst (ns.map V.int)))else if b∈tabs.map (·.2)then some (.e9 #[])else none) (.inl (.inr ⟨{ cls:=.type "list",data:=.seq vs.toArray },af rfl⟩)) (λb u z=>?_) (λq hq=>(ag (aT q hq)).trans (af (AQ hq))) λb u z=>?_
  ·by_cases hb:b=a
   ·have z':=(af hb).symm.trans z;cases z';subst hb;exact⟨ha,by rw[ba];exact hl,vs,_,rv,ha⟩
   ·have z:=(ag hb).symm.trans z;by_cases nh:b∈tabs.map (·.2)
    ·have z':=(af nh).symm.trans z;cases z';obtain⟨q,hq,rfl⟩:=cY.mp nh;exact(hT q hq).2
    ·have z':=(ag nh).symm.trans z;cases z'
  ·by_cases hb:b=a
   ·have z':=(af hb).symm.trans z;cases z';exact .inl ⟨hb,hk,_,_,rfl⟩
   ·have z:=(ag hb).symm.trans z;by_cases nh:b∈tabs.map (·.2)
    ·obtain⟨q,hq,rfl⟩:=cY.mp nh;exact .inr ⟨q,hq,rfl⟩
    ·have z':=(ag nh).symm.trans z;cases z'
end
theorem ZM{l:PySem.W.OpenLaw}{k:Nat}{q:Program}{vw:List Str}{XP:(Str→Option Value)→Heap→Prop}{YP:World→Heap→Prop}{d:DefRec}{K:Params→Frag}{sp:World→Sp}{tabs:World→List (Addr×Addr)}
  (hn:l.most=some n) (ZN:n≤sizeLine) (x5:d.params.defaults=[]) (hr:dk k callerA)
  (hY:∀(w:World)(h:Heap),YP w h→(K w.params).In h) (noT:∀w:World,PySem.W.noTabs (K w.params)=true)
  (hT:∀(w:World){yS:ExcName→Option Value}{lo:List Str}{mg mb:Str→Option Value}{h:Heap},Top q lo yS mg mb h→(K w.params).In h→PySem.W.TabsAt (tabs w) h)
  (F:∀(w:World)(mg:Str→Option Value)(fa:Addr)(h:Heap),(K w.params).In h→h.Ns mainGlobals mg→mg d.name=some (.ref fa)→
   ∃fd:FuncData,(∀(s:Shared)(u:Value),BindsTo s fd ⟨[u],[]⟩ [(x,u)])∧
    ∀base:Heap,(K w.params).In base→base.Ns mainGlobals mg→sj mg base→(∀q∈tabs w,CodeHd base q.1 q.2)→bf l.prog w (K w.params) mg base bj k fa fd [x] (sp w))
  (iW:∀(w:World)(H:Hp)(a:Addr)(ns:List Int),ns.length≤n→di (K w.params) H a (ns.map V.int)→(∀q∈tabs w,H q.2=some (.e9 #[]))→sp w [.ref a] H (λv _=>v=.bl true) λ_ _ _=>False) :
  PySem.W.WalkO q vw XP YP l.row.toRowW d [] (λf vs=>PySem.call f vs):=by
 refine Att.WY hn x5 λw s₀ s₁ mg mb fa o pm cd doc a vs ns G Y ho hd gM hmg Gj hints cE hg=>?_;have KX:=hY w _ Y;obtain⟨fd,hb,hF⟩:=F w mg fa _ KX G.T.g hmg;exact ZC KX (noT w) (hT w G.T KX) G.T.g G.T.b G.T.builtins G.T.bmain G.T.nolimit hg Gj hints (fg cE ZN) hr hF hb λH hS vQ=>iW w H a ns cE hS vQ
noncomputable def og(K:Frag)(x:Str):Addr×Addr:=(tabIn K x).getD (0,0)
theorem HK{K:Frag}(h:(tabIn K x).isSome=true):tabIn K x=some (og K x):=by
 unfold og;cases e:tabIn K x with
 |none=>rw[e]at h;cases h
 |some q=>rfl
theorem tabs_nil:PySem.W.TabsAt [] h:=λ_ hq=>(nomatch hq)
theorem tabs_cons{q:Program}{lo:List Str}{yS:ExcName→Option Value}{mg mb:Str→Option Value}{K:Frag}{d:DefRec}{l:List (Addr×Addr)}(T:Top q lo yS mg mb h)(X:K.In h)(hr:(recsOf q).find? (λe=>e.name==x)=some d)
  (hs:(tabIn K x).isSome=true) (hl:PySem.W.TabsAt l h):PySem.W.TabsAt (og K x::l) h:=List.forall_mem_cons.mpr ⟨PySem.W.tab_of (c:=(og K x).1) (P:=(og K x).2) T X hr (HK hs),hl⟩
def j8(h:Heap)(a:Addr)(D:List (Str×V)):Prop:=KTD.TabOf (λ(v:V)(u:Value)=>RelV v u) h a D
noncomputable def OO:V→Value→Bool
 | .cm,.none=>true
 | .bl b,.bool c=>b==c
 | .int i,.int j _=>i==j
 | .str x,.str y _=>x==y
 | .ref a,.ref b=>a==b
 |_,_=>false
theorem ZO(v:V)(u:Value)(h:OO v u=true):RelV v u:=by
 cases v<;>cases u<;>first|exact Bool.noConfusion h|rfl|(have e:=beq_iff_eq.mp h;subst e;first|rfl|exact⟨_,rfl⟩)
noncomputable def ZP:Value→V
 | .bool b=>.bl b
 | .int i _=>.int i
 | .str x _=>.str x
 | .ref a=>.ref a
 |_=>.cm
noncomputable def gj(K:Frag)(a:Addr):List (Str×V):=match K.lookup a with
 |some ⟨_,_,.dict es _,_⟩=>es.toList.map λe=>((match e.key with | .str x _=>x|_ => ""),ZP e.val)
 |_=>[]
noncomputable def Cn(K:Frag)(a:Addr):Bool:=KTD.tabLook OO (λb=>K.lookup b) a (gj K a)
theorem HM{K:Frag}(X:K.In h)(e:Cn K a=true):j8 h a (gj K a):=KTD.tab_of_look ZO (λb o q=>X b o q) e
theorem j8.typeIs{D:List (Str×V)}(T:j8 s.heap a D):s.TypeIs (.ref a) "dict":=by
 obtain⟨_,o,_,_,ho,hc,_⟩:=T;exact⟨o,ho,hc.1⟩
theorem j8.noDict{D:List (Str×V)}(T:j8 h a D):∀b,Value.ref a=.ref b→∃ob,h.get? b=some ob∧ob.dict=none:=λb e=>by
 cases e;obtain⟨_,o,_,_,ho,hc,_⟩:=T;exact⟨o,ho,hc.2.1⟩
section
variable{prog:Program}{w:World}{A:Around}{E:QV}{s:Shared}{a:Addr}{D:List (Str×V)}{x:Str}{tk:Tok}
theorem HN{Q:Option Value→Shared→Prop}(T:j8 s.heap a D)(h1:∀v u,KTD.datumAt x D=some v→RelV v u→Q (some u) { s with toks:=s.toks+1 })(h2:KTD.datumAt x D=none→Q none { s with toks:=s.toks+1 }) :
  wpAny (model prog w) A (dictGet a (.str x tk)) Q E s:=by
 obtain⟨_,o,es,ep,ho,hc,hd,hr⟩:=T;have ZQ:(es.all λe=>isExactStrKey e.key)=true:=by
  have z:=hr.exact;obtain⟨l⟩:=es;simpa using z
 have hf:findBy (λk v=>v.isStr k) es x=(es.toList.find? λe=>e.key.isStr x).map (·.val):=by obtain⟨l⟩:=es;simp[findBy]
 have hq:Q (findBy (λk v=>v.isStr k) es x) { s with toks:=s.toks+1 }:=by
  rw[hf];cases e:KTD.datumAt x D with
  |none=>rw[hr.find_none e];exact h2 e
  |some v=>obtain⟨u,z1,z2⟩:=hr.find_some e;rw[z1];exact h1 v u e z2
 rw[findBy_of_findIdx?]at hq;unfold dictGet;refine ao (wpAny_pyHash_str (ao (KTD.kt_dictFind_strs (s:={ s with toks:=s.toks+1 }) ho hd ZQ ?_)));cases e:es.findIdx? λe=>e.key.isStr x with
 |none=>rw[e]at hq;exact ar hq
 |some i=>rw[e]at hq;exact ao (wpAny_dictEntries (s:={ s with toks:=s.toks+1 }) ho hd (ar hq))
theorem kd_item{v:V}(T:j8 s.heap a D)(hv:KTD.datumAt x D=some v)(h:∀u,RelV v u→Q u { s with toks:=s.toks+1 }):wpAny (model prog w) A (getItem (.ref a) (.str x tk)) Q E s:=by
 unfold getItem
 try (with_reducible refine aq ?_)
 refine ao (wpAny_sequenceKey (T.typeIs) (by decide) ?_);refine ao (aA (name:=Str.ofString "__getitem__") T.typeIs PySem.F.slot_dict_getitem (aC PySem.F.slot_dict_getitem T.typeIs PySem.F.entry_dict_getitem ?_ (PySem.F.args_dict_getitem_2 _ _)));show wpAny _ _ (dictGet a (.str x tk) >>= _) _ _ s;exact ao (HN T (λv' u e r=>by rw[hv]at e;cases e;exact ar ⟨u,rfl,ar (h u r)⟩) λe=>by rw[hv]at e;cases e)
theorem ZR(T:j8 s.heap a D)(h:Q (.bool (KTD.datumAt x D).isSome) { s with toks:=s.toks+1 }):wpAny (model prog w) A (compareOp .In (.str x tk) (.ref a)) Q E s:=by
 show wpAny _ _ (do return .bool (← contains (.ref a) (.str x tk))) Q E s
 refine ao ?_;unfold contains
 try (with_reducible refine aq ?_)
 refine ao (wpAny_specialOf T.typeIs PySem.F.slot_dict_contains.lookup ?_);show wpAny _ _ (if(some (Value.builtin "dict.__contains__")==some Value.none)=true then _ else _) _ _ s
 rw[ag (by decide)];refine ao (wpAny_callSpecialUnlessNone?_slot (name:=Str.ofString "__contains__") T.typeIs PySem.F.slot_dict_contains (aC PySem.F.slot_dict_contains T.typeIs PySem.F.entry_dict_contains ?_ (PySem.F.args_dict_contains_2 _ _)));show wpAny _ _ (dictGet a (.str x tk) >>= _) _ _ s;refine ao (HN T (λv u e _=>?_) λe=>?_)
 ·rw[e]at h;exact(ar ⟨_,rfl,ai (ar h)⟩)
 ·rw[e]at h;show wpAny _ _ (Builtin.Dict.pendingKey? a (.str x tk) >>= _) _ _ _;exact ao (wpAny_pendingKey_other T.1 (ar ⟨_,rfl,ai (ar h)⟩))
theorem ZT{dflt:Value}:MeetsIn prog w (Builtin.«dict.get» ⟨[.ref a,.str x tk,dflt],[]⟩) (λ_ R s=>j8 s.heap a D∧(∀v u,KTD.datumAt x D=some v→RelV v u→R (.ok (.ret u)) { s with toks:=s.toks+1 })∧(KTD.datumAt x D=none→R (.ok (.ret dflt)) { s with toks:=s.toks+1 })):=
 .of_wp λA₁ R s ⟨T,h1,h2⟩=>by
  show wpAny _ _ (dictGet a (.str x tk) >>= _) _ _ s;refine ao (HN T (λv u e r=>ar ⟨u,rfl,h1 v u e r⟩) λe=>?_);show wpAny _ _ (Builtin.Dict.missed a (.str x tk) >>= _) _ _ _;exact ao (wpAny_missed_other T.1 (ar ⟨dflt,rfl,h2 e⟩))
theorem ZU{dflt:Value}(T:j8 s.heap a D)(h1:∀v u,KTD.datumAt x D=some v→RelV v u→Q u { s with toks:=s.toks+1 })(h2:KTD.datumAt x D=none→Q dflt { s with toks:=s.toks+1 }) :
  wpAny (model prog w) A (call (.builtin "dict.get") [.ref a,.str x tk,dflt]) Q E s:=
 call_meetsIn PySem.F.slot_dict_get T.typeIs PySem.F.entry_dict_get (PySem.F.args_dict_get_3 _ _ _) (ZT (D:=D)) ⟨T,h1,h2⟩
end
section
variable{X:Cx}{o i e f:Expr}{pos kn gc:Pos}{td ty tx:TE}{a:Addr}{D:List (Str×V)}
def Co(a:Addr)(D:List (Str×V))(td ty:TE):TE:=λσ H Q=>td σ H λu H1=>ty σ H1 λy H2=>∃x v,u=.ref a∧y=.str x∧KTD.datumAt x D=some v∧Q v H2
theorem HP(hT:∀h,X.K.In h→j8 h a D)(ho:PE X o td)(hi:PE X i ty)(hs:Hy i):PE X (.Subscript o i pos) (Co a D td ty):=by
 intro aJ s σ H Q I h;refine Ou PySem.F.slot_dict_getitem.lookup hs (aZ (ho aJ s σ H _ I h) λu s1 ⟨x',H1,I1,rx,q1⟩=>aZ (hi aJ s1 σ H1 _ I1 q1) λiv s2 ⟨y,H2,I2,ry,x,v,ex,ey,g,q2⟩=>?_);subst ex ey;obtain rfl:u=Value.ref a:=rx;obtain⟨tk,rfl⟩:=ry;exact⟨(hT _ I2.eR).typeIs,kd_item (hT _ I2.eR) g λu r=>⟨v,H2,I2.tok _,r,q2⟩⟩
def HQ(a:Addr)(D:List (Str×V))(ty td:TE):TE:=λσ H Q=>ty σ H λy H1=>td σ H1 λu H2=>∃x,u=.ref a∧y=.str x∧Q (.bl (KTD.datumAt x D).isSome) H2
theorem OP(hT:∀h,X.K.In h→j8 h a D)(hi:PE X i ty)(ho:PE X o td):PC X .In i o (HQ a D ty td):=by
 intro aJ s σ H Q I h;refine aZ (hi aJ s σ H _ I h) λiv s1 ⟨y,H1,I1,ry,q1⟩=>aZ (ho aJ s1 σ H1 _ I1 q1) λu s2 ⟨x',H2,I2,rx,x,ex,ey,q2⟩=>?_;subst ex ey;obtain rfl:u=Value.ref a:=rx;obtain⟨tk,rfl⟩:=ry;exact ZR (hT _ I2.eR) ⟨.bl _,H2,I2.tok _,rfl,q2⟩
def ZV(a:Addr)(D:List (Str×V))(td ty tx:TE):TE:=λσ H Q=>td σ H λu H1=>u=.ref a∧ty σ H1 λy H2=>tx σ H2 λz H3=>∃x,y=.str x∧Q ((KTD.datumAt x D).getD z) H3
theorem ZW(hT:∀h,X.K.In h→j8 h a D)(ho:PE X o td)(he:PE X e ty)(hf:PE X f tx)(m:M2 X o "get" kn e f gc):PE X (.Call (.Attribute o "get" kn) [e,f] [] gc) (ZV a D td ty tx):=by
 intro aJ s σ H Q I h;refine wpAny_Call_method m.base m.lY m.line PySem.F.plainAttrs_dict PySem.F.slot_dict_get PySem.F.type_dict_get (aZ (ho aJ s σ H _ I h) λu s1 ⟨x',H1,I1,rx,ex,q1⟩=>?_);subst ex;obtain rfl:u=Value.ref a:=rx;refine⟨(hT _ I1.eR).typeIs,(hT _ I1.eR).noDict,?_⟩;rw[m.trees];refine Calls.callWith_builtin rfl (Calls.evalArgs_plain (Calls.spliced_cons (aZ (he aJ s1 σ H1 _ I1 q1) λiv s2 ⟨y,H2,I2,ry,q2⟩=>Calls.spliced_cons (aZ (hf aJ s2 σ H2 _ I2 q2) λfv s3 ⟨z,H3,I3,rz,x,ey,q3⟩=>Calls.spliced_nil ?_))));subst ey;obtain⟨tk,rfl⟩:=ry;refine ZU (hT _ I3.eR) (λv u e r=>⟨v,H3,I3.tok _,r,?_⟩) λe=>⟨z,H3,I3.tok _,rz,?_⟩
 ·rw[e]at q3;exact q3
 ·rw[e]at q3;exact q3
end
noncomputable def vR(hi:Int)(n:Nat):It:=⟨λi _=>i<n,λi H x H'=>H'=H∧x=.int (hi-i),λi _=>n≤i⟩
theorem ZX{P:Program}{w:World}{K:Frag}{tg:Expr}(it:Addr)(hi:Int)(n:Nat):Turn P w K tg (vR hi n) [it] it (λi h=>IsRangeIter h it (hi+(i:Nat)*(-1)) ((n:Int)-(i:Nat)) (-1)) where
 mem:=by simp
 obj:=λi h st b hb=>by
  have e:b=it:=by simpa using hb
  subst e;refine⟨_,st,λv z=>?_⟩;cases(show Data.fields _=Data.cell v from z)
 keep:=λi h h' st k=>k it (by simp) _ st
 item:=by
  intro X hP hw hK hc i aJ s σ H E I hf st hg;subst hP hw hK;obtain⟨f0,f1,f2,f3,f4,f5⟩:=hf it (by simp);refine(Walks.range (prog:=X.prog) (w:=X.w) (I.ok.hd hc) it hi (-1) n).item i s _ _ hg st λv h' tk hv lN kk=>?_;obtain⟨t,rfl⟩:=hv;have I1:Inv X aJ σ H { s with heap:=h',toks:=tk }:=I.turned (λb o hb e=>kk b o (by simpa using hb) e) f0 f1 f3 f4 f5;refine⟨_,rfl,xM (s:={ s with heap:=h',toks:=tk }) (n := "range_iterator") lN rfl rfl (by decide) ⟨.int (hi-i),H,I1,⟨t,?_⟩,⟨rfl,rfl⟩,lN,λb hb=>(hf b hb).1⟩⟩;rw[Int.mul_neg,Int.mul_one,Int.sub_eq_add_neg]
 done:=by
  intro X hP hw hK hc i aJ s σ H E I hf st hg;subst hP hw hK;obtain⟨f0,f1,f2,f3,f4,f5⟩:=hf it (by simp);exact wpAny_pyNext_range_end (I.ok.hd hc) st (by have:n≤i:=hg;lia) λh' eb=>⟨rfl,I.turned (t':=s.toks) (λb o hb e=>eb b o hb e) f0 f1 f3 f4 f5⟩
 self:=λ_ _ _ _ _ st h=>wpAny_pyIter_rangeiter st h
theorem OQ(h:-1≤i):Builtin.Range.rangeSize i (-1) (-1)=i+1:=by
 (unfold Builtin.Range.rangeSize)
 rw[ag (by decide)];split
 ·rw[show(-(-1):Int)=1 from rfl,Int.ediv_one];lia
 ·lia
theorem small_down(h:-1≤i)(h2:i<2^61):Builtin.Range.small i (-1) (-1)=true:=by
 unfold Builtin.Range.small;rw[OQ h];simp only[Builtin.Range.rangeFitsLong,eF,Bool.or_eq_true,aH,beq_iff_eq];exact⟨⟨⟨⟨⟨by lia,by lia⟩,by decide,by decide⟩,by decide,by decide⟩,by lia,by lia⟩,.inr (by decide)⟩
section
variable{X:Cx}{tg:Expr}
def ZY(ta:TA):TI:=λσ H R=>ta σ H λvs H1=>∃i:Int,vs=[.int i,.int (-1),.int (-1)]∧(-1≤i∧i<2^61)∧R (vR i (i+1).toNat) H1
theorem ZZ{aJ:List (Addr×Obj)}{σ:St}{R:It→Hp→Prop}{E:QV}{t u v:Tok}{tk:Nat}(I:Inv X aJ σ H s)(h1:-1≤i)(h2:i<2^61)(q:R (vR i (i+1).toNat) H) :
  wpAny (model X.prog X.w) X.A (pyIter (.ref s.heap.objs.size)) (Fv X aJ σ tg R) E { s with heap:=s.heap.push { cls:=.type "range",data:=.fields #[.int i t,.int (-1) u,.int (-1) v] },toks:=tk }:=by
 refine wpAny_pyIter_range (IsRange.new ..) (small_down h1 h2) ?_;have I1:Inv X aJ σ H { s with heap:=s.heap.push { cls:=.type "range",data:=.fields #[.int i t,.int (-1) u,.int (-1) v] },toks:=tk }:=I.kept λb o e=>dD _ e;generalize s.heap.push { cls:=.type "range",data:=.fields #[.int i t,.int (-1) u,.int (-1) v] }=h3 at I1 ⊢;refine⟨h3.objs.size,[h3.objs.size],_,_,H,rfl,I1.kept (t':=tk) λb o e=>dD _ e,ZX _ i (i+1).toNat,?_,λb hb=>?_,q⟩
 ·show IsRangeIter _ _ (i+((0:Nat):Int)*(-1)) ((((i+1).toNat:Nat):Int)-((0:Nat):Int)) (-1);rw[show i+((0:Nat):Int)*(-1)=i by simp,show(((i+1).toNat:Nat):Int)-((0:Nat):Int)=Builtin.Range.rangeSize i (-1) (-1) by rw[OQ h1];lia];exact gK _ rfl
 ·have e:b=h3.objs.size:=by simpa using hb
  subst e;exact I1.nU (bX _) (I1.br.fresh (bX _))
theorem Z0{a b c:Expr}{ta:TA}{p pos:Pos}(hg:Gl X "range")(hm:X.mg "range"=none)(ha:PA X [a,b,c] ta)(hs:starEach [a,b,c] X.env=(false,eval a X.env)::starEach [b,c] X.env:=by rfl)(jC:(backTo pos (starEach [b,c] X.env)).any (·.1)=false:=by rfl) :
  PI X tg (.Call (.Name "range" p) [a,b,c] [] pos) (ZY ta):=by
 intro aJ s σ H R I h;refine Call_ (rO I hg hm boot_range (AK (aZ (ha pos aJ s σ H _ I h) λus s1 ⟨vs,H1,I1,r1,q1⟩=>?_) hs jC));obtain⟨i,e,⟨q1,q2⟩,q⟩:=q1;subst e;cases r1 with
 |cons r rr=>
  cases rr with
  |cons r' rr=>
   cases rr with
   |cons r2 rr=>
    cases rr;obtain⟨t,rfl⟩:=r;obtain⟨t',rfl⟩:=r';obtain⟨t2,rfl⟩:=r2;exact call_range_3 (by decide) (ZZ I1 q1 q2 q) (Or.inl (PyProof.noPylong_small (by lia)))
end
theorem Z1{hi:Int}{g:TG}{tb:TS}{D:Ends}{σ:St}(Pv:Nat→St→Hp→Prop)(h0:Pv 0 σ H)
  (hs:∀i σ H,i<n→Pv i σ H→g (.int (hi-(i:Nat))) σ H λσ2 H2=>tb { D with nx:=Pv (i+1),ct:=Pv (i+1),bk:=D.nx } σ2 H2) (hd:∀σ H,Pv n σ H→D.nx σ H) :
  ∃W:Nat→Nat→St→Hp→Prop,(∃m,W 0 m σ H)∧∀i m σ H,W i m σ H→
   ((vR hi n).stop i H∧D.nx σ H)∨((vR hi n).go i H∧∃N:St→Hp→Prop,(∀σ' H',N σ' H'→∃m',m'<m∧W (i+1) m' σ' H')∧∀x H',(vR hi n).p6 i H x H'→g x σ H' λσ2 H2=>tb { D with nx:=N,ct:=N,bk:=D.nx } σ2 H2):=by
 refine⟨λi m σ H=>m=n-i∧i≤n∧Pv i σ H,⟨n,by simp,jq _,h0⟩,?_⟩;rintro i m σ H ⟨rfl,jg,p⟩;by_cases cX:i<n
 ·exact .inr ⟨cX,Pv (i+1),λσ' H' p'=>⟨n-(i+1),by lia,rfl,cX,p'⟩,λx H' ⟨z1,z2⟩=>by subst z1 z2;exact hs i σ _ cX p⟩
 ·have e:i=n:=by lia
  subst e;exact .inl ⟨bX _,hd σ H p⟩
def vS(cp:St)(P:Hp→List V→Prop):St→Hp→List V→Prop:=λσ H zs=>(∃o:St,o.length=1∧σ=o++cp)∧P H zs
theorem vS.mk{cp:St}{P:Hp→List V→Prop}{x:Option V}{zs:List V}(h:P H zs):vS cp P (x::cp) H zs:=⟨⟨[x],rfl,rfl⟩,h⟩
theorem Z2{cp:St}{te:TE}{Q:VK}{H1:Hp}{lo:Int}(Pv:Nat→Hp→List V→Prop)(hz:n≤sizeLine)(h0:Pv 0 H1 [])(cE:∀i H zs,Pv i H zs→zs.length≤i)
  (step:∀i H zs,i<n→Pv i H zs→te (some (.int (lo+(i:Nat)))::cp) H λv H5=>vS cp (Pv (i+1)) (some (.int (lo+(i:Nat)))::cp) H5 (zs++[v])) (done:∀H zs,Pv n H zs→∀p,H p=none→Q (.ref p) (upd H p (.lst zs))) :
  ∃W:Nat→Nat→St→Hp→List V→Prop,(∃m,W 0 m (List.replicate 1 none++cp) H1 [])∧kI (rR lo n) (bN 0) kH te Q W:=by
 refine⟨λi m σ H zs=>m=n-i∧i≤n∧vS cp (Pv i) σ H zs,⟨n,by simp,jq _,⟨_,by simp,rfl⟩,h0⟩,?_⟩;rintro i m σ H zs ⟨rfl,hi,⟨o,ho,rfl⟩,pv⟩;have hl:=cE _ _ _ pv;by_cases cX:i<n
 ·refine .inr ⟨cX,by lia,vS cp (Pv (i+1)),λσ2 H2 ym q=>⟨n-(i+1),by lia,rfl,cX,q⟩,λx H2 y=>?_⟩;obtain⟨z,rfl⟩:=BP ho;obtain⟨rfl,rfl⟩:=y;exact step i _ zs cX pv
 ·have e:i=n:=by lia
  subst e;exact .inl ⟨bX _,by lia,done H zs pv⟩
def fV(H H':Hp):Prop:=∀b o,H b=some o→((∃xs,o=.tup xs)∨∃ob u,o=.ja ob u)→H' b=some o
theorem fV.trans{H1 H2:Hp}(a:fV H H1)(b:fV H1 H2):fV H H2:=λc o h k=>b c o (a c o h k) k
theorem aL.tup(s:aL H H'):fV H H':=λb o h _=>s b o h
theorem fV.upd{H:Hp}{a:Addr}{o:HO}(h:∀u,H a=some u→(∃xs,u=.lst xs)∨∃aU,u=.dK aU):fV H (upd H a o):=λb u e k=>by
 have ne:b≠a:=λz=>by
  subst z;rcases h u e with⟨xs,rfl⟩|⟨aU,rfl⟩<;>rcases k with⟨_,z⟩|⟨_,_,z⟩<;>cases z
 rw[cy ne];exact e
theorem fV.lst{H:Hp}{a:Addr}{xs:List V}{o:HO}(h:H a=some (.lst xs)):fV H (L2.upd H a o):=fV.upd λu e=>.inl ⟨xs,by rw[h]at e;exact(c7 e).symm⟩
theorem fV.Z3{aU:List (Key×V)}{o:HO}(h:H a=some (.dK aU)):fV H (L2.upd H a o):=fV.upd λu e=>.inr ⟨aU,by rw[h]at e;exact(c7 e).symm⟩
theorem fV.bo{K:Frag}{xs:List V}(e:fV H H')(h:bc K H a xs):bc K H' a xs:=by
 rcases h with h|h
 ·refine .inl ?_;rcases h with h|⟨o,h⟩
  ·exact .inl (e _ _ h (.inl ⟨xs,rfl⟩))
  ·exact .inr ⟨o,e _ _ h (.inr ⟨o,_,rfl⟩)⟩
 ·exact .inr h
theorem aL.put{o:HO}(s:aL H H')(h:H a=none):aL H (L2.upd H' a o):=λb u e=>by
 rw[cy (eQ e h)];exact s b u e
structure o8(P:Program)(w:World)(K:Frag)(mg:Str→Option Value)(base:Heap)(k:Nat)(s:Shared)(H:Hp)(f:Addr)(R:List V→Hp→VK→Prop):Prop where
 here:(∃φ:Heap→Prop,H f=some (.ext φ)∧∀h,φ h→PySem.W.FnAt f h)∨∀h,K.In h→PySem.W.FnAt f h
 run:∀(A:Around)(outer:List Env)(s':Shared)(H':Hp)(vs:List V)(us:List Value)(Q:VK),dk k A→vn P w K mg base A outer s' H'→aL H H'→
  (∀c o,s.heap.get? c=some o→H c=none→H' c=none∧∃sl,s'.heap.get? c=some { o with slots:=sl })→Vals vs us→R vs H' Q→codeAny (model P w) A (.call (.ref f) ⟨us,[]⟩) (CR bj outer P w H' s' Q E0) s'
theorem o8.OR{P:Program}{w:World}{K:Frag}{mg:Str→Option Value}{base:Heap}{k:Nat}{sp:Sp}(F:bf P w K mg base bj k f fd ps sp)(G:bZ K x qual st f fd)(hb:Binds K fd ps []) :
  o8 P w K mg base k s H f (λvs H' Q=>sp vs H' Q E0):=by
 refine⟨.inr λh X=>?_,λA outer s' H' vs us Q hr e0 _ _ r q=>?_⟩
 ·obtain⟨oc,od,kV,doc,pm,an,bt,ct,lQ,rfl,lk,_⟩:=G.ex;exact⟨_,_,_,_,X _ _ lk⟩
 ·have KX:K.In s'.heap:=e0.mod.qB.keeps λb o e=>(e0.bs b o e).1;have hl:us.length=ps.length:=by rw[← r.length];exact F.len _ _ _ _ q
  have qe:=hb s' us KX (by rw[iB];exact hl);rw[iB]at qe;exact F.run A outer s' H' ⟨us,[]⟩ us vs Q E0 hr e0 qe r q
section
variable{X:Cx}{k:Nat}{f:Addr}{x:Str}{p pos:Pos}{e:Expr}{es:List Expr}{t:TA}{R:List V→Hp→VK→Prop}
theorem Z4{i:Nat}(L:o8 X.prog X.w X.K X.mg X.base k X.s₀ X.H₀ f R)(hr:dk k X.A)(hex:X.ex=[])(hN:X.N[i]?=some x)(hv:ve X.env.scope x)(ha:PA X (e::es) t)
  (hd:(x==("__debug__":Str))=false:=by decide) (gM:(x==("__classdict__":Str))=false:=by decide) (he:starEach (e::es) X.env=(false,eval e X.env)::starEach es X.env:=by rfl) (iF:(backTo pos (starEach es X.env)).any (·.1)=false:=by rfl) :
  PE X (.Call (.Name x p) (e::es) [] pos) (λσ H Q=>σ[i]?=some (some (.ref f))∧aL X.H₀ H∧t σ H λvs H1=>aL X.H₀ H1∧R vs H1 Q):=by
 intro aJ s σ H Q I ⟨hσ,sm,h⟩;have OS:∀{σ:St}{H1:Hp}{s1:Shared},Inv X aJ σ H1 s1→aL X.H₀ H1→PySem.W.FnAt f s1.heap:=λI1 j9=>by
  rcases L.here with⟨φ,hφ,xH⟩|z
  ·exact xH _ (I1.br f _ (j9 _ _ hφ)).1
  ·exact z _ I1.eR
 refine ax (aZ (L5 hN hv hd gM aJ s σ H (λv H1=>v=.ref f∧H1=H) I ⟨_,hσ,rfl,rfl⟩) λu s1 ⟨v,H1,I1,r,e1,e2⟩=>?_);subst e1 e2;cases r;refine PySem.W.callWith_F (OS I1 sm) (aZ (ha pos aJ s1 σ H1 _ I1 h) λus s2 ⟨vs,H2,I2,rv,gu,hq⟩=>⟨OS I2 gu,?_⟩) he iF;refine wpAny_call (codeAny_mono (L.run X.A X.stack s2 H2 vs us Q hr I2.Bj gu (λc o hc hn=>?_) rv hq) λr s' hq=>?_)
 ·have yT:c ∉ X.ex:=by rw[hex];simp
  exact⟨I2.base.free c o hc hn yT,I2.base.any hc hn yT⟩
 cases r with
 |error e=>exact False.elim hq
 |ok fl=>
  cases fl with
  |ret u=>exact I2.after hq
  |next=>exact False.elim hq
  |brk=>exact False.elim hq
  |cont=>exact False.elim hq
end
theorem vT(K:Frag)(hK:X.K=K){o:Expr}{to:TE}{kn gc:Pos}(ho:PE X o to)(xZ:attributeBase o "pop" X.env (eval o X.env)=eval o X.env:=by rfl)(x4:(kn.endLine==gc.line)=true:=by rfl) :
  PE X (.Call (.Attribute o "pop" kn) [] [] gc) (Br K "list" Ge to):=hK▸MJ pY PySem.F.slot_list_pop PySem.F.type_list_pop WK ho xZ x4
end L2
namespace Bw
variable{p:Int}
noncomputable def comb(c:Nat→Int)(L:LL):Fn:=λj=>dot c (col L j) L.length
theorem OT(c:Nat→Int)(L:LL):Sp p (RS L) (comb c L):=Oc c L.length (bX _)
theorem Z5{a b:Int}(h:p∣a)(k:p∣a-b):p∣b:=by
 have:=Int.dvd_sub h k
 rwa[show a-(a-b)=b by lia]at this
theorem Z6{L:LL}{ls:List Nat}{c:Nat→Int}(h1:∀(i:Nat)(r:List Int)(l:Nat),L[i]?=some r→ls[i]?=some l→r.getD l 0=1)(h2:∀(i j:Nat)(r:List Int)(l:Nat),i≠j→L[j]?=some r→ls[i]?=some l→r.getD l 0=0){i l:Nat}(hi:i<L.length)(hl:ls[i]?=some l):comb c L l=c i:=by
 unfold comb dot;rw[yG hi,vK λk hk=>?_]
 ·rw[Ht (cg hi),h1 i _ l (cg hi) hl];lia
 ·by_cases HR:k=i
  ·rw[af HR]
  ·rw[ag HR,Ht (cg hk),h2 i k _ l (λz=>HR z.symm) (cg hk) hl,Int.mul_zero]
theorem Z7{n:Nat}{L:LL}{r:List Int}(hp:p∈cb)(hL:bw p n L)(hr:Rw p n r)(h:¬Sp p (RS L) (fn r)):(cz p (L++[r])).length=(cz p L).length+1:=by
 have Z8:bw p n (L++[r]):=λq hq=>by
  rcases(c9.mp hq)with(h|h)
  ·exact hL q h
  ·rw[cR.mp h];exact hr
 have RL:=gP hp hL;have RM:=gP hp Z8;obtain⟨ls,E⟩:=RL.ic;obtain⟨ms,EM⟩:=RM.ic;have t:∀{P Q:LL},(∀r∈P,Sp p (RS Q) (fn r))→∀{v:Fn},Sp p (RS P) v→Sp p (RS Q) v:=λh v hv=>hv.trans λf hf=>by
  obtain⟨r,hr,rfl⟩:=hf;exact h r hr
 have up:(cz p (L++[r])).length≤(cz p L).length+1:=by
  have:=B6 hp ((cz p L++[r]).map fn) _ (EM.Og hp) λx hx=>by
   obtain⟨q,hq,e⟩:=cY.mp (qx hx).1;rw[← e];refine Oe.mp (t (λs hs=>?_) (RM.sub q hq));rcases(c9.mp hs)with(h|h)
   ·exact(RL.sup s h).trans λf ⟨d,hd,e⟩=>.mem ⟨d,by simp[hd],e⟩
   ·exact .mem ⟨s,by simp[cR.mp h],rfl⟩
  have e:((cz p (L++[r])).map fn |>.zip ms).length=(cz p (L++[r])).length:=by simp[EM.len]
  rw[e]at this;simpa using this
 have w1:∃j,¬p∣fn r j-comb (λi=>fn r (ls.getD i 0)) (cz p L) j:=by
  apply Fc;intro hn;refine h (t RL.sub (.eC (OT (λi=>fn r (ls.getD i 0)) (cz p L)) λj=>?_))
  have:=Fc λz=>hn ⟨j,z⟩
  have:=Int.dvd_neg.mpr this
  rwa[Int.neg_sub]at this
 obtain⟨l,hl⟩:=w1;have tw:qY p (((cz p L).map fn).zip ls++[(λj=>fn r j-comb (λi=>fn r (ls.getD i 0)) (cz p L) j,l)]):=by
  refine Oh hl (E.Og hp) λq hq=>?_;obtain⟨i,hi,e⟩:=mz.mp (qx hq).2;have ub:=cg hi;rw[e]at ub;show p∣fn r q.2-comb (λi=>fn r (ls.getD i 0)) (cz p L) q.2;rw[Z6 (λi r l a b=>(E.one i r l a b).1) (λi j r l cM a b=>E.alone i j r l cM a b) (by rw[← E.len];exact hi) ub,cW,ub];exact⟨0,by simp⟩
 have dn:(cz p L).length+1≤(cz p (L++[r])).length:=by
  have:=B6 hp ((cz p (L++[r])).map fn) _ tw λx hx=>by
   refine Oe.mp ?_;have sL:∀q∈cz p L,Sp p (RS (cz p (L++[r]))) (fn q):=λq hq=>t RM.sup ((RL.sub q hq).trans λf ⟨d,hd,e⟩=>.mem ⟨d,by simp[hd],e⟩);rcases(c9.mp hx)with(h|h)
   ·obtain⟨q,hq,e⟩:=cY.mp (qx h).1;rw[← e];exact sL q hq
   ·rw[cR.mp h]
    have:=(RM.sup r (by simp)).plus (-1) (t sL (OT (p:=p) (λi=>fn r (ls.getD i 0)) (cz p L)))
    exact this.of_eq λj=>by rw[Int.neg_mul,qz];rfl
  simpa[E.len]using this
 lia
structure vU(p:Int)(L L':LL):Prop where
 to:∀r∈L,Sp p (RS L') (fn r)
 Z9:∀r∈L',Sp p (RS L) (fn r)
section
variable{p:Int}{n:Nat}{L L' L'':LL}
theorem o9(h:∀r∈L,Sp p (RS L') (fn r)){v:Fn}(hv:Sp p (RS L) v):Sp p (RS L') v:=hv.trans λf hf=>by
 obtain⟨r,hr,rfl⟩:=hf;exact h r hr
theorem qf{r:List Int}(h:r∈L):Sp p (RS L) (fn r):=.mem ⟨r,h,rfl⟩
theorem vU.red(hp:p∈cb)(hL:bw p n L)(ub:bw p n L')(h:vU p L L'):cz p L=cz p L':=YW hp hL ub h.to h.Z9
end
end Bw
namespace S21
open PySem L2 Bw
variable{A B:Prop}{H:Hp}{d e:Dat}
noncomputable def top(i:Nat):Stmt:=PySem.Challenge.pw_bentwires_k41_compared.main.body.getD i (.Pass ⟨0,0,0,0⟩)
noncomputable abbrev yU:Stmt:=top 9
noncomputable abbrev rd:Stmt:=top 10
noncomputable abbrev yV:Stmt:=top 11
noncomputable abbrev vV:Stmt:=top 12
noncomputable abbrev Cp:Stmt:=top 13
noncomputable abbrev Cq:Stmt:=top 14
noncomputable abbrev Cr:Stmt:=top 15
noncomputable abbrev yX:Stmt:=top 16
noncomputable abbrev Ct:Stmt:=top 20
noncomputable abbrev HU:Stmt:=top 21
noncomputable abbrev Cu:Stmt:=top 22
noncomputable abbrev Cv:Stmt:=top 23
noncomputable abbrev vW:Stmt:=top 24
noncomputable abbrev HV:Stmt:=top 25
noncomputable abbrev Cw:Stmt:=top 26
noncomputable abbrev Cy:Stmt:=top 29
noncomputable abbrev jF:Stmt:=top 30
noncomputable abbrev Cz:Stmt:=top 31
noncomputable abbrev HW:Stmt:=top 32
noncomputable abbrev CA:Stmt:=top 33
noncomputable abbrev yY:Stmt:=top 34
noncomputable abbrev CB:Stmt:=top 35
noncomputable abbrev yZ:Stmt:=top 36
noncomputable abbrev y3:Stmt:=top 38
noncomputable abbrev CC:Stmt:=top 39
noncomputable abbrev HX:Stmt:=top 40
noncomputable abbrev HY:Stmt:=top 43
noncomputable abbrev rf:Stmt:=top 44
noncomputable abbrev CF:Stmt:=top 45
noncomputable abbrev CG:Stmt:=top 46
noncomputable abbrev HZ:Stmt:=top 47
noncomputable abbrev vX:Stmt:=top 48
noncomputable abbrev Ia:Stmt:=top 49
noncomputable abbrev CH:Stmt:=top 50
noncomputable abbrev Ib:Stmt:=top 51
noncomputable abbrev CI:Stmt:=top 52
noncomputable abbrev Ic:Stmt:=top 53
noncomputable abbrev Ie:Stmt:=top 54
noncomputable abbrev Ig:Stmt:=top 55
noncomputable abbrev Ih:Stmt:=top 56
noncomputable abbrev Ii:Stmt:=top 57
noncomputable abbrev Ij:Stmt:=top 58
noncomputable abbrev CJ:Stmt:=top 59
noncomputable abbrev Ik:Stmt:=top 60
noncomputable abbrev Il:Stmt:=top 61
noncomputable abbrev rg:Stmt:=top 62
structure Txt(mg:Str→Option Value):Prop where
 range:mg "range"=none
 zip:mg "zip"=none
 tuple:mg "tuple"=none
 list:mg "list"=none
 int:mg "int"=none
 bool:mg "bool"=none
 isinstance:mg "isinstance"=none
 len:mg "len"=none
 sum:mg "sum"=none
 max:mg "max"=none
 min:mg "min"=none
 enumerate:mg "enumerate"=none
 any:mg "any"=none
 all:mg "all"=none
theorem Im:bootBuiltins "max"=some (.builtin "max"):=by decide +kernel
theorem y4{r:List Int}{j:Nat}(h:j<r.length):r[j]?=some (r.getD j 0):=by
 rw[cg h,cW,cg h];rfl
theorem kc{r:List Int}{j:Nat}(h:j<r.length):(r.map V.int)[j]?=some (.int (r.getD j 0)):=by
 rw[eE,y4 h];rfl
theorem oh{c:Prop} [Decidable c] (h1:¬c→A) (h2:c→B):if(!decide c)=true then A else B:=by
 by_cases h:c
 ·exact WZ h (h2 h)
 ·rw[ae h];exact dy (h1 h)
section
variable{K:Frag}
theorem ni{RS:List V}{rs:LL}{i:Nat}{x:V}(hA:bI K H RS (rs.map cJ))(hx:RS[i]?=some x):∃r a,rs[i]?=some r∧x=.ref a∧bc K H a (r.map V.int):=by
 obtain⟨d,hd,fb⟩:=hA.get hx;rw[eE]at hd;cases e:rs[i]? with
 |none=>rw[e]at hd;cases hd
 |some r=>
  rw[e]at hd;cases hd;obtain⟨a,rfl,ha⟩:=Hd fb;exact⟨r,a,rfl,rfl,ha⟩
theorem fj{RS:List V}{rs:LL}(hA:bI K H RS (rs.map cJ)):RS.length=rs.length:=by rw[hA.length,ba]
end
theorem bc.wr{K:Frag}{a l:Addr}{ys xs:List V}{o:HO}(h:bc K H a ys)(hl:H l=some (.lst xs)):bc K (upd H l o) a ys:=by
 have ne:∀{u:HO},H a=some u→(∀zs,u≠.lst zs)→a≠l:=λe hu z=>by
  rw[z,hl]at e;exact hu xs (c7 e).symm
 rcases h with(h|⟨o',h⟩)|h
 ·refine .inl (.inl ?_);rw[cy (ne h λ_ z=>nomatch z)];exact h
 ·refine .inl (.inr ⟨o',?_⟩);rw[cy (ne h λ_ z=>nomatch z)];exact h
 ·exact .inr h
theorem bI.wr{K:Frag}{H:Hp}{l:Addr}{xs:List V}{o:HO}(hl:H l=some (.lst xs)):∀{RS:List V}{rs:LL},bI K H RS (rs.map cJ)→bI K (upd H l o) RS (rs.map cJ)
 |_,[],h=>by cases h;exact .nil
 |_,r::rs,h=>by
  cases h with
  |cons h t=>
   obtain⟨a,rfl,ha⟩:=Hd h;exact .cons (lU (bc.wr ha hl)) (bI.wr hl t)
theorem bw.snoc{p:Int}{n:Nat}{L:LL}{r:List Int}(h:bw p n L)(hr:Rw p n r):bw p n (L++[r]):=λx hx=>by
 refine(c9.mp hx).elim (h x) λz=>?_;rw[cR.mp z];exact hr
theorem Io:∀n:Nat,(List.replicate n [V.int 0]).flatten=List.replicate n (V.int 0)
 |0=>rfl
 |n+1=>by rw[qy,uV,Io n];rfl
open Classical in
theorem Ip(h:d≠e)(b:A):if(if true=true then !decide (d=e)else decide (d=e))=true then A else B:=by
 simp only[if_true,ae h,Bool.not_false];exact b
open Classical in
theorem Iq(h:d≠e)(b:B):if(if false=true then !decide (d=e)else decide (d=e))=true then A else B:=by
 simp only[AN,if_false,ae h];exact b
theorem Ir{s1 s2:TS}{D:Ends}{σ:St}(J:St→Hp→Prop)(h:∀N:St→Hp→Prop,(∀σ H,J σ H→N σ H)→s1 { D with nx:=N } σ H)(hr:∀σ H,J σ H→s2 D σ H):cI s1 s2 D σ H:=h _ hr
theorem fo{H':Hp}{l:Addr}(e:aL H H')(h:H' l=none):H l=none:=by
 cases q:H l with
 |none=>rfl
 |some o=>rw[e _ _ q]at h;cases h
open Classical in
theorem Iu(h:d=e)(b:A):if(if false=true then !decide (d=e)else decide (d=e))=true then A else B:=by
 rw[YC h];exact dy b
theorem vY(rs:LL):kqdOk 8 (.tuple (rs.map cJ))=true:=by
 show(rs.map cJ).all (kqdOk 7)=true;exact NG 6 rs
theorem Iv{p:Int}{n:Nat}{L:LL}:∀k,(iu p n L k).1.length≤k∧(iu p n L k).2.length=L.length
 |0=>⟨bX _,rfl⟩
 |k+1=>by
  obtain⟨h1,h2⟩:=Iv (p:=p) (n:=n) (L:=L) k;rw[iu];unfold ua;split
  ·exact⟨by lia,h2⟩
  ·constructor
   ·show(_++[_]).length≤_;rw[bK,ba,List.length_singleton];lia
   ·show(List.map _ _).length=_;rw[ba];exact h2
theorem y6{p:Int}{n:Nat}{L:LL}(h:bw p n L):(cz p L).length≤n:=by
 by_cases cM:L=[]
 ·subst cM;exact jq _
 ·have:=(Iv (p:=p) (n:=qV L) (L:=L) (qV L)).1
  rw[B2 h cM]at this;unfold cz;rw[B2 h cM];exact this
end S21
namespace L2
open PySem PySem.Spec PyProof.Rows
section
variable{P:Program}{w:World}{K:Frag}{mg:Str→Option Value}{base:Heap}
theorem aaa{x qual:Str}{st:Stmt}{f:Addr}{fd:FuncData}{N ps:List Str}{sp:Sp}(F:bZ K x qual st f fd)(S:c8 N ps (bq st))(len:∀vs H Q E,sp vs H Q E→vs.length=ps.length)
  (o4:∀(bt:Value)(A:Around)(outer:List Env)(s:Shared)(H:Hp)(vs:List V)(Q:VK)(E:XK),sp vs H Q E→
   ∃t,jb (jy bj P w K mg base N qual (bq st) f bt A outer s H E).lL (kz st) t∧t { nx:=λ_ H'=>Q .cm H',rt:=Q } (start N vs) H):bf P w K mg base bj 0 f fd ps sp:=by
 obtain⟨oc,od,kV,doc,pm,an,bt,ct,lQ,rfl,lk,gM⟩:=F.ex;refine⟨len,λA outer s H args us vs Q E hr e0 hb r iW=>?_⟩;have hl:=len _ _ _ _ iW;have KX:K.In s.heap:=e0.mod.qB.keeps λb o e=>(e0.bs b o e).1;have tP:s.heap.NoLimit:=e0.mod.nolimit.keeps λb o e=>(e0.bs b o e).1;have xS:∀y∈ps.zip us,(bq st).names.lookup y.1=some .local∨((bq st).names.lookup y.1=some .cell∧((cellsFrom (s.heap.objs.size+1) (bq st).names []).lookup y.1).isSome=true):=λ⟨n,v⟩ hy=>by
  rcases S.par n (qx hy).1 with q|q
  ·exact .inl q
  ·exact .inr ⟨q,E8 _ _ _ (.inl q)⟩
 refine codeAny_call_function hr.depth (KX _ _ lk) rfl S.co S.gen rfl (PySem.W.codeRec_of KX gM) (hb _ _ _ _ ?_);refine ay S.kind xS λenv he s1 x=>?_;subst he;refine⟨tP.keeps x.toInCall.keep,codeAny_func ?_⟩;obtain⟨t,ht,hq⟩:=o4 bt A outer s H vs Q E iW;have I:Inv (jy bj P w K mg base N qual (bq st) f bt A outer s H E) [] (start N vs) H s1:=FV S hr.hd e0 hl r x;refine ah (ht.lL [] s1 (start N vs) H _ I hq) (λfl s' hs=>?_) λe s' hs=>hs;have fin:∀{σ':St}{H':Hp}{v:V}{u:Value},Inv (jy bj P w K mg base N qual (bq st) f bt A outer s H E) [] σ' H' s'→RelV v u→Q v H'→CE outer P w H s Q u s':=
  λ{σ' H' v u} J rv q=>⟨v,H',J.os,J.bare,J.base,J.br,rv,q⟩
 cases fl with
 |ret u=>
  obtain⟨v,σ',H',J,rv,q⟩:=hs;exact fin J rv q
 |next=>
  obtain⟨σ',H',J,q⟩:=hs;exact fin (v:=V.cm) (u:=Value.none) J rfl q
 |brk=>
  obtain⟨_,_,_,q⟩:=hs;exact False.elim q
 |cont=>
  obtain⟨_,_,_,q⟩:=hs;exact False.elim q
end
end L2
namespace Bw
variable{D L T:LL}{h:List Int}{n:Nat}{p:Int}
noncomputable def gk(p:Int)(k:Nat)(h row:List Int):List Int:=fN p row (-(row.getD k 0)) h
theorem aab{k:Nat}{row:List Int}(p0:0<p)(hh:Rw p n h)(hr:Rw p n row):gk p k h row=dW p h k row:=by
 unfold gk dW;split
 ·rfl
 ·rename_i h0
  have h0:row.getD k 0=0:=by simpa using h0
  refine(yB _ p0 hr.1 hh.1).ext p0 hr λj=>?_;rw[yz _ hr.1 hh.1,h0];split
  ·have:=lW p (row.getD j 0 + -0*h.getD j 0)
   rwa[show row.getD j 0 + -0*h.getD j 0=row.getD j 0 by simp]at this ⊢
  ·rw[hr.out (by lia)];exact⟨0,by simp⟩
theorem OU{a b x:Int}(p0:0<p)(ha:a*x%p=1)(hb:b*x%p=1)(a0:0≤a)(a1:a<p)(b0:0≤b)(b1:b<p):a=b:=by
 refine NU ?_ a0 a1 b0 b1;obtain⟨u,hu⟩:=lW p (a*x);obtain⟨v,hv⟩:=lW p (b*x);rw[ha]at hu;rw[hb]at hv;exact⟨a*v-b*u,by grind⟩
theorem aac{c:Int}{k:Nat}(hp:p∈cb)(hh:Rw p n h)(h0:h.getD k 0≠0)(c0:1≤c)(c1:c<p)(hc:c*h.getD k 0%p=1):(h.map λx=>x*c%p)=dS p n h k:=by
 have p0:0<p:=by have:=eI p hp;lia
 have b:=hh.at p0 k;obtain⟨t1,t2,t3⟩:=vI hp (show 1≤h.getD k 0 by lia) b.2;have e:=OU p0 hc t3 (by lia) c1 (by lia) t2;have r1:Rw p n (h.map λx=>x*c%p):=⟨by simp[hh.1],λx hx=>by
  obtain⟨y,_,rfl⟩:=cY.mp hx;exact⟨jr _ (by lia),js _ p0⟩⟩
 refine r1.ext p0 (yD p0 hh) λj=>?_;rw[yC hh,← e];by_cases hj:j<n
 ·rw[af hj,N6 hh.1 hj];exact⟨0,by lia⟩
 ·rw[ag hj,r1.out (by lia)];exact⟨0,by simp⟩
theorem drop_zero{k:Nat}{A B:LL}{z:List Int}(I:iZ p n L k (D,A++z::B))(hz:∀j,z.getD j 0=0):iZ p n L k (D,A++B):=by
 have sub:∀r,r∈A++B→r∈A++z::B:=λr hr=>by
  rcases c9.mp hr with h|h<;>simp[h]
 refine⟨I.d,λr hr=>I.r r (sub r hr),λr hr=>I.z r (sub r hr),I.ic,λr hr=>I.sub r ?_,λr hr=>(I.sup r hr).trans λf hf=>?_⟩
 ·rcases(c9.mp hr)with(h|h)
  ·exact lG _ h
  ·exact gY _ (sub r h)
 ·obtain⟨q,hq,rfl⟩:=hf;rcases(c9.mp hq)with(h|h)
  ·exact .mem ⟨q,lG _ h,rfl⟩
  ·rcases(c9.mp h)with(h|h)
   ·exact .mem ⟨q,gY _ (lG _ h),rfl⟩
   ·rcases(dP.mp h)with(rfl|h)
    ·exact Sp.zero.of_eq λj=>(hz j).symm
    ·exact .mem ⟨q,gY _ (gY _ h),rfl⟩
theorem iZ.skip{k:Nat}(I:iZ p n L k (D,T))(h:∀r∈T,r.getD k 0=0):iZ p n L (k+1) (D,T):=by
 obtain⟨ls,E⟩:=I.ic;exact⟨I.d,I.r,λr hr j hj=>by
  by_cases e:j=k
  ·subst e;exact h r hr
  ·exact I.z r hr j (by lia),⟨ls,E.len,E.up,λl hl=>Nat.lt_succ_of_lt (E.lt l hl),E.one,E.alone⟩,I.sub,I.sup⟩
theorem iZ.head{k i:Nat}(hp:p∈cb)(hk:k<n)(I:iZ p n L k (D,T))(hi:T[i]?=some h)(h0:h.getD k 0≠0)(hf:∀j q,j<i→T[j]?=some q→q.getD k 0=0) :
  iZ p n L (k+1) (D.map (dW p (dS p n h k) k)++[dS p n h k],(T.eraseIdx i).map (dW p (dS p n h k) k)):=by
 have p0:0<p:=by have:=eI p hp;lia
 have il:=(dz.mp hi).1;have hT:T=T.take i++h::T.drop (i+1):=by
  have hd:T.drop i=h::T.drop (i+1):=by rw[List.drop_eq_getElem_cons il,(dz.mp hi).2]
  rw[← hd,List.take_append_drop]
 have CK:Rw p n h:=I.r h (da hi);have Iw:T.filter (λr=>r.getD k 0≠0)=h::(T.drop (i+1)).filter λr=>r.getD k 0≠0:=by
  rw(occs:=.pos [1]) [hT];rw[AR,Fd (by simpa using h0),List.filter_eq_nil_iff.mpr]
  ·rfl
  ·intro q hq;obtain⟨j,hj,rfl⟩:=mz.mp hq;have vM:j<i:=by rw[cH]at hj;lia
   have:=hf j _ vM (by rw[cg (by lia)])
   rw[List.getElem_take];simpa using this
 have S:=N0 hp (show k+1≤n by lia) I;unfold ua at S;dsimp only at S;rw[Iw]at S;dsimp only at S;have j5:=yD (place:=k) p0 CK;have b:=CK.at p0 k;obtain⟨t1,t2,t3⟩:=vI hp (show 1≤h.getD k 0 by lia) b.2;have zc:∀j,(dW p (dS p n h k) k h).getD j 0=0:=λj=>by
  unfold dW;rw[af h0,yz _ CK.1 j5.1];split
  ·rename_i hj
   apply Int.emod_eq_zero_of_dvd;rw[yC CK,af hj];obtain⟨u,hu⟩:=lW p (h.getD j 0*dC p (h.getD k 0));obtain⟨v,hv⟩:=lW p (dC p (h.getD k 0)*h.getD k 0);rw[t3]at hv;exact⟨h.getD j 0*v-h.getD k 0*u,by grind⟩
  ·rfl
 have e1:(T.eraseIdx i).map (dW p (dS p n h k) k)=(T.take i).map (dW p (dS p n h k) k)++(T.drop (i+1)).map (dW p (dS p n h k) k):=by
  rw[List.eraseIdx_eq_take_drop_succ,dE]
 have e2:T.map (dW p (dS p n h k) k)=(T.take i).map (dW p (dS p n h k) k)++dW p (dS p n h k) k h::(T.drop (i+1)).map (dW p (dS p n h k) k):=by
  rw(occs:=.pos [1]) [hT];rw[dE,kj]
 rw[e2]at S;rw[e1];exact drop_zero S zc
theorem iZ.start(hL:bw p n L):iZ p n L 0 ([],L):=
 ⟨λr hr=>(nomatch hr),hL,λr _ j hj=>absurd hj (by lia),⟨[],rfl,.nil,by simp,by simp,by simp⟩,λr hr=>.mem ⟨r,hr,rfl⟩,λr hr=>.mem ⟨r,hr,rfl⟩⟩
theorem iZ.done(hp:p∈cb)(hL:bw p n L)(I:iZ p n L n (D,T)):D=cz p L:=by
 have sup:∀r∈L,Sp p (RS D) (fn r):=λr hr=>(I.sup r hr).trans λf hf=>by
  obtain⟨r0,h0,rfl⟩:=hf;rcases(c9.mp h0)with(h0|h0)
  ·exact .mem ⟨r0,h0,rfl⟩
  ·exact(Sp.zero).of_eq λj=>(N3 (I.r r0 h0) (I.z r0 h0) j).symm
 have R:=gP hp hL;obtain⟨ls,E⟩:=I.ic;obtain⟨ms,EM⟩:=R.ic;exact E.unique hp EM I.d R.rws (λr hr=>o9 R.sup (I.sub r (lG _ hr))) (λr hr=>o9 sup (R.sub r hr))
theorem iZ.len{p:Int}{n k:Nat}{L D T:LL}(I:iZ p n L k (D,T))(hk:k≤n):D.length≤k:=by
 obtain⟨ls,E⟩:=I.ic
 have:=Y7 (n:=k) E.up E.lt
 have e:ls.length=D.length:=E.len;lia
section
variable{p:Int}{n:Nat}
end
end Bw
namespace S21
open PySem L2 Bw
variable{f fA:Addr}{fd kd:FuncData}
theorem OV:(["number","more","factor","p"]:List Str).Nodup:=by decide +kernel
def OW:Sp:=λvs H Q _=>∃p n:Int,vs=[.int p,.int n]∧2≤p∧p≤97∧Q (.int (dC p n)) H
def CL(K:Frag):Sp:=λvs H Q _=>∃(p f:Int)(a b:Addr)(r o:List Int),vs=[.int p,.ref a,.int f,.ref b]∧2≤p∧p≤97∧-1000≤f∧f≤1000∧bc K H a (r.map V.int)∧bc K H b (o.map V.int)∧r.length=o.length∧r.length≤1000∧
 ib K H ((fN p r f o).map V.int) Q
def OX(K:Frag):Sp:=λvs H Q _=>∃(p n:Int)(a b:Addr)(b1 b2:Bool)(RS:List V)(rs:LL)(fs:List Int),vs=[.int p,.ref a,.ref b,.int n]∧2≤p∧p≤97∧0≤n∧n≤1000∧
 Sq b1 K H a RS∧bI K H RS (rs.map cJ)∧Sq b2 K H b (fs.map V.int)∧rs.length=fs.length∧rs.length≤1000∧(∀r∈rs,r.length=n.toNat)∧(∀f∈fs,0≤f∧f<p)∧
 ib K H ((j4 p (rs.zip fs) (List.replicate n.toNat 0)).map V.int) Q
theorem CM:c8 ["p","number","power","step"] ["p","number"] (bq yU):=dv rfl rfl rfl (by decide +kernel) rfl
theorem aad(F:bZ K "turned" "turned" yU f fd)(T:Txt mg):bf P w K mg base bj 1 f fd ["p","number"] OW:=by
 refine F.ok CM (λvs H Q E h=>?_) (λbt A outer s H vs Q E hr h=>?_)
 ·obtain⟨p,n,rfl,_⟩:=h;rfl
 ·obtain⟨p,n,rfl,p2,iI,k⟩:=h;refine⟨_,aX (bH (i:=2) CM.nd rfl (.inl rfl) aR) (aX (jw jR rfl (vk rfl T.range (aK (aV jU (pv 0) aR) aM)) (cj (i:=3) CM.nd rfl (.inl rfl)) (bg (bH (i:=2) CM.nd rfl (.inl rfl) (aV ft (aV xP (pv 2) (pv 1)) (pv 0))))) (bg (bY (pv 2)))),?_⟩;refine⟨_,rfl,_,_,rfl,rfl,p-2,rfl,by lia,by lia,xO (n:=(p-2).toNat) (λi σ H'=>H'=H∧∃st,σ=[some (.int p),some (.int n),some (.int (tY p n i)),st]) ⟨rfl,none,rfl⟩ ?_ ?_⟩
  ·rintro i σ H' hi ⟨rfl,st,rfl⟩;have hb:=YN (n:=n) p2 i;exact⟨_,rfl,_,rfl,_,_,rfl,rfl,.inl ⟨by lia,by lia⟩,_,rfl,_,_,rfl,rfl,by lia,rfl,_,rfl⟩
  ·rintro σ H' ⟨rfl,st,rfl⟩;exact⟨_,rfl,k⟩
theorem scA:c8 ["p","row","factor","other"] ["p","row","factor","other"] (bq rd):=dv rfl rfl rfl (by decide +kernel) rfl
theorem OY(F:bZ K "added" "added" rd f fd)(T:Txt mg):bf P w K mg base bj 0 f fd ["p","row","factor","other"] (CL K):=by
 refine aaa F scA (λvs H Q E h=>?_) (λbt A outer s H vs Q E h=>?_)
 ·obtain⟨p,f,a,b,r,o,rfl,_⟩:=h;rfl
 ·obtain⟨p,fc,a,b,r,o,rfl,p2,iI,f0,f1,ha,hb,hl,hz,k⟩:=h;refine⟨_,bg (bY (fw (lV K rfl) rfl T.tuple jY (aK (mY (N:=["number","more","factor","p"]) (own:=2) (caps:=[2,0]) rfl (NJ K rfl false false rfl T.zip (aK (pv 1) (aK (pv 3) aM))) (show dR ["p","row","factor","other"] (bq rd) ["number","more","factor","p"] 2 [2,0] _ from .mk' (by decide +kernel)) (λ_ _ _ _ _=>yu (n:=2) K rfl rfl (dJ (cj (i:=0) OV rfl (.inl rfl)) (dJ (cj (i:=1) OV rfl (.inl rfl)) jT))) (λ_ _ _ _ _=>gz) (λ_ _ _ _ _=>aV ft (aV eB (pv 0) (aV xP (pv 2) (pv 1))) (pv 3))) aM))),?_⟩
  have ext:(fN p r fc o).length=r.length:=by simp[fN,hl]
  refine⟨_,rfl,_,rfl,a,b,rfl,⟨_,ha⟩,⟨_,hb⟩,Yx (b1:=false) (b2:=false) (cp:=[some (.int fc),some (.int p)]) (λi H' zs=>zs=((fN p r fc o).take i).map V.int) ha hb (by simp[hl]) (by rw[ba];exact Nat.le_of_lt (Gm hz)) rfl (λi H' zs e=>by subst e;rw[ba,cH];lia) (λi H1 H2 zs _ e=>e) ?_ ?_⟩
  ·rintro i x y H' zs hx hy sm rfl;rw[eE]at hx hy;cases e1:r[i]? with
   |none=>rw[e1]at hx;cases hx
   |some u=>
    cases e2:o[i]? with
    |none=>rw[e2]at hy;cases hy
    |some v=>
     rw[e1]at hx;rw[e2]at hy;cases hx;cases hy;refine jZ ?_;refine⟨_,rfl,_,rfl,_,rfl,_,_,rfl,rfl,.inl ⟨by lia,by lia⟩,_,_,rfl,rfl,_,rfl,_,_,rfl,rfl,by lia,⟨[_,_],rfl,rfl⟩,sm,?_⟩;have e3:(fN p r fc o)[i]?=some ((u+fc*v)%p):=by
      unfold fN;rw[List.getElem?_zipWith,e1,e2]
     rw[gq,e3];simp
  ·rintro H' zs sm rfl q hq;rw[ba,lH (by lia)];refine⟨q,_,rfl,.inl ⟨.of aQ,λl hl=>?_⟩⟩;exact k _ _ ((sm.trans (.upd hq)).trans (.upd hl)) (.of aQ)
theorem aae(F:bZ K "added" "added" rd f fd)(T:Txt mg):bf P w K mg base bj 1 f fd ["p","row","factor","other"] (CL K):=(OY F T).mono (by decide)
theorem OZ(p:Int)(r:List Int)(f:Int):∀(L:List (List Int×Int))(t:List Int),j4 p (L++[(r,f)]) t=fN p (j4 p L t) f r
 | [],t=>rfl
 |(r',f')::L,t=>by
  rw[tu,j4,j4];exact OZ p r f L _
theorem O0{p:Int}{n:Nat}:∀(L:List (List Int×Int))(t:List Int),(∀q∈L,q.1.length=n)→t.length=n→(j4 p L t).length=n
 | [],t,_,h=>h
 |(r,f)::L,t,h,ht=>by
  rw[j4];refine O0 L _ (λq hq=>h q (gp _ hq)) ?_
  have:=h (r,f) dN
  simp only at this;simp[fN,ht,this]
theorem y8:c8 ["p","rows","factors","length","total","row","factor"] ["p","rows","factors","length"] (bq yV):=dv rfl rfl rfl (by decide +kernel) rfl
theorem aaf(F:bZ K "summed" "summed" yV f fd)(T:Txt mg)(FA:bZ K "added" "added" rd fA kd)(bA:Binds K kd ["p","row","factor","other"] [])(mA:Mg mg "added" fA) :
  bf P w K mg base bj 1 f fd ["p","rows","factors","length"] (OX K):=by
 have GA:bf P w K mg base bj 0 fA kd ["p","row","factor","other"] (CL K):=OY FA T;refine F.ok y8 (λvs H Q E h=>?_) (λbt A outer s H vs Q E hr h=>?_)
 ·obtain⟨p,n,a,b,b1,b2,RS,rs,fs,rfl,_⟩:=h;rfl
 ·obtain⟨p,n,a,b,b1,b2,RS,rs,fs,rfl,p2,iI,n0,n1,jA,hA,ia,hl,hz,Iy,Iw,k⟩:=h;refine⟨_,aX (bH (i:=4) y8.nd rfl (.inl rfl) (aV (tW K rfl) (fu (aK aR aM)) (pv 3))) (aX (jw jR rfl (NJ K rfl b1 b2 rfl T.zip (aK (pv 1) (aK (pv 2) aM))) (yu (n:=2) K rfl rfl (dJ (cj (i:=5) y8.nd rfl (.inl rfl)) (dJ (cj (i:=6) y8.nd rfl (.inl rfl)) jT))) (bg (bH (i:=4) y8.nd rfl (.inl rfl) (ck GA hr rfl mA FA.kp bA .nil cu (aK (pv 0) (aK (pv 4) (aK (pv 6) (aK (pv 5) aM)))))))) (bg (bY (pv 4)))),?_⟩;refine⟨by decide,λq hq=>⟨_,rfl,q,n,_,rfl,rfl,.of aQ,by simp,by lia,by lia,?_,λt H1 j9 ht=>?_⟩⟩
  ·have:(1000:Nat)≤sizeLine:=by decide
   show 1*n.toNat≤sizeLine;lia
  have Iz:aL H H1:=(aL.upd hq).trans j9;have CN:RS.length=(fs.map V.int).length:=by rw[hA.length,ba,ba];exact hl
  have e0:(List.replicate n.toNat [V.int 0]).flatten=(List.replicate n.toNat (0:Int)).map V.int:=by
   rw[xv];induction n.toNat with
   |zero=>rfl
   |succ m ih=>rw[qy,uV,ih,qy];rfl
  refine⟨_,rfl,_,rfl,a,b,rfl,⟨_,Iz.sq jA⟩,⟨_,Iz.sq ia⟩,Yy (b1:=b1) (b2:=b2) (λi σ H'=>aL H H'∧∃t y9 lO,σ=[some (.int p),some (.ref a),some (.ref b),some (.int n),some (.ref t),y9,lO]∧bc K H' t ((j4 p ((rs.zip fs).take i) (List.replicate n.toNat 0)).map V.int)) CN ⟨Iz,t,none,none,rfl,by rw[e0]at ht;exact ht⟩ (λi σ H' ⟨sm,_⟩=>⟨sm.sq jA,sm.sq ia⟩) (λi σ H1 H2 s12 ⟨sm,t,y9,lO,e,ht⟩=>⟨sm.trans s12,t,y9,lO,e,s12.bo ht⟩) ?_ ?_⟩
  ·rintro i x y σ H' hx hy ⟨sm,t,y9,lO,rfl,ht⟩;obtain⟨d,hd,fb⟩:=hA.get hx;rw[eE]at hd hy;cases e1:rs[i]? with
   |none=>rw[e1]at hd;cases hd
   |some r=>
    cases e2:fs[i]? with
    |none=>rw[e2]at hy;cases hy
    |some fc=>
     rw[e1]at hd;rw[e2]at hy;cases hd;cases hy;obtain⟨ra,rfl,fe⟩:=Hd fb;have nj:=Iy r (da e1);have uf:=Iw fc (da e2);have CO:(j4 p ((rs.zip fs).take i) (List.replicate n.toNat 0)).length=n.toNat:=O0 _ _ (λq hq=>Iy q.1 (qx (nQ hq)).1) (by simp);refine⟨_,rfl,_,rfl,_,rfl,_,rfl,p,fc,t,ra,_,r,rfl,p2,iI,by lia,by lia,ht,sm.bo fe,by rw[CO,nj],by rw[CO];lia,λt' H2 gu ug=>?_⟩;refine⟨sm.trans gu,t',_,_,rfl,?_⟩;have e3:(rs.zip fs)[i]?=some (r,fc):=by rw[List.getElem?_zip_eq_some];exact⟨e1,e2⟩
     rw[gq,e3];show bc K H2 t' ((j4 p ((rs.zip fs).take i++[(r,fc)]) _).map V.int);rw[OZ];exact ug
  ·rintro σ H' ⟨sm,t,y9,lO,rfl,ht⟩;have e4:(rs.zip fs).length≤RS.length:=by rw[List.length_zip,hA.length,ba];lia
   rw[lH e4]at ht;exact⟨_,rfl,k _ _ sm ht⟩
theorem nd1:(["row","place"]:List Str).Nodup:=by decide +kernel
theorem O1:(["row","lead","p","place"]:List Str).Nodup:=by decide +kernel
def IA(K:Frag):Sp:=λvs H Q _=>∃(p:Int)(a b:Addr)(r o:List Int)(i:Int)(j:Nat),vs=[.int p,.ref a,.ref b,.int i]∧i=j∧2≤p∧p≤97∧bc K H a (r.map V.int)∧bc K H b (o.map V.int)∧r.length=o.length∧j<r.length∧r.length≤1000∧
 (∀x∈r,0≤x∧x<p)∧ib K H ((dW p o j r).map V.int) Q
def so(K:Frag):Sp:=λvs H Q _=>∃(p:Int)(a:Addr)(b:Bool)(RS:List V)(rs:LL)(n:Nat),vs=[.int p,.ref a]∧p∈cb∧Sq b K H a RS∧bI K H RS (rs.map cJ)∧rs.length≤1000∧n≤1000∧bw p n rs∧
 ∀t H' DS,aL H H'→bc K H' t DS→bI K H' DS ((cz p rs).map cJ)→Q (.ref t) H'
theorem scC:c8 ["p","row","lead","place"] ["p","row","lead","place"] (bq Cq):=dv rfl rfl rfl (by decide +kernel) rfl
theorem aag(F:bZ K "cleared" "cleared" Cq f fd)(T:Txt mg)(FA:bZ K "added" "added" rd fA kd)(bA:Binds K kd ["p","row","factor","other"] [])(mA:Mg mg "added" fA) :
  bf P w K mg base bj 2 f fd ["p","row","lead","place"] (IA K):=by
 have GA:bf P w K mg base bj 1 fA kd ["p","row","factor","other"] (CL K):=aae FA T;refine F.ok scC (λvs H Q E h=>?_) (λbt A outer s H vs Q E hr h=>?_)
 ·obtain⟨p,a,b,r,o,i,j,rfl,_⟩:=h;rfl
 ·obtain⟨p,a,b,r,o,i,j,rfl,rfl,p2,iI,ha,hb,hl,hj,hz,IC,k⟩:=h;refine⟨_,bg (bY (Fp (cC oZ (bh (cT K rfl) (pv 1) (pv 3) (λ_ _=>rfl)) aR (cx _)) (ck GA hr rfl mA FA.kp bA .nil cu (aK (pv 0) (aK (pv 1) (aK (rT rV (bh (cT K rfl) (pv 1) (pv 3) (λ_ _=>rfl))) (aK (pv 2) aM))))) (pv 1))),?_⟩;have hx:=IC _ (da (y4 hj));refine⟨_,rfl,_,rfl,a,_,(j:Int),_,rfl,rfl,ha,bu (kc hj),rfl,_,rfl,oh (λcM=>?_) (λheq=>?_)⟩
  ·have ID:r.getD j 0≠0:=λz=>cM (aj V.int z);refine⟨_,rfl,_,rfl,_,rfl,_,rfl,a,_,(j:Int),_,rfl,rfl,ha,bu (kc hj),_,rfl,_,rfl,p,-(r.getD j 0),a,b,r,o,rfl,p2,iI,by lia,by lia,ha,hb,hl,hz,?_⟩;unfold dW at k;rw[af ID]at k;exact k
  ·have aah:r.getD j 0=0:=V.int.inj heq;unfold dW at k;rw[ag (λz=>z aah)]at k;exact⟨_,rfl,k.old ha⟩
noncomputable abbrev nD:List Str:=["p","rows","done","rest","length","place","heads","lead"]
theorem rh:c8 ["p","rows","done","rest","length","place","heads","lead"] ["p","rows"] (bq vV):=dv rfl rfl rfl (by decide +kernel) rfl
theorem O2{H:Hp}{l la:Addr}{XS:List V}{xs:LL}{p:Int}{n place:Nat}{lead:List Int}{Q:VK}{te:TE}(p2:2≤p)(iI:p≤97)(hl:di K H l XS)(hA:bI K H XS (xs.map cJ))(hx:bw p n xs)(hz:xs.length≤1000)(hn:n≤1000)(hp:place<n)(ke:lead.length=n)(jG:bc K H la (lead.map V.int))
  (za:∀(x:Addr)(H1:Hp)(R:VK),IA K [.int p,.ref x,.ref la,.int (0+(place:Int))] H1 R (λ_ _ _=>False)→te [some (.ref x),some (.ref la),some (.int p),some (.int (0+(place:Int)))] H1 R)
  (done:∀H' zs,aL H H'→bI K H' zs ((xs.map (dW p lead place)).map cJ)→∀q,H' q=none→Q (.ref q) (upd H' q (.lst zs))) :
  ∃W:Nat→Nat→St→Hp→List V→Prop,(∃m,W 0 m (List.replicate 1 none++[some (.ref la),some (.int p),some (.int (0+(place:Int)))]) H [])∧kI (qI K l) (bN 0) kH te Q W:=by
 refine o6 (cp:=[some (.ref la),some (.int p),some (.int (0+(place:Int)))]) (λi H' zs=>bI K H' zs (((xs.take i).map (dW p lead place)).map cJ)) hl (by rw[fj hA];exact Nat.le_of_lt (Gm hz)) .nil
  (λi H' zs h=>by rw[fj h,ba,cH];lia) ?_ ?_
 ·rintro i x H' zs fb sm h;obtain⟨r,a,hr,rfl,ha⟩:=ni hA fb;have hR:=hx r (da hr);refine jZ (za a H' _ ⟨p,a,la,r,lead,0+(place:Int),place,rfl,by lia,p2,iI,sm.bo ha,sm.bo jG,by rw[hR.1,ke],by rw[hR.1];exact hp,by rw[hR.1];exact hn,hR.2,λt H2 s2 ht=>?_⟩);refine⟨⟨[_],rfl,rfl⟩,sm.trans s2,?_⟩;rw[gq,hr];show bI K H2 _ (((xs.take i++[r]).map (dW p lead place)).map cJ);rw[dE,dE];exact(h.mono s2).append (.cons (lU ht) .nil)
 ·rintro H' zs sm h q hq;rw[fj hA,km]at h;exact done H' zs sm h q hq
def O3(K:Frag):Sp:=λvs H Q _=>∃(p:Int)(a:Addr)(r:List Int)(i:Int)(j:Nat),vs=[.int p,.ref a,.int i]∧i=j∧p∈cb∧bc K H a (r.map V.int)∧j<r.length∧r.length≤1000∧(∀x∈r,0≤x∧x<p)∧r.getD j 0≠0∧
 ib K H ((dS p r.length r j).map V.int) Q
theorem aai:c8 ["p","row","place"] ["p","row","place"] (bq Cp):=dv rfl rfl rfl (by decide +kernel) rfl
theorem aaj{fT fS:Addr}{kY gG:FuncData}(F:bZ K "led" "led" Cp f fd)(T:Txt mg)(FA:bZ K "added" "added" rd fA kd)(bA:Binds K kd ["p","row","factor","other"] [])(mA:Mg mg "added" fA)
  (FT:bZ K "turned" "turned" yU fT kY) (bT:Binds K kY ["p","number"] []) (mT:Mg mg "turned" fT) (FS:bZ K "summed" "summed" yV fS gG) (bS:Binds K gG ["p","rows","factors","length"] []) (mS:Mg mg "summed" fS) :
  bf P w K mg base bj 2 f fd ["p","row","place"] (O3 K):=by
 have GT:bf P w K mg base bj 1 fT kY ["p","number"] OW:=aad FT T;have GS:bf P w K mg base bj 1 fS gG ["p","rows","factors","length"] (OX K):=aaf FS T FA bA mA;refine F.ok aai (λvs H Q E h=>?_) (λbt A outer s H vs Q E hr h=>?_)
 ·obtain⟨p,a,r,i,j,rfl,_⟩:=h;rfl
 ·obtain⟨p,a,r,i,j,rfl,rfl,pp,ha,hj,hz,IC,cM,k⟩:=h;obtain⟨p2,iI⟩:=eI p pp;refine⟨_,bg (bY (ck GS hr rfl mS FS.kp bS .nil cu (aK (pv 0) (aK (bE (aK (pv 1) aM)) (aK (bE (aK (ck GT hr rfl mT FT.kp bT .nil cu (aK (pv 0) (aK (bh (cT K rfl) (pv 1) (pv 2) (λ_ _=>rfl)) aM))) aM)) (aK (dO (iX K rfl) rfl T.len iY (aK (pv 1) aM)) aM)))))),?_⟩;have hx:=IC _ (da (y4 hj));have rW:=vI (n:=r.getD j 0) pp (by lia) hx.2;refine⟨_,rfl,_,rfl,(by show 1≤sizeLine;decide),λl1 h1=>?_⟩;refine⟨_,rfl,_,rfl,_,rfl,a,_,(j:Int),_,rfl,rfl,(aL.upd h1).bo ha,bu (kc hj),p,r.getD j 0,rfl,p2,iI,(by show 1≤sizeLine;decide),λl2 h2=>?_⟩;have ff:aL H (upd (upd H l1 (.lst [.ref a])) l2 (.lst [.int (dC p (r.getD j 0))])):=(aL.upd h1).trans (.upd h2);refine⟨_,rfl,a,_,rfl,.inr (ff.bo ha),?_⟩;rw[ba];refine⟨p,(r.length:Int),l1,l2,true,true,[.ref a],[r],[dC p (r.getD j 0)],rfl,p2,iI,by lia,by lia,.of (by rw[cy (eQ aQ h2)];exact aQ),.cons (lU (ff.bo ha)) .nil,.of aQ,rfl,(by show 1≤1000;decide),λq hq=>by rw[cR.mp hq];rfl,λf hf=>by rw[cR.mp hf];lia,λt H6 iw ht=>?_⟩;exact k t H6 (ff.trans iw) ht
theorem uh{fT fS fC fL:Addr}{kY gG gQ kZ:FuncData}(F:bZ K "reduced" "reduced" vV f fd)(T:Txt mg)(FA:bZ K "added" "added" rd fA kd)(bA:Binds K kd ["p","row","factor","other"] [])(mA:Mg mg "added" fA)
  (FT:bZ K "turned" "turned" yU fT kY) (bT:Binds K kY ["p","number"] []) (mT:Mg mg "turned" fT) (FS:bZ K "summed" "summed" yV fS gG) (bS:Binds K gG ["p","rows","factors","length"] []) (mS:Mg mg "summed" fS)
  (FC:bZ K "cleared" "cleared" Cq fC gQ) (bC:Binds K gQ ["p","row","lead","place"] []) (mC:Mg mg "cleared" fC)
  (FL:bZ K "led" "led" Cp fL kZ) (bL:Binds K kZ ["p","row","place"] []) (mL:Mg mg "led" fL) :
  bf P w K mg base bj 3 f fd ["p","rows"] (so K):=by
 have GL:bf P w K mg base bj 2 fL kZ ["p","row","place"] (O3 K):=aaj FL T FA bA mA FT bT mT FS bS mS;have GC:bf P w K mg base bj 2 fC gQ ["p","row","lead","place"] (IA K):=aag FC T FA bA mA;refine F.ok rh (λvs H Q E h=>?_) (λbt A outer s H vs Q E hr h=>?_)
 ·obtain⟨p,a,b,RS,rs,n,rfl,_⟩:=h;rfl
 ·obtain⟨p,a,b,RS,rs,n,rfl,pp,hq,hA,hz,hn,hR,k⟩:=h;obtain⟨p2,iI⟩:=eI p pp;refine⟨_,aX (bH (i:=2) rh.nd rfl (.inl rfl) (bE aM)) (aX (bH (i:=3) rh.nd rfl (.inl rfl) (fw (yo K rfl) rfl T.list qU (aK (pv 1) aM))) (aX (bH (i:=4) rh.nd rfl (.inl rfl) (Fp (FO (pv 3) (λ_=>rfl)) (dO (iX K rfl) rfl T.len iY (aK (bh (cA K rfl) (pv 3) aR (λ_ _=>rfl)) aM)) aR)) (aX (jw jR rfl (vk rfl T.range (aK (pv 4) aM)) (cj (i:=5) rh.nd rfl (Or.inr rfl)) (aX (jX (i:=6) (N:=["row","place"]) (own:=1) (caps:=[5]) rfl rh.nd rfl rfl (ir K rfl (pv 3)) (show dR nD (bq vV) ["row","place"] 1 [5] _ from .mk' (by decide +kernel)) (λ_ _ _ _ _=>cj (i:=0) nd1 rfl (.inl rfl)) (λ_ _ _ _ _=>ya (cC oZ (bh (cT K rfl) (pv 0) (pv 1) (λ_ _=>rfl)) aR (cx _))) (λ_ _ _ _ _=>pv 0)) (bg (cN (FO (pv 6) (λ_=>rfl)) (aX (bH (i:=7) rh.nd rfl (Or.inr rfl) (ck GL hr rfl mL FL.kp bL .nil cu (aK (pv 0) (aK (bh (cA K rfl) (pv 6) aR (λ_ _=>rfl)) (aK (pv 5) aM))))) (aX (bH (i:=2) rh.nd rfl (.inl rfl) (aV dh (mY (N:=["row","lead","p","place"]) (own:=1) (caps:=[7,0,5]) rfl (ir K rfl (pv 2)) (show dR nD (bq vV) ["row","lead","p","place"] 1 [7,0,5] _ from .mk' (by decide +kernel)) (λ_ _ _ _ _=>cj (i:=0) O1 rfl (.inl rfl)) (λ_ _ _ _ _=>gz) (λ_ _ _ _ _=>ck GC hr rfl mC FC.kp bC .nil cu (aK (pv 2) (aK (pv 0) (aK (pv 1) (aK (pv 3) aM)))))) (bE (aK (pv 7) aM)))) (bg (jX (i:=3) (N:=["row","lead","p","place"]) (own:=1) (caps:=[7,0,5]) rfl rh.nd rfl rfl (ir K rfl (pv 3)) (show dR nD (bq vV) ["row","lead","p","place"] 1 [7,0,5] _ from .mk' (by decide +kernel)) (λ_ _ _ _ _=>cj (i:=0) O1 rfl (.inl rfl)) (λ_ _ _ _ _=>gz) (λ_ _ _ _ _=>ck GC hr rfl mC FC.kp bC .nil cu (aK (pv 2) (aK (pv 0) (aK (pv 1) (aK (pv 3) aM)))))))))
     df)))) (bg (bY (fw (lV K rfl) rfl T.tuple jY (aK (pv 2) aM))))))),?_⟩
  refine⟨by decide,λld hd=>⟨_,rfl,a,RS,rfl,?_,λlr rj=>?_⟩⟩
  ·cases b with
   |true=>exact .inl ((aL.upd hd).sq (b:=true) hq)
   |false=>exact .inr ((aL.upd hd).sq (b:=false) hq)
  have j9:aL H (upd (upd H ld (.lst [])) lr (.lst RS)):=(aL.upd hd).trans (.upd rj);have g1:(upd (upd H ld (.lst [])) lr (.lst RS)) ld=some (.lst []):=by rw[cy (eQ aQ rj)];exact aQ
  have g2:(upd (upd H ld (.lst [])) lr (.lst RS)) lr=some (.lst RS):=aQ;generalize upd (upd H ld (.lst [])) lr (.lst RS)=H1 at j9 g1 g2 ⊢;have O4:=hA.mono j9;have cE:RS.length=rs.length:=fj hA;refine⟨_,rfl,!RS.isEmpty,.inl ⟨RS,.of g2,rfl⟩,?_⟩;by_cases cM:rs=[]
  ·subst cM;have e0:RS=[]:=List.length_eq_zero_iff.mp cE;subst e0;refine cD ?_;refine⟨_,rfl,0,rfl,by decide,by decide,xO (n:=0) (λi σ H'=>H'=H1∧σ=[some (.int p),some (.ref a),some (.ref ld),some (.ref lr),some (.int 0),none,none,none]) ⟨rfl,rfl⟩ (λi σ H' hi=>absurd hi (by lia)) ?_⟩;rintro σ H' ⟨rfl,rfl⟩;exact⟨_,rfl,ld,_,rfl,.inl ⟨.of g1,λt ht=>k t _ [] (j9.trans (.upd ht)) (.of aQ) .nil⟩⟩
  ·have e1:qV rs=n:=B2 hR cM;have aak:0<rs.length:=List.length_pos_iff.mpr cM;have hb:(!RS.isEmpty)=true:=by
    cases RS with
    |nil=>rw[List.length_nil]at cE;lia
    |cons _ _=>rfl
   rw[hb];refine dy ?_;have O5:RS[0]?=some (RS[0]'(by lia)):=cg _;obtain⟨r0,a0,CP,ea0,ha0⟩:=ni O4 O5;have CQ:(r0.map V.int).length=n:=by rw[ba];exact(hR r0 (da CP)).1
   refine⟨_,rfl,lr,RS,0,_,rfl,rfl,.of g2,bu (j:=0) (O5.trans (aj some ea0)),a0,_,rfl,.inr ha0,?_⟩;rw[CQ];refine⟨_,rfl,(n:Int),rfl,by lia,by lia,xO (n:=n) (λi σ H'=>aL H H'∧∃dn ui DS XS s5 s6 s7,σ=[some (.int p),some (.ref a),some (.ref dn),some (.ref ui),some (.int (n:Int)),s5,s6,s7]∧H' dn=some (.lst DS)∧bI K H' DS ((iu p n rs i).1.map cJ)∧H' ui=some (.lst XS)∧bI K H' XS ((iu p n rs i).2.map cJ)) ⟨j9,ld,lr,[],RS,none,none,none,rfl,g1,.nil,g2,O4⟩ ?_ ?_⟩
   ·rintro i σ H2 hi ⟨sm,dn,ui,DS,XS,s5,s6,s7,rfl,gd,hD,gr,hX⟩;have IO:=Hj pp hR i (Nat.le_of_lt hi);have IL:=Iv (p:=p) (n:=n) (L:=rs) i;have aal:iu p n rs (i+1)=ua p n (iu p n rs i) i:=rfl;rw[aal];generalize iu p n rs i=st at hD hX IO IL ⊢;refine⟨_,rfl,ui,rfl,⟨_,.of gr⟩,o6 (cp:=[some (.int (0+(i:Int)))]) (λj H' zs=>bI K H' zs (((st.2.take j).filter λr=>r.getD i 0≠0).map cJ)) (.of gr) (by rw[fj hX,IL.2];exact Nat.le_of_lt (Gm hz)) .nil (λj H' zs h=>by rw[fj h];exact fg (List.length_filter_le _ _) (by rw[cH];lia)) ?_ ?_⟩
    ·rintro j x H' zs fb gR h;obtain⟨r,ra,IF,rfl,fe⟩:=ni hX fb;have CS:=IO.r r (da IF);have j6:i<r.length:=by rw[CS.1];exact hi
     refine⟨_,rfl,_,rfl,ra,_,(i:Int),_,rfl,aj V.int (kl _),gR.bo fe,bu (kc j6),rfl,_,rfl,oh (λID=>?_) (λheq=>?_)⟩
     ·have IG:r.getD i 0≠0:=λz=>ID (aj V.int z);refine⟨_,rfl,⟨[_],rfl,rfl⟩,gR,?_⟩;rw[gq,IF];show bI K H' _ (((st.2.take j++[r]).filter _).map cJ);rw[AR,Fd (by simpa using IG),List.filter_nil,dE];exact h.append (.cons (lU (gR.bo fe)) .nil)
     ·have IH:r.getD i 0=0:=V.int.inj heq;refine⟨⟨[_],rfl,rfl⟩,gR,?_⟩;rw[gq,IF];show bI K H' _ (((st.2.take j++[r]).filter _).map cJ);rw[AR,List.filter_cons_of_neg (by simpa using IH),List.filter_nil,iB];exact h
    rintro H3 zs gS h3 lh sr;rw[fj hX,km]at h3;have ji:aL H2 (upd H3 lh (.lst zs)):=gS.trans (.upd sr);have g4:(upd H3 lh (.lst zs)) lh=some (.lst zs):=aQ;have h4:=h3.mono (aL.upd sr (o:=.lst zs));generalize upd H3 lh (.lst zs)=H4 at ji g4 h4 ⊢;refine⟨_,rfl,!zs.isEmpty,.inl ⟨zs,.of g4,rfl⟩,?_⟩;unfold ua;generalize hf:(st.2.filter λr=>r.getD i 0≠0)=hs at h4 ⊢;cases hs with
    |nil=>
     have:zs=[]:=List.length_eq_zero_iff.mp (fj h4)
     subst this;refine cD ?_;exact⟨sm.trans ji,dn,ui,DS,XS,_,_,_,rfl,ji _ _ gd,hD.mono ji,ji _ _ gr,hX.mono ji⟩
    |cons hd tl=>
     cases zs with
     |nil=>exact absurd (fj h4) (by simp)
     |cons z zs'=>
      obtain⟨r',ha,eU,rfl,hha⟩:=ni (i:=0) (x:=z) h4 rfl;have er:hd=r':=c7 eU;subst er;refine dy ?_;have O6:hd∈st.2∧hd.getD i 0≠0:=by
       have:hd∈st.2.filter λr=>r.getD i 0≠0:=by rw[hf];exact dN
       simpa using pS.mp this
      have pd:=IO.r hd O6.1;have j6:i<hd.length:=by rw[pd.1];exact hi
      refine⟨_,rfl,_,rfl,lh,_,0,.ref ha,rfl,rfl,.of g4,bu (j:=0) rfl,_,rfl,p,ha,hd,0+(i:Int),i,rfl,kl _,pp,hha,j6,by rw[pd.1];exact hn,pd.2,O6.2,λt H6 iw ht=>?_⟩;have CT:aL H2 H6:=ji.trans iw;rw[pd.1]at ht;have ug:bc K H6 t ((dS p n hd i).map V.int):=ht;have II:=yD (place:=i) (show 0<p by lia) pd;dsimp only;generalize dS p n hd i=O7 at ug II ⊢;refine⟨_,rfl,dn,rfl,⟨_,.of (CT _ _ gd)⟩,O2 p2 iI (.of (CT _ _ gd)) (hD.mono CT) IO.d (by lia) hn hi II.1 ug (λx H1 R h=>⟨_,rfl,_,rfl,_,rfl,_,rfl,h⟩) λH8 su O8 h8 q8 hq8=>?_⟩;refine⟨_,rfl,(by show 1≤sizeLine;decide),λl9 h9=>⟨q8,l9,_,_,rfl,rfl,by rw[cy (eQ aQ h9)];exact aQ,aQ,?_,λq9 hq9=>?_⟩⟩
      ·show su.length+1≤sizeLine;rw[fj h8,ba]
       have:(1000:Nat)<sizeLine:=by decide
       lia
      have CU:aL H8 (upd (upd (upd H8 q8 (.lst su)) l9 (.lst [.ref t])) q9 (.lst (su++[.ref t]))):=((aL.upd hq8).trans (.upd h9)).trans (.upd hq9);have g9:(upd (upd (upd H8 q8 (.lst su)) l9 (.lst [.ref t])) q9 (.lst (su++[.ref t]))) q9=some (.lst (su++[.ref t])):=aQ;generalize upd (upd (upd H8 q8 (.lst su)) l9 (.lst [.ref t])) q9 (.lst (su++[.ref t]))=H9 at CU g9 ⊢;have oi:aL H2 H9:=(CT.trans O8).trans CU;have O9:=(O8.trans CU).bo ug;refine⟨_,rfl,ui,rfl,⟨_,.of (oi _ _ gr)⟩,O2 p2 iI (.of (oi _ _ gr)) (hX.mono oi) IO.r (by lia) hn hi II.1 O9 (λx H1 R h=>⟨_,rfl,_,rfl,_,rfl,_,rfl,h⟩) λHb Pa smb hb qb Pb=>?_⟩;have oj:=smb.trans (aL.upd Pb (o:=.lst Pa));refine⟨(sm.trans oi).trans oj,q9,qb,_,Pa,_,_,_,rfl,oj _ _ g9,?_,aQ,hb.mono (.upd Pb)⟩;show bI K _ _ ((st.1.map (dW p O7 i)++[O7]).map cJ);rw[dE];exact(h8.mono (CU.trans oj)).append (.cons (lU (oj.bo O9)) .nil)
   ·rintro σ H' ⟨sm,dn,ui,DS,XS,s5,s6,s7,rfl,gd,hD,gr,hX⟩;refine⟨_,rfl,dn,_,rfl,.inl ⟨.of gd,λt ht=>k t _ DS (sm.trans (.upd ht)) (.of aQ) ?_⟩⟩;unfold cz;rw[e1];exact hD.mono (.upd ht)
theorem Pc:(["place","number"]:List Str).Nodup:=by decide +kernel
def Pd(K:Frag):Sp:=λvs H Q _=>∃(a:Addr)(r:List Int)(l:Nat)(tl:List Nat),vs=[.ref a]∧bc K H a (r.map V.int)∧r.length≤2000∧qd r=l::tl∧∀H',aL H H'→Q (.int (l:Int)) H'
theorem aam:c8 ["row"] ["row"] (bq Cr):=dv rfl rfl rfl (by decide +kernel) rfl
theorem aan(F:bZ K "first_place" "first_place" Cr f fd)(T:Txt mg):bf P w K mg base bj 1 f fd ["row"] (Pd K):=by
 refine F.ok aam (λvs H Q E h=>?_) (λbt A outer s H vs Q E hr h=>?_)
 ·obtain⟨a,r,l,tl,rfl,_⟩:=h;rfl
 ·obtain⟨a,r,l,tl,rfl,hq,hz,iF,k⟩:=h;refine⟨_,bg (bY (bh (cA K rfl) (mY (N:=["place","number"]) (own:=2) (caps:=[]) rfl (Hf K rfl false rfl T.enumerate (aK (pv 0) aM)) (show dR ["row"] (bq Cr) ["place","number"] 2 [] _ from .mk' (by decide +kernel)) (λ_ _ _ _ _=>yu (n:=2) K rfl rfl (dJ (cj (i:=0) Pc rfl (.inl rfl)) (dJ (cj (i:=1) Pc rfl (.inl rfl)) jT))) (λ_ _ _ _ _=>ya (cC oZ (pv 1) aR (cx _))) (λ_ _ _ _ _=>pv 0)) aR (λ_ _=>rfl))),?_⟩
  have ex:(r.map V.int).length=r.length:=ba _;have z2:(2000:Nat)≤sizeLine:=by decide
  refine⟨_,rfl,a,rfl,⟨_,hq⟩,Ha (b:=false) (cp:=[]) (λi H' zs=>zs=((List.range i).filter λu=>r.getD u 0≠0).map λ(u:Nat)=>V.int u) hq (by rw[ex];lia) rfl (λj H' zs e=>by rw[e,ba];exact fg (List.length_filter_le _ _) (by rw[tD];exact bX _)) (λi H1 H2 zs _ e=>e) ?_ ?_⟩
  ·rintro j x H1 zs hx sm rfl;have hj:j<r.length:=by rw[← ex];exact(dz.mp hx).1
   have fb:x=.int (r.getD j 0):=by
    rw[kc hj]at hx;exact(c7 hx).symm
   subst fb;refine⟨_,rfl,rfl,_,rfl,oh (λcM=>?_) (λheq=>?_)⟩
   ·have IG:r.getD j 0≠0:=λz=>cM (aj V.int z);refine⟨_,rfl,⟨[_,_],rfl,rfl⟩,sm,?_⟩;rw[List.range_succ,AR,Fd (by simpa using IG),List.filter_nil,dE];rfl
   ·have IH:r.getD j 0=0:=V.int.inj heq;refine⟨⟨[_,_],rfl,rfl⟩,sm,?_⟩;rw[List.range_succ,AR,List.filter_cons_of_neg (by simpa using IH),List.filter_nil,iB]
  ·rintro H1 zs sm ez lp uj;rw[ex]at ez;have ez:zs=(qd r).map λ(u:Nat)=>V.int u:=ez;rw[iF]at ez;subst ez;exact⟨lp,_,0,.int (l:Int),rfl,rfl,.of aQ,bu (j:=0) rfl,k _ (sm.trans (.upd uj))⟩
noncomputable def CV:List (Str×V):=[("times",.int 1),("back",.int 1),("beside",.int 2),("then",.int 2)]
noncomputable def l6(x:Str):Nat:=if x="times"∨x="back" then 1 else if x="beside"∨x="then" then 2 else 0
theorem aao(x:Str):(PyProof.Rows.KTD.datumAt x CV).getD (.int 0)=.int (l6 x):=by
 unfold CV l6;simp only[PyProof.Rows.KTD.datumAt,aH];by_cases h1:x="times"
 ·simp[h1]
 ·by_cases h2:x="back"
  ·simp[h2]
  ·by_cases h3:x="beside"
   ·subst h3;rfl
   ·by_cases h4:x="then"
    ·subst h4;rfl
    ·simp[h1,h2,h3,h4]
theorem L7(x:Str):l6 x≤2:=by
 unfold l6;split
 ·lia
 ·split<;>lia
structure Parts(K:Frag)(mg:Str→Option Value)(aP:Addr):Prop where
 nm:mg "PARTS"=some (.ref aP)
 tab:∀h,K.In h→j8 h aP CV
theorem npt:(["part","values"]:List Str).Nodup:=by decide +kernel
structure vZ(k:Nat)(P:Program)(w:World)(K:Frag)(mg:Str→Option Value)(base:Heap)(s:Shared)(H:Hp)(Q:VK)(aw f:Addr)(ws:List V)(R:List V→Hp→VK→Prop)(G:Nat→List V→Hp→Prop):Prop where
 CW:bc K H aw ws
 len:ws.length≤900000
 fn:o8 P w K mg base k s H f R
 g0:G ws.length [] H
 mono:∀i vs H1 H2,G i vs H1→fV H1 H2→G i vs H2
 lY:∀i vs H1,G i vs H1→vs.length≤900000
 kind:∀i,i<ws.length→(∃x,ws[i]?=some (.str x))∨∃n,ws[i]?=some (.int n)
 num:∀i n vs H1,ws[i]?=some (.int n)→G (i+1) vs H1→G i (vs++[.int n]) H1
 word:∀i x vs H1,ws[i]?=some (.str x)→G (i+1) vs H1→∃du ps,vs=du++ps.reverse∧ps.length=l6 x∧
  ∀pa H2 Q',fV H1 H2→H2 pa=some (.lst ps)→(∀v H3,aL H2 H3→G i (du++[v]) H3→Q' v H3)→R [.int i,.str x,.ref pa] H2 Q'
 first:∃x,ws[0]?=some (.str x)
 fin:∀td aU vs v H',aL H H'→H' td=some (.dK aU)→dU aU (Sum.inl 0)=some v→G 0 (vs++[v]) H'→Q (.ref td) H'
def IJ(k:Nat)(P:Program)(w:World)(K:Frag)(mg:Str→Option Value)(base:Heap)(s:Shared):Sp:=λvs H Q _=>∃(aw f:Addr)(ws:List V)(R:List V→Hp→VK→Prop)(G:Nat→List V→Hp→Prop),vs=[.ref aw,.ref f]∧vZ k P w K mg base s H Q aw f ws R G
noncomputable abbrev nAf:List Str:=["words","made","told","values","place","word","parts"]
theorem v8:c8 ["words","made","told","values","place","word","parts"] ["words","made"] (bq Cu):=dv rfl rfl rfl (by decide +kernel) rfl
def WAf(K:Frag)(aw f td vl:Addr)(ws:List V)(G:Nat→List V→Hp→Prop)(H:Hp)(j:Nat)(σ:St)(H':Hp):Prop:=aL H H'∧∃(s4 s5 s6:Option V)(aU:List (Key×V))(vs:List V),
 σ=[some (.ref aw),some (.ref f),some (.ref td),some (.ref vl),s4,s5,s6]∧H' td=some (.dK aU)∧H' vl=some (.lst vs)∧aU.length≤j∧G (ws.length-j) vs H'∧
 (∀x,ws[ws.length-j]?=some (.str x)→∃du v,vs=du++[v]∧dU aU (Sum.inl ((ws.length-j:Nat):Int))=some v)
theorem uk{k:Nat}{aP:Addr}(F:bZ K "all_folded" "all_folded" Cu f fd)(T:Txt mg)(PT:Parts K mg aP):sk P w K mg base (k+1) f fd ["words","made"] (IJ k P w K mg base):=by
 refine F.lZ v8 (λs vs H Q E h=>?_) (λbt A outer s H vs Q E hr h=>?_)
 ·obtain⟨aw,f,ws,R,G,rfl,_⟩:=h;rfl
 ·obtain⟨aw,fm,ws,R,G,rfl,D⟩:=h;have hu:=hr.units;have lj:=By hr;refine⟨_,aX (bH (i:=2) v8.nd rfl (.inl rfl) Zi) (aX (bH (i:=3) v8.nd rfl (Or.inr rfl) (bE aM)) (aX (jw jR rfl (Z0 rfl T.range (aK (aV jU (dO (iX K rfl) rfl T.len iY (aK (pv 0) aM)) aR) (aK (rT rV aR) (aK (rT rV aR) aM)))) (cj (i:=4) v8.nd rfl (.inl rfl)) (aX (bH (i:=5) v8.nd rfl (.inl rfl) (bh (cT K rfl) (pv 0) (pv 4) (λ_ _=>rfl))) (bg (cN (ju (dO (G6 (T := "int")) rfl T.isinstance n8 (aK (pv 5) (aK (qT rfl T.int yv) aM)))) (bg (jv (p8 pY tH tI qM (pv 3) (aK (pv 5) aM)))) (aX (jX (N:=["part","values"]) (own:=1) (caps:=[3]) (i:=6) rfl v8.nd rfl rfl (vk rfl T.range (aK (ZW PT.tab (lK (v:=.ref _) rfl PT.nm rfl) (pv 5) aR ⟨rfl,rfl,rfl,rfl⟩) aM)) (show dR nAf (bq Cu) ["part","values"] 1 [3] _ from .mk' (by decide +kernel)) (λ_ _ _ _ _=>cj (i:=0) npt rfl (.inl rfl)) (λ_ _ _ _ _=>gz) (λ_ _ _ _ _=>vT K rfl (pv 1))) (aX (Cc lj (pv 2) (pv 4) (by exact Z4 (i:=1) D.fn hr rfl rfl (.inl rfl) (aK (pv 4) (aK (pv 5) (aK (pv 6) aM)))) rfl) (bg (jv (p8 pY tH tI qM (pv 3) (aK (yN lj (pv 2) (pv 4) (λ_ _=>rfl)) aM)))))))))) (bg (bY (pv 2))))),?_⟩
  have hz:(1000000:Nat)≤sizeLine:=by decide
  have hl:=D.len;intro td CY;refine⟨(by show 0≤sizeLine;lia),λvl zb=>?_⟩;have zd:vl≠td:=λz=>by rw[z,aQ]at zb;cases zb
  have IK:H vl=none:=by rw[cy zd]at zb;exact zb
  have s2:aL H (upd (upd H td (.dK [])) vl (.lst [])):=(aL.upd CY).trans (.upd zb);refine⟨_,rfl,aw,ws,rfl,.inr (s2.bo D.CW),_,_,rfl,rfl,_,rfl,_,rfl,_,rfl,⟨by lia,by lia⟩,?_⟩;have en:((ws.length:Int)-1+1).toNat=ws.length:=by lia
  rw[en];refine Z1 (WAf K aw fm td vl ws G H) ⟨s2,none,none,none,[],[],rfl,?_,aQ,jq _,D.mono _ _ _ _ D.g0 s2.tup,λx hx=>?_⟩ ?_ ?_
  ·rw[cy (Ne.symm zd)];exact aQ
  ·rw[Nat.sub_zero,lI (bX _)]at hx;cases hx
  ·rintro j σ H' hj ⟨sm,s4,s5,s6,aU,vs,rfl,CZ,wc,hk,hG,_⟩;obtain⟨i,hi⟩:∃i,ws.length=i+1+j:=⟨ws.length-1-j,by lia⟩;have e1:(ws.length:Int)-1-(j:Nat)=((i:Nat):Int):=by lia
   have e2:ws.length-j=i+1:=by lia
   have e3:ws.length-(j+1)=i:=by lia
   rw[e1];rw[e2]at hG;have Gb:=D.lY _ _ _ hG;rcases D.kind i (by lia)with⟨x,hx⟩|⟨n,hx⟩
   ·obtain⟨du,ps,rfl,we,aap⟩:=D.word i x vs H' hx hG;refine⟨_,rfl,_,rfl,aw,_,((i:Nat):Int),_,rfl,rfl,sm.bo D.CW,bu (j:=i) hx,?_⟩;refine⟨_,rfl,.str x,.type "str",false,rfl,.str x,Hc K,false,rfl,cD ?_⟩;have hpc:=L7 x;refine⟨rfl,_,rfl,x,rfl,((l6 x:Nat):Int),by rw[aao],by lia,by lia,?_⟩;refine Z2 (cp:=[some (.ref vl)]) (n:=l6 x) (lo:=0) (λk Hx zs=>zs=ps.take k∧Hx vl=some (.lst (du++(ps.drop k).reverse))∧∀b,b≠vl→Hx b=H' b) (by lia) ⟨rfl,wc,λ_ _=>rfl⟩ (λk Hx zs h=>by rw[h.1];exact uZ _ _) ?_ ?_
    ·rintro k Hx zs ip ⟨rfl,h1,h2⟩;have cX:k<ps.length:=by lia
     have ex:du++(ps.drop k).reverse=(du++(ps.drop (k+1)).reverse)++[ps[k]]:=by rw[List.drop_eq_getElem_cons cX,List.reverse_cons,i9]
     rw[ex]at h1;refine⟨_,rfl,.inl ⟨rfl,_,.of h1⟩,vl,_,ps[k],rfl,rfl,h1,by simp,vS.mk ⟨?_,?_,λb hb=>?_⟩⟩
     ·rw[gq,cg cX];rfl
     ·rw[aQ,List.dropLast_concat]
     ·rw[cy hb];exact h2 b hb
    ·rintro Hx zs ⟨rfl,h1,h2⟩ pa kf;rw[lH (by lia)];rw[List.drop_eq_nil_of_le (by lia),List.reverse_nil,iB]at h1;have C0:td≠vl:=Ne.symm zd;have keep:∀b o,b≠vl→H' b=some o→(upd Hx pa (.lst ps)) b=some o:=λb o nb e=>by
      have h3:Hx b=some o:=by rw[h2 b nb];exact e
      rw[cy (eQ h3 kf)];exact h3
     have C1:aL H (upd Hx pa (.lst ps)):=λb o e=>keep b o (eQ e IK) (sm b o e);have tp:fV H' (upd Hx pa (.lst ps)):=λb o e k=>keep b o (λz=>by
      subst z;rw[wc]at e;cases e;rcases k with⟨_,z⟩|⟨_,_,z⟩<;>cases z) e
     have g1:(upd Hx pa (.lst ps)) pa=some (.lst ps):=aQ;have g2:(upd Hx pa (.lst ps)) vl=some (.lst du):=by rw[cy (eQ h1 kf)];exact h1
     have g3:(upd Hx pa (.lst ps)) td=some (.dK aU):=keep _ _ C0 CZ;generalize upd Hx pa (.lst ps)=H2 at C1 tp g1 g2 g3;refine⟨rfl,C1,_,rfl,_,rfl,_,rfl,C1,aap pa H2 _ tp g1 λv H3 s3 hG3=>?_⟩;have Iy:du.length≤900000:=by rw[bK]at Gb;lia
     refine⟨_,rfl,_,rfl,td,_,rfl,vO.k (k:=Sum.inl ((i:Nat):Int)) (s3 _ _ g3) (by lia),?_⟩;have rl:(upd H3 td (.dK (gF aU (Sum.inl ((i:Nat):Int)) v))) vl=some (.lst du):=by rw[cy zd];exact s3 _ _ g2
     have Pe:(upd H3 td (.dK (gF aU (Sum.inl ((i:Nat):Int)) v))) td=some (.dK (gF aU (Sum.inl ((i:Nat):Int)) v)):=aQ;have Pf:dU (gF aU (Sum.inl ((i:Nat):Int)) v) (Sum.inl ((i:Nat):Int))=some v:=by rw[Za,af rfl]
     refine⟨_,rfl,.inl ⟨rfl,_,.of rl⟩,_,rfl,_,rfl,td,v,rfl,Pf▸oa.k (k:=Sum.inl ((i:Nat):Int)) Pe,vl,du,_,rfl,rfl,rl,by lia,?_⟩;refine⟨((C1.trans s3).put CY).put IK,_,_,_,_,_,rfl,by rw[cy C0];exact Pe,aQ,?_,?_,λx' _=>⟨du,v,rfl,by rw[e3];exact Pf⟩⟩
     ·have:=B8 aU (Sum.inl ((i:Nat):Int)) v
      lia
     ·rw[e3];exact D.mono _ _ _ _ hG3 ((fV.Z3 (s3 _ _ g3)).trans (fV.lst rl))
   ·refine⟨_,rfl,_,rfl,aw,_,((i:Nat):Int),_,rfl,rfl,sm.bo D.CW,bu (j:=i) hx,?_⟩;refine⟨_,rfl,.int n,.type "int",true,rfl,.int n,BR K,true,rfl,dy ?_⟩;refine⟨_,rfl,.inl ⟨rfl,_,.of wc⟩,_,rfl,vl,vs,_,rfl,rfl,wc,by lia,?_⟩;have C0:td≠vl:=Ne.symm zd;refine⟨sm.put IK,_,_,_,aU,_,rfl,by rw[cy C0];exact CZ,aQ,Nat.le_succ_of_le hk,?_,λx' fb=>?_⟩
    ·rw[e3];exact D.mono _ _ _ _ (D.num i n vs H' hx hG) (fV.lst wc)
    ·rw[e3,hx]at fb;cases fb
  ·rintro σ H' ⟨sm,s4,s5,s6,aU,vs,rfl,CZ,wc,hk,hG,hf⟩;obtain⟨x,hx⟩:=D.first;rw[Nat.sub_self]at hG hf;obtain⟨du,v,rfl,hv⟩:=hf x hx;exact⟨_,rfl,D.fin td aU du v H' sm CZ hv hG⟩
end S21
namespace L2
open PySem PySem.Spec PyProof.Rows
theorem Pg:∀{l:List (Str×Value)}{y:Str}{u:Value},(l.map (·.1)).Nodup→(y,u)∈l→l.lookup y=some u
 | [],_,_,_,h=>(by cases h)
 |(k,v)::r,y,u,nd,h=>by
  have Ph:=List.nodup_cons.mp nd;rcases(dP.mp h)with(e|h)
  ·cases e;simp[List.lookup]
  ·have ne:y≠k:=λz=>Ph.1 (cY.mpr ⟨(y,u),h,z⟩);have e0:(y==k)=false:=beq_eq_false_iff_ne.mpr ne;rw[tq,e0];exact Pg Ph.2 h
theorem aaq{xs:List Str}{us:List Value}{i:Nat}{y:Str}{u:Value}(nd:xs.Nodup)(hl:us.length=xs.length)(h1:xs[i]?=some y)(h2:us[i]?=some u):(xs.zip us).reverse.lookup y=some u:=by
 have em:(xs.zip us).map (·.1)=xs:=by rw[List.map_fst_zip (by lia)]
 refine Pg ?_ (List.mem_reverse.mpr ?_)
 ·rw[List.map_reverse,em];exact List.pairwise_reverse.mpr (nd.imp λh=>Ne.symm h)
 ·exact da (i:=i) (by rw[List.getElem?_zip_eq_some];exact⟨h1,h2⟩)
structure Pj(xs names:List Str)(scope:Scope)(params:Arguments)(cl:List (Str×Addr)):Prop where
 kind:scope.kind=.function
 co:scope.isCoroutine=false
 gen:scope.isGenerator=false
 nd:xs.Nodup
 cell:∀y∈scope.names,y.2≠.cell
 loc:∀x∈xs,scope.names.lookup x=some .local
 fr:∀y∈names,scope.names.lookup y=some .free
 has:∀y,scope.names.lookup y=some .free→∃c,cl.lookup y=some c
 inj:∀y z c,cl.lookup y=some c→cl.lookup z=some c→y=z
 only:∀y c,cl.lookup y=some c→y∈names
section
variable{P:Program}{w:World}{K:Frag}{mg:Str→Option Value}{base:Heap}
theorem aar{xs names:List Str}{caps:List V}{qual:Str}{params:Arguments}{body:Expr}{scope:Scope}{cl:List (Str×Addr)}{k:Nat}{s:Shared}{H:Hp}{f:Addr}{R:List V→Hp→VK→Prop}(S:Pj xs names scope params cl)
  (F:OB H f qual params body scope cl) (HI:∀(pm bt ct:Value)(us:List Value),us.length=xs.length→bindArgs (PySem.W.kla_fn "<lambda>" qual params body scope cl pm bt ct) ⟨us,[]⟩=pure (xs.zip us))
  (aas:∀(j:Nat)(y:Str),names[j]?=some y→∃c v u,cl.lookup y=some c∧caps[j]?=some v∧RelV v u∧s.heap.IsCell c (some u)∧H c=none) (cE:caps.length=names.length) (len:∀vs H' Q,R vs H' Q→vs.length=xs.length)
  (o4:∀(c:Addr)(A:Around)(outer:List Env)(s':Shared)(H':Hp)(vs:List V)(Q:VK),dk k (A.deeper (PySem.W.envX qual scope s'.heap.objs.size f (.ref c) cl))→aL H H'→R vs H' Q→
   ∃t,PE (HH P w K mg base (xs++names) qual scope f c cl A outer s' H').lL body t∧t (vs.map some++caps.map some) H' Q):o8 P w K mg base (k+1) s H f R:=by
 obtain⟨c,hf,hc⟩:=F;refine⟨.inl ⟨_,hf,λh ⟨pm,gi,e⟩=>⟨_,_,_,_,e⟩⟩,λA outer s' H' vs us Q hr e0 sm hk rv hQ=>?_⟩;obtain⟨⟨pm,gi,ho⟩,_⟩:=e0.br f _ (sm _ _ hf);have hcr:s'.heap.CodeRec (.ref c) qual:=(e0.br c _ (sm _ _ hc)).1;have tP:s'.heap.NoLimit:=e0.mod.nolimit.keeps λb o e=>(e0.bs b o e).1;have hl:=len _ _ _ hQ;have Pk:us.length=xs.length:=by rw[← rv.length];exact hl
 refine PySem.W.kla_callFunE hr.depth ho rfl S.co S.gen rfl hcr ?_;rw[HI _ _ _ us Pk];refine ar (wpAny_newFunctionEnv S.cell (λz hz=>S.loc _ (qx hz).1) (λh₁ yR Pl=>⟨tP.fresh _ Pl,?_⟩) S.kind);show codeAny _ _ (.expr body (PySem.W.envX qual scope s'.heap.objs.size f (.ref c) cl)) _ _;have up:∀b o,s'.heap.get? b=some o→h₁.get? b=some o:=λb o e=>Pl.extBut b o (fZ (dF e)) (dD _ e);obtain⟨t,ht,hq⟩:=o4 c A outer s' H' vs Q (hr.deeper _) sm hQ;have cells:∀(j:Nat)(y:Str),names[j]?=some y→∃c v u,cl.lookup y=some c∧caps[j]?=some v∧RelV v u∧h₁.IsCell c (some u)∧H' c=none:=λj y hj=>by
  obtain⟨c0,v,u,h1,h2,h3,⟨o,ho,hd⟩,h5⟩:=aas j y hj;obtain⟨h6,sl,h7⟩:=hk c0 o ho h5;exact⟨c0,v,u,h1,h2,h3,⟨_,up _ _ h7,hd⟩,h6⟩
 have Pm:∀y c,cl.lookup y=some c→∃v,h₁.IsCell c (some v)∧H' c=none:=λy c0 h=>by
  obtain⟨j,hj⟩:=List.getElem?_of_mem (S.only y c0 h);obtain⟨c1,v,u,h1,_,_,h4,h5⟩:=cells j y hj;rw[h]at h1;cases h1;exact⟨u,h4,h5⟩
 have I:Inv (HH P w K mg base (xs++names) qual scope f c cl A outer s' H') [] (vs.map some++caps.map some) H' { s' with heap:=h₁,toks:=s'.toks+(xs.zip us).length }:=by
  have tO:∀b:Addr,b ∉ (HH P w K mg base (xs++names) qual scope f c cl A outer s' H').ex:=λb z=>absurd (show b∈([]:List Addr) from z) (by simp)
  refine⟨⟨e0.mod,S.kind,rfl,rfl,bX _,λy z c h1 h2=>S.inj y z c h1 h2,λy hy=>?_,λy c h=>(nomatch h),λ_=>hr.hd,Around.frames_deeper e0.frames,.inr ⟨rfl,rfl⟩,λb z=>absurd z (tO b),e0.bs,e0.qC,λb _ _=>tO b,λb z=>absurd z (tO b),e0.mK,e0.qD⟩,
   rfl,e0.bare,Un.kept up,⟨_,yR,λi y v h1 h2 h3=>?_⟩,λy c h=>?_,e0.br.fresh (bX _),λy c h=>?_,λp hp=>absurd (show p∈([]:List (Addr×Obj)) from hp) (by simp),e0.br.kept up,by show(vs.map some++caps.map some).length=(xs++names).length;simp[cE,hl]⟩
  ·rcases hy with hy|hy
   ·exact absurd rfl (S.cell _ (pT hy))
   ·exact S.has y hy
  ·have h1:(xs++names)[i]?=some y:=h1;by_cases hi:i<xs.length
   ·rw[gy hi]at h1;rw[gy (by simp only[ba];lia),eE]at h2;cases ev:vs[i]? with
    |none=>rw[ev]at h2;cases h2
    |some v'=>
     rw[ev]at h2;cases h2;obtain⟨u,hu,ru⟩:=rv.get ev;exact⟨u,ru,.inl ⟨S.loc y (da h1),aaq S.nd Pk h1 hu⟩⟩
   ·rw[iC (by lia)]at h1;rw[iC (by simp only[ba];lia),ba,hl,eE]at h2;obtain⟨c1,v',u,g1,g2,g3,g4,_⟩:=cells _ y h1;rw[g2]at h2;cases h2;exact⟨u,g3,.inr ⟨.inr (S.fr y (da h1)),c1,g1,g4⟩⟩
  ·obtain⟨v,h4,_⟩:=Pm y c h;exact⟨_,h4⟩
  ·obtain⟨v,_,h5⟩:=Pm y c h;exact h5
 refine PySem.W.kla_codeExpr (ah (ht.lL [] _ _ H' Q I hq) (λu p7 hs=>?_) λe p7 z=>ah z (λ_ _ z=>False.elim z) λ_ _ z=>False.elim z);obtain⟨v,eV,J,rv,q⟩:=hs;exact⟨v,eV,J.os,J.bare,J.base,J.br,rv,q⟩
end
end L2
namespace S21
open PySem L2 Bw
variable{A B:Prop}{aB aS f:Addr}{fd:FuncData}
noncomputable def ze:List Value→List Int→Bool
 | [],[]=>true
 | .int i _::vs,n::ns=>i==n&&ze vs ns
 |_,_=>false
theorem IM:∀(vs:List Value)(ns:List Int),ze vs ns=true→Vals (ns.map V.int) vs
 | [],[],_=>.nil
 | .int i t::vs,n::ns,h=>by
  have h':(i==n&&ze vs ns)=true:=h;rw[eF]at h';have e:i=n:=beq_iff_eq.mp h'.1;exact .cons ⟨t,by rw[e]⟩ (IM vs ns h'.2)
 | [],_::_,h=>nomatch h
 | .none::_,[],h=>nomatch h
 |v::vs,[],h=>by cases v<;>exact nomatch h
 |v::vs,n::ns,h=>by
  cases v with
  |int i t=>
   have h':(i==n&&ze vs ns)=true:=h;rw[eF]at h';have e:i=n:=beq_iff_eq.mp h'.1;exact .cons ⟨t,by rw[e]⟩ (IM vs ns h'.2)
  |_=>exact nomatch h
noncomputable def um(K:Frag)(t:Addr)(ns:List Int):Bool:=match K.lookup t with
 |some ⟨.type "tuple",_,.seq its _,_⟩=>decide (its.size≤1000)&&ze its.toList ns
 |_=>false
theorem C2{K:Frag}{t:Addr}{ns:List Int}(h:um K t ns=true)(H:Hp):bc K H t (ns.map V.int):=by
 unfold um at h;split at h
 case h_2=>exact nomatch h
 case h_1 d its n sl ho=>
  rw[eF]at h;exact .inr ⟨_,its,n,ho,rfl,rfl,fg (aI h.1) (by decide),IM _ _ h.2⟩
noncomputable def C3(K:Frag):List Value→LL→Bool
 | [],[]=>true
 | .ref t::vs,r::rs=>um K t r&&C3 K vs rs
 |_,_=>false
theorem Pn{K:Frag}(H:Hp):∀(vs:List Value)(rs:LL),C3 K vs rs=true→∃RS,Vals RS vs∧bI K H RS (rs.map cJ)
 | [],[],_=>⟨[],.nil,.nil⟩
 | [],_::_,h=>nomatch h
 |v::vs,[],h=>by cases v<;>exact nomatch h
 |v::vs,r::rs,h=>by
  cases v with
  |ref t=>
   have h':(um K t r&&C3 K vs rs)=true:=h;rw[eF]at h';obtain⟨RS,h1,h2⟩:=Pn H vs rs h'.2;exact⟨.ref t::RS,.cons rfl h1,.cons (lU (C2 h'.1 H)) h2⟩
  |_=>exact nomatch h
noncomputable def IP(K:Frag)(t:Addr)(rs:LL):Bool:=match K.lookup t with
 |some ⟨.type "tuple",_,.seq its _,_⟩=>decide (its.size≤1000)&&C3 K its.toList rs
 |_=>false
theorem aat{K:Frag}{t:Addr}{rs:LL}(h:IP K t rs=true)(H:Hp):∃RS,bc K H t RS∧bI K H RS (rs.map cJ):=by
 unfold IP at h;split at h
 case h_2=>exact nomatch h
 case h_1 d its n sl ho=>
  rw[eF]at h;obtain⟨RS,h1,h2⟩:=Pn H _ _ h.2;exact⟨RS,.inr ⟨_,its,n,ho,rfl,rfl,fg (aI h.1) (by decide),h1⟩,h2⟩
noncomputable def gT:List (Str×Nat×Nat×LL):=[("id",1,1,[[1,1]]),("swap",2,2,[[1,0,0,1],[0,1,1,0]]),("copy",1,2,[[1,1,1]]),("end",1,0,[[1]]),("add",2,1,[[1,0,1],[0,1,1]]),("none",0,1,[]),("cup",0,2,[[1,1]]),("empty",0,0,[])]
noncomputable def zf(K:Frag)(aS aB:Addr):Bool:=Cn K aS&&Cn K aB&&gT.all λe=>
 (match PyProof.Rows.KTD.datumAt e.1 (gj K aS)with|some (.ref t)=>um K t [(e.2.1:Int),(e.2.2.1:Int)] | _=>false) &&
 (match PyProof.Rows.KTD.datumAt e.1 (gj K aB)with|some (.ref t)=>IP K t e.2.2.2|_=>false)
structure pe(K:Frag)(mg:Str→Option Value)(aS aB:Addr):Prop where
 C4:mg "SIDES"=some (.ref aS)
 nmB:mg "BOX_ROWS"=some (.ref aB)
 ok:zf K aS aB=true
theorem pe.tabS{K:Frag}{mg:Str→Option Value}(B:pe K mg aS aB):∀h,K.In h→j8 h aS (gj K aS):=λh X=>by
 have z:=B.ok;unfold zf at z;rw[eF,eF]at z;exact HM X z.1.1
theorem pe.aau{K:Frag}{mg:Str→Option Value}(B:pe K mg aS aB):∀h,K.In h→j8 h aB (gj K aB):=λh X=>by
 have z:=B.ok;unfold zf at z;rw[eF,eF]at z;exact HM X z.1.2
theorem pe.at_{K:Frag}{mg:Str→Option Value}(B:pe K mg aS aB){x:Str}{l r:Nat}{aO:LL}(h:(x,l,r,aO)∈gT) :
  (∃t,PyProof.Rows.KTD.datumAt x (gj K aS)=some (.ref t)∧∀H,bc K H t [.int (l:Int),.int (r:Int)])∧∃t,PyProof.Rows.KTD.datumAt x (gj K aB)=some (.ref t)∧∀H,∃RS,bc K H t RS∧bI K H RS (aO.map cJ):=by
 have z:=B.ok;unfold zf at z;rw[eF]at z;have z2:=oO.mp z.2 _ h;rw[eF]at z2;obtain⟨z3,z4⟩:=z2;constructor
 ·split at z3
  ·rename_i t e
   exact⟨t,e,λH=>C2 z3 H⟩
  ·exact nomatch z3
 ·split at z4
  ·rename_i t e
   exact⟨t,e,λH=>aat z4 H⟩
  ·exact nomatch z4
def IQ(K:Frag):Sp:=λvs H Q _=>∃(i:Int)(x:Str)(pa:Addr)(l r:Nat)(aO:LL),vs=[.int i,.str x,.ref pa]∧(x,l,r,aO)∈gT∧ib K H [.int (l:Int),.int (r:Int),.cm] Q
theorem C5:c8 ["place","word","parts","unmet"] ["place","word","parts"] (bq vW):=dv rfl rfl rfl (by decide +kernel) rfl
theorem Po(F:bZ K "measure" "measure" vW f fd)(B:pe K mg aS aB):bf P w K mg base bj 1 f fd ["place","word","parts"] (IQ K):=by
 refine F.ok C5 (λvs H Q E h=>?_) (λbt A outer s H vs Q E hr h=>?_)
 ·obtain⟨i,x,pa,l,r,aO,rfl,_⟩:=h;rfl
 ·obtain⟨i,x,pa,l,r,aO,rfl,hx,q⟩:=h;obtain⟨⟨t,e,ht⟩,_⟩:=B.at_ hx;refine⟨_,aX (cN (Fl (OP B.tabS (pv 1) (lK (v:=.ref _) rfl B.C4 rfl)) rfl) (bg (bY (aV (iH K rfl) (HP B.tabS (lK (v:=.ref _) rfl B.C4 rfl) (pv 1) (λ_ _=>rfl)) (fu (aK oT aM))))) df) vi,?_⟩;refine⟨_,rfl,x,rfl,rfl,_,rfl,?_⟩;rw[e];refine dy ⟨_,rfl,x,_,rfl,rfl,e,(by show 1≤sizeLine;decide),λt1 g1=>?_⟩;exact⟨t,t1,_,_,rfl,rfl,ht _,.of aQ,(by show 2+1≤sizeLine;decide),λa' H' s' h'=>q a' H' ((aL.upd g1).trans s') h'⟩
theorem o8.on{X:Cx}{aJ:List (Addr×Obj)}{σ:St}{H1:Hp}{s1:Shared}{k:Nat}{R:List V→Hp→VK→Prop}(I:Inv X aJ σ H1 s1)(hex:X.ex=[])(sm:aL X.H₀ H1)(L:o8 P w K mg base k X.s₀ X.H₀ f R):o8 P w K mg base k s1 H1 f R:=by
 refine⟨?_,λA outer s' H' vs us Q hr e0 gR hk rv hQ=>L.run A outer s' H' vs us Q hr e0 (sm.trans gR) (λc o hc hn=>?_) rv hQ⟩
 ·rcases L.here with⟨φ,h1,h2⟩|h
  ·exact .inl ⟨φ,sm _ _ h1,h2⟩
  ·exact .inr h
 ·have yT:c ∉ X.ex:=by rw[hex];simp
  obtain⟨sl,h3⟩:=I.base.any hc hn yT;obtain⟨h4,xA,h5⟩:=hk c _ h3 (I.base.free c o hc hn yT);exact⟨h4,xA,h5⟩
theorem vZ.on{k:Nat}{X:Cx}{aJ:List (Addr×Obj)}{σ:St}{H1:Hp}{s1:Shared}{Q Q1:VK}{aw f:Addr}{ws:List V}{R:List V→Hp→VK→Prop}{G:Nat→List V→Hp→Prop}(I:Inv X aJ σ H1 s1)(hex:X.ex=[])(sm:aL X.H₀ H1)
  (D:vZ k P w K mg base X.s₀ X.H₀ Q aw f ws R G) (q:∀u H',aL H1 H'→Q u H'→Q1 u H'):vZ k P w K mg base s1 H1 Q1 aw f ws R G:=
 ⟨sm.bo D.CW,D.len,o8.on I hex sm D.fn,D.mono _ _ _ _ D.g0 sm.tup,D.mono,D.lY,D.kind,D.num,D.word,D.first,λtd aU vs v H' s' h1 h2 h3=>q _ _ s' (D.fin td aU vs v H' (sm.trans s') h1 h2 h3)⟩
def aav(Q:VK):VK:=λu H'=>∃td aU v,u=.ref td∧H' td=some (.dK aU)∧dU aU (Sum.inl 0)=some v∧Q v H'
def IS(k:Nat)(P:Program)(w:World)(K:Frag)(mg:Str→Option Value)(base:Heap)(s:Shared):Sp:=λvs H Q _=>∃(aw f:Addr)(ws:List V)(R:List V→Hp→VK→Prop)(G:Nat→List V→Hp→Prop),vs=[.ref aw,.ref f]∧vZ k P w K mg base s H (aav Q) aw f ws R G
theorem aaw:c8 ["words","made"] ["words","made"] (bq HU):=dv rfl rfl rfl (by decide +kernel) rfl
theorem zg{k:Nat}{fA:Addr}{kd:FuncData}(F:bZ K "folded" "folded" HU f fd)
  (GA:sk P w K mg base (k+1) fA kd ["words","made"] (IJ k P w K mg base)) (kA:Kp K fA) (bA:Binds K kd ["words","made"] []) (mA:Mg mg "all_folded" fA):sk P w K mg base (k+2) f fd ["words","made"] (IS k P w K mg base):=by
 refine F.lZ aaw (λs vs H Q E h=>?_) (λbt A outer s H vs Q E hr h=>?_)
 ·obtain⟨aw,f,ws,R,G,rfl,_⟩:=h;rfl
 ·obtain⟨aw,fm,ws,R,G,rfl,D⟩:=h;refine⟨_,bg (bY (yN (By hr) (Cj GA hr rfl mA kA bA (aK (pv 0) (aK (pv 1) aM))) aR (λ_ _=>rfl))),?_⟩;refine⟨_,rfl,_,rfl,λaJ s1 I=>⟨aw,fm,ws,R,G,rfl,vZ.on I rfl (.refl _) D λu H' _ ⟨td,aU,v,e,h1,h2,h3⟩=>?_⟩⟩;exact⟨td,v,e,h2▸oa.k (k:=Sum.inl 0) h1,h3⟩
def Pp(K:Frag):Sp:=λvs H Q _=>∃(aw:Addr)(x:Str)(l r:Nat)(aO:LL),vs=[.ref aw]∧bc K H aw [.str x]∧(x,l,r,aO)∈gT∧∀v H',aL H H'→bc K H' v [.int (l:Int),.int (r:Int),.cm]→Q (.ref v) H'
theorem Pq:∀e∈gT,l6 e.1=0:=by decide +kernel
theorem Pr:c8 ["words"] ["words"] (bq Cv):=dv rfl rfl rfl (by decide +kernel) rfl
theorem Pu{fF fM:Addr}{lC iJ:FuncData}(F:bZ K "measured" "measured" Cv f fd)
  (GF:sk P w K mg base 3 fF lC ["words","made"] (IS 1 P w K mg base)) (kF:Kp K fF) (bF:Binds K lC ["words","made"] []) (mF:Mg mg "folded" fF)
  (GM:bf P w K mg base bj 1 fM iJ ["place","word","parts"] (IQ K)) (FM:bZ K "measure" "measure" vW fM iJ) (bM:Binds K iJ ["place","word","parts"] []) (mM:Mg mg "measure" fM):bf P w K mg base bj 4 f fd ["words"] (Pp K):=by
 refine F.ok Pr (λvs H Q E h=>?_) (λbt A outer s H vs Q E hr h=>?_)
 ·obtain⟨aw,x,l,r,aO,rfl,_⟩:=h;rfl
 ·obtain⟨aw,x,l,r,aO,rfl,hw,hx,q⟩:=h;refine⟨_,bg (bY (Cj GF hr rfl mF kF bF (aK (pv 0) (aK (lK (v:=.ref _) rfl mM rfl) aM)))),?_⟩;refine⟨_,rfl,λaJ s1 I=>⟨aw,fM,[.str x],λvs H' Q=>IQ K vs H' Q E0,λi vs H'=>(i=1∧vs=[])∨(i=0∧∃v,vs=[.ref v]∧bc K H' v [.int (l:Int),.int (r:Int),.cm]),rfl,?_⟩⟩;refine⟨hw,by simp,o8.OR GM FM bM,.inl ⟨rfl,rfl⟩,λi vs H1 H2 h tp=>?_,λi vs H1 h=>?_,λi hi=>?_,λi n vs H1 h=>?_,λi y vs H1 h g=>?_,⟨x,rfl⟩,λtd aU vs v H' s' h1 h2 h3=>?_⟩
  ·rcases h with h|⟨h1,v,h2,h3⟩
   ·exact .inl h
   ·exact .inr ⟨h1,v,h2,tp.bo h3⟩
  ·rcases h with⟨_,h⟩|⟨_,v,h,_⟩<;>(rw[h];simp)
  ·have:i=0:=by simpa using hi
   subst this;exact .inl ⟨x,rfl⟩
  ·match i,h with
   |0,h=>cases h
   |_+1,h=>cases h
  ·match i,h with
   |0,h=>
    cases h;rcases g with⟨_,g⟩|⟨g,_⟩
    ·refine⟨[],[],by rw[g];rfl,(Pq _ hx).symm,λpa H2 Q' tp hp hq=>⟨_,x,pa,l,r,aO,rfl,hx,λv H3 s3 hv=>hq (.ref v) H3 s3 (.inr ⟨rfl,v,rfl,hv⟩)⟩⟩
    ·exact absurd g (by decide)
   |_+1,h=>cases h
  ·rcases h3 with⟨z,_⟩|⟨_,v',z,hv⟩
   ·exact absurd z (by decide)
   ·have e:vs=[]∧v=.ref v':=by
     cases vs with
     |nil=>exact⟨rfl,by simpa using z⟩
     |cons a vs=>simp at z
    obtain⟨rfl,rfl⟩:=e;exact⟨td,aU,_,rfl,h1,h2,q v' H' s' hv⟩
def IT(K:Frag):Sp:=λvs H Q _=>∃(aw:Addr)(x:Str)(l r:Nat)(aO:LL),vs=[.ref aw]∧bc K H aw [.str x]∧(x,l,r,aO)∈gT∧∀v H',aL H H'→bc K H' v [.int (l:Int),.int (r:Int)]→Q (.ref v) H'
theorem Pw:c8 ["words"] ["words"] (bq Ct):=dv rfl rfl rfl (by decide +kernel) rfl
theorem Px{fM:Addr}{iJ:FuncData}(F:bZ K "wires" "wires" Ct f fd)
  (GM:bf P w K mg base bj 4 fM iJ ["words"] (Pp K)) (kM:Kp K fM) (bM:Binds K iJ ["words"] []) (mM:Mg mg "measured" fM):bf P w K mg base bj 5 f fd ["words"] (IT K):=by
 refine F.ok Pw (λvs H Q E h=>?_) (λbt A outer s H vs Q E hr h=>?_)
 ·obtain⟨aw,x,l,r,aO,rfl,_⟩:=h;rfl
 ·obtain⟨aw,x,l,r,aO,rfl,hw,hx,q⟩:=h;refine⟨_,bg (bY (dB (jE K rfl) (ck GM hr rfl mM kM bM .nil cu (aK (pv 0) aM)) dZ (cZ aR))),?_⟩;refine⟨_,rfl,aw,x,l,r,aO,rfl,hw,hx,λv H1 s1 hv=>?_⟩;exact⟨_,rfl,v,_,rfl,hv,λt H2 s2 ht=>q t H2 (s1.trans s2) ht⟩
def eK(K:Frag)(H:Hp)(a:Addr)(l r:Nat)(aO:LL):Prop:=∃(t:Addr)(RS:List V),bc K H a [.int (l:Int),.int (r:Int),.ref t]∧bc K H t RS∧bI K H RS (aO.map cJ)
theorem bI.Py{K:Frag}{H H':Hp}(s:fV H H'):∀{RS:List V}{aO:LL},bI K H RS (aO.map cJ)→bI K H' RS (aO.map cJ)
 | [],[],_=>.nil
 |_::_,[],h=>nomatch h
 | [],_::_,h=>nomatch h
 |v::RS,r::aO,.cons h q=>by
  refine .cons ?_ (bI.Py s q);have h:gB K H v (.tuple (r.map .int)):=h;cases h with
  |tuple h1 h2=>
   have e:=bI.G7 h2;subst e;exact lU (s.bo h1)
theorem eK.tup{K:Frag}{H H':Hp}{a:Addr}{l r:Nat}{aO:LL}(h:eK K H a l r aO)(s:fV H H'):eK K H' a l r aO:=by
 obtain⟨t,RS,h1,h2,h3⟩:=h;exact⟨t,RS,s.bo h1,s.bo h2,bI.Py s h3⟩
noncomputable def jH(l r:Nat)(row:List Int):List Int:=(row.drop l).take r++(row.take l++row.drop (l+r))
theorem wg{r:List Int}{k:Nat}(h:k≤r.length):fh (r.map V.int) none (some (k:Int))=(r.take k).map V.int:=by
 unfold fh;rw[HT.vo,HT.xU,List.drop_zero,Nat.sub_zero,ba,Nat.min_eq_left h,List.map_take]
theorem wj{r:List Int}{k:Nat}(h:k≤r.length):fh (r.map V.int) (some (k:Int)) none=(r.drop k).map V.int:=by
 unfold fh;rw[HT.vo,HT.xU,ba,Nat.min_eq_left h,lH (by simp),List.map_drop]
theorem IU{r:List Int}{j k:Nat}(h:j+k≤r.length):fh (r.map V.int) (some (j:Int)) (some ((j+k:Nat):Int))=((r.drop j).take k).map V.int:=by
 unfold fh;rw[HT.vo,HT.vo,ba,Nat.min_eq_left h,Nat.min_eq_left (by lia),List.map_take,List.map_drop,Nat.add_sub_cancel_left]
theorem aax{l r x:Nat}{row:List Int}(h:row.length=l+r+x):(jH l r row).length=r+l+x:=by
 unfold jH;simp only[bK,cH,dH];lia
theorem C6{p:Int}{l r x:Nat}{row:List Int}(h:Rw p (l+r+x) row):Rw p (r+l+x) (jH l r row):=by
 refine⟨aax h.1,λx hx=>h.2 x ?_⟩;unfold jH at hx;rcases(c9.mp hx)with z|z
 ·exact oP (nQ z)
 ·rcases(c9.mp z)with z|z
  ·exact nQ z
  ·exact oP z
theorem nbk:(["row","behind","left"]:List Str).Nodup:=by decide +kernel
def IV(K:Frag):Sp:=λvs H Q _=>∃(p:Int)(a:Addr)(l r x:Nat)(aO:LL),vs=[.int p,.ref a]∧p∈cb∧eK K H a l r aO∧l≤100∧r≤100∧x≤200∧aO.length≤500∧bw p (l+r+x) aO∧∀v H',aL H H'→eK K H' v r l (cz p (aO.map (jH l r)))→Q (.ref v) H'
noncomputable abbrev nBk:List Str:=["p","one","left","behind"]
theorem IW:c8 ["p","one","left","behind"] ["p","one"] (bq CA):=dv rfl rfl rfl (by decide +kernel) rfl
theorem Pz{fD:Addr}{pf:FuncData}(F:bZ K "form_of_back" "form_of_back" CA f fd)
  (GD:bf P w K mg base bj 3 fD pf ["p","rows"] (so K)) (kD:Kp K fD) (bD:Binds K pf ["p","rows"] []) (mD:Mg mg "reduced" fD):bf P w K mg base bj 4 f fd ["p","one"] (IV K):=by
 refine F.ok IW (λvs H Q E h=>?_) (λbt A outer s H vs Q E hr h=>?_)
 ·obtain⟨p,a,l,r,x,aO,rfl,_⟩:=h;rfl
 ·obtain⟨p,a,l,r,x,aO,rfl,pp,⟨t,RS,h1,h2,h3⟩,hl,eU,adY,hz,hR,q⟩:=h;have jj:(1000:Nat)≤sizeLine:=by decide
  refine⟨_,aX (bH (i:=2) IW.nd rfl (Or.inr rfl) (bh (cT K rfl) (pv 1) aR (λ_ _=>rfl))) (aX (bH (i:=3) IW.nd rfl (Or.inr rfl) (aV eB (pv 2) (bh (cT K rfl) (pv 1) aR (λ_ _=>rfl)))) (bg (bY (fu (aK (bh (cT K rfl) (pv 1) aR (λ_ _=>rfl)) (aK (pv 2) (aK (ck GD hr rfl mD kD bD .nil cu (aK (pv 0) (aK (mY (N:=["row","behind","left"]) (own:=1) (caps:=[3,2]) rfl (n6 K rfl (bh (cT K rfl) (pv 1) aR (λ_ _=>rfl))) (show dR nBk (bq CA) ["row","behind","left"] 1 [3,2] _ from .mk' (by decide +kernel)) (λ_ _ _ _ _=>cj (i:=0) nbk rfl (.inl rfl)) (λ_ _ _ _ _=>gz) (λ_ _ _ _ _=>aV (iH K rfl) (aV (iH K rfl) (dB (jE K rfl) (pv 0) (cZ (pv 2)) (cZ (pv 1))) (dB (jE K rfl) (pv 0) dZ (cZ (pv 2)))) (dB (jE K rfl) (pv 0) (cZ (pv 1)) dZ))) aM))) aM))))))),?_⟩
  have CN:=fj h3;refine⟨_,rfl,a,_,0,_,rfl,rfl,h1,bu (j:=0) rfl,?_⟩;refine⟨_,rfl,_,rfl,a,_,1,_,rfl,rfl,h1,bu (j:=1) rfl,_,_,rfl,rfl,?_⟩;refine⟨_,rfl,a,_,1,_,rfl,rfl,h1,bu (j:=1) rfl,_,rfl,_,rfl,_,rfl,a,_,2,_,rfl,rfl,h1,bu (j:=2) rfl,t,rfl,⟨_,h2⟩,?_⟩;refine yn (xs:=RS) (cp:=[some (.int ((l:Int)+(r:Int))),some (.int (l:Int))]) (λi H' zs=>bI K H' zs (((aO.map (jH l r)).take i).map cJ)) h2 (by lia) .nil (λi H' zs h=>by rw[fj h,cH];exact Nat.min_le_left _ _) ?_ ?_
  ·rintro i v H2 zs hv sm h;obtain⟨PB,ra,gH,rfl,fe⟩:=ni h3 hv;have cE:=(hR PB (da gH)).1;have elr:(l:Int)+(r:Int)=((l+r:Nat):Int):=by lia
   rw[elr];refine jZ ⟨_,rfl,_,rfl,_,rfl,_,rfl,_,rfl,ra,_,rfl,sm.bo fe,λt1 H3 s3 IX=>?_⟩;rw[IU (by lia)]at IX;refine⟨_,rfl,_,rfl,_,rfl,ra,_,rfl,(sm.trans s3).bo fe,λt2 H4 s4 qg=>?_⟩;rw[wg (by lia)]at qg;refine⟨t1,t2,_,_,rfl,rfl,s4.bo IX,qg,by simp only[ba,cH,dH];lia,λt3 H5 s5 IY=>?_⟩;have PD:=s3.trans (s4.trans s5);refine⟨_,rfl,_,rfl,_,rfl,ra,_,rfl,(sm.trans PD).bo fe,λt4 H6 s6 ph=>?_⟩;rw[wj (by lia)]at ph;refine⟨t3,t4,_,_,rfl,rfl,s6.bo IY,ph,by simp only[ba,bK,cH,dH];lia,λt5 H7 s7 sx=>?_⟩;have PF:=PD.trans (s6.trans s7);refine⟨⟨[_],rfl,rfl⟩,sm.trans PF,?_⟩;rw[← dE,← dE,i9]at sx;have e:(aO.map (jH l r))[i]?=some (jH l r PB):=by rw[eE,gH];rfl
   rw[gq,e];show bI K H7 _ (((aO.map (jH l r)).take i++[_]).map cJ);rw[dE];exact(h.mono PF).append (.cons (lU sx) .nil)
  rintro H1 ZS sm hZ lz sy;rw[lH (by rw[ba];lia)]at hZ;have s1:aL H (upd H1 lz (.lst ZS)):=sm.trans (.upd sy);refine⟨p,lz,true,ZS,aO.map (jH l r),r+l+x,rfl,pp,.of aQ,hZ.mono (.upd sy),by rw[ba];lia,by lia,λx hx=>?_,λt2 H2 DS s2 qg zh=>?_⟩
  ·obtain⟨y,hy,rfl⟩:=cY.mp hx;exact C6 (hR y hy)
  ·refine⟨(by show 3≤sizeLine;lia),λv hv=>q v _ (s1.trans (s2.trans (.upd hv))) ⟨t2,DS,.of aQ,(aL.upd hv).bo qg,zh.mono (.upd hv)⟩⟩
theorem aay:∀e∈gT,e.1 ≠ "back"∧e.1 ≠ "beside"∧e.1 ≠ "then"∧e.1 ≠ "times":=by decide +kernel
theorem qh{x y:Str}(h:x≠y)(b:B):if decide (V.str x=V.str y)=true then A else B:=by
 rw[ae (λz=>h (V.str.inj z))];exact cD b
theorem C7{x:V}(a:A):if decide (x=x)=true then A else B:=by
 rw[aE rfl];exact dy a
theorem aaz{b:Bool}(h:b=false)(q:B):if(if false=true then !b else b)=true then A else B:=by
 subst h;simpa using q
theorem PH{ts es:List Expr}{k:Nat}{pos:Pos}{env:Env}:starEach (.Tuple ts k pos::es) env=(false,eval (.Tuple ts k pos) env)::starEach es env:=by rfl
theorem IZ{c:Const}{k:Nat}{es:List Expr}{pos:Pos}{env:Env}:starEach (.Constant c k pos::es) env=(false,eval (.Constant c k pos) env)::starEach es env:=by rfl
theorem ts1:("times":Str) ≠ "back":=by decide +kernel
theorem ts2:("times":Str) ≠ "beside":=by decide +kernel
theorem ts3:("times":Str) ≠ "then":=by decide +kernel
inductive C8(K:Frag)(p:Int)(x:Str)(ps:List V)(H:Hp)(Q:VK):Prop where
 |back (a:Addr) (l r e:Nat) (aO:LL) (hx:x="back") (hp:ps=[.ref a]) (hf:eK K H a l r aO) (hl:l≤100) (hr:r≤100) (he:e≤200) (hz:aO.length≤500) (hR:bw p (l+r+e) aO) (q:∀v H',aL H H'→eK K H' v r l (cz p (aO.map (jH l r)))→Q (.ref v) H'):C8 K p x ps H Q
 |times (n:Int) (hx:x="times") (hp:ps=[.int n]) (q:∀v H',aL H H'→eK K H' v 1 1 [[1,n]]→Q (.ref v) H'):C8 K p x ps H Q
 |box (l r:Nat) (aO:LL) (hx:(x,l,r,aO)∈gT) (q:∀v H',aL H H'→eK K H' v l r aO→Q (.ref v) H'):C8 K p x ps H Q
theorem aaA:c8 ["p","word","parts"] ["p","word","parts"] (bq HW):=dv rfl rfl rfl (by decide +kernel) rfl
def PJ(K:Frag):Sp:=λvs H Q _=>∃(aw:Addr)(ws:List V),vs=[.ref aw]∧bc K H aw ws∧ws.all kq=true∧nW (.str "late") ws=false∧Q .cm H
theorem PK:c8 ["words"] ["words"] (bq Cz):=dv rfl rfl rfl (by decide +kernel) rfl
theorem PL(F:bZ K "refuse_late" "refuse_late" Cz f fd):bf P w K mg base bj 1 f fd ["words"] (PJ K):=by
 refine F.ok PK (λvs H Q E h=>?_) (λbt A outer s H vs Q E hr h=>?_)
 ·obtain⟨aw,ws,rfl,_⟩:=h;rfl
 ·obtain⟨aw,ws,rfl,hw,hf,hn,q⟩:=h;refine⟨_,bg (cN (cC (NI K rfl) cq (pv 0) rfl) (bg VF) df),?_⟩;exact⟨_,rfl,aw,ws,rfl,.inr hw,rfl,hf,_,rfl,aaz hn q⟩
noncomputable def del(Pt:Addr)(H:Hp):Hp:=λb=>if b=Pt then none else H b
section
variable{K:Frag}{H H':Hp}{Pt a b:Addr}{ps:Array Value}{xs:List V}{o:HO}
theorem wk(h:b≠Pt):del Pt H b=H b:=ag h
theorem C9(e:del Pt H b=some o):b≠Pt∧H b=some o:=by
 by_cases hb:b=Pt
 ·rw[del,af hb]at e;cases e
 ·exact⟨hb,(wk hb).symm.trans e⟩
theorem Cf.same(h:Cf Pt H H'):aL (del Pt H) H':=λb o e=>h b o (C9 e).2 (C9 e).1
theorem aaB(hP:H Pt=some (.e9 ps))(e:H b=some o)(hn:∀ps,o≠.e9 ps):b≠Pt:=λz=>by
 rw[z,hP]at e;exact hn _ (c7 e).symm
theorem Dc(hP:H Pt=some (.e9 ps))(e:H b=some o)(hn:∀ps,o≠.e9 ps):del Pt H b=some o:=by rw[wk (aaB hP e hn)];exact e
theorem bc.del(hP:H Pt=some (.e9 ps))(h:bc K H a xs):bc K (del Pt H) a xs:=by
 rcases h with(h|⟨o,h⟩)|h
 ·exact .inl (.inl (Dc hP h λ_ z=>nomatch z))
 ·exact .inl (.inr ⟨o,Dc hP h λ_ z=>nomatch z⟩)
 ·exact .inr h
theorem di.del(hP:H Pt=some (.e9 ps))(h:di K H a xs):di K (del Pt H) a xs:=by
 rcases h with(h|⟨o,h⟩)|h
 ·exact .inl (.inl (Dc hP h λ_ z=>nomatch z))
 ·exact .inl (.inr ⟨o,Dc hP h λ_ z=>nomatch z⟩)
 ·exact .inr h
mutual
theorem gB.del(hP:H Pt=some (.e9 ps)):∀{v:V}{d:Dat},gB K H v d→gB K (S21.del Pt H) v d
 |_,_,.none=>.none
 |_,_,.bool b=>.bool b
 |_,_,.int i=>.int i
 |_,_,.str x=>.str x
 |_,_,.tuple h r=>.tuple (bc.del hP h) (bI.del hP r)
 |_,_,.list h r=>.list (di.del hP h) (bI.del hP r)
theorem bI.del(hP:H Pt=some (.e9 ps)):∀{vs:List V}{ds:List Dat},bI K H vs ds→bI K (S21.del Pt H) vs ds
 |_,_,.nil=>.nil
 |_,_,.cons h r=>.cons (gB.del hP h) (bI.del hP r)
end
end
theorem _root_.L2.fi.tab{H:Hp}{Pt:Addr}{pos:Pos}{qual:Str}(h:fi H Pt pos qual):∃ps,H Pt=some (.e9 ps):=by
 rcases h with h|⟨c,h,_⟩
 ·exact⟨_,h⟩
 ·exact⟨_,h⟩
theorem _root_.L2.fi.mono{H H':Hp}{Pt:Addr}{pos:Pos}{qual:Str}(h:fi H Pt pos qual)(e:aL H H'):fi H' Pt pos qual:=by
 rcases h with h|⟨c,h,h2⟩
 ·exact .inl (e _ _ h)
 ·exact .inr ⟨c,e _ _ h,e _ _ h2⟩
noncomputable def ig(e:Expr):Pos:=match e with
 | .Lambda _ _ _ q=>q
 |_=>⟨0,0,0,0⟩
noncomputable def aaC(e:Expr):Arguments:=match e with
 | .Lambda a _ _ _=>a
 |_=>{ posonlyargs:=[],args:=[],vararg:=none,kwonlyargs:=[],kw_defaults:=[],kwarg:=none,defaults:=[] }
noncomputable def Dd(e:Expr):Scope:=match e with
 | .Lambda _ _ s _=>s
 |_=>{ kind:=.function,names:=[],isGenerator:=false,isCoroutine:=false }
theorem aL.sE{H H':Hp}{Pt:Addr}(h:aL H H'):aL (S21.del Pt H) H':=λb o e=>h b o (C9 e).2
noncomputable def aaD(st:Stmt)(i:Nat):Expr:=match(kz st).getD i (.Pass ⟨0,0,0,0⟩) with
 | .Return (some (.Call _ [_,e] _ _)) _=>e
 |_=>.Constant .none 0 ⟨0,0,0,0⟩
noncomputable abbrev fX:Expr:=aaD jF 1
noncomputable abbrev ij:Str := "forms"++".<locals>."++"<lambda>"
noncomputable def zi(L:Nat):Addr:=((cellsFrom (L+1) (bq jF).names []).lookup ("p":Str)).getD 0
noncomputable abbrev zj(L:Nat):List (Str×Addr):=[("p",zi L)]
theorem aaE{L f:Addr}{bt:Value}:closureFor (Dd fX) (PyProof.Rows.envOfC "forms" (bq jF) L f bt)=pure (zj L):=rfl
theorem PM{L:Nat}:(cellsFrom (L+1) (bq jF).names []).lookup ("p":Str)=some (zi L):=by
 obtain⟨c,hc⟩:=FU (n:=L+1) (sc:=bq jF) (x := "p") rfl;unfold zi;rw[hc];rfl
theorem PN{L:Nat}{y:Str}{c:Addr}(h:(zj L).lookup y=some c):y="p":=by
 rcases(dP.mp (pT h))with e|e
 ·cases e;rfl
 ·cases e
theorem PQ{L:Nat}{y:Str}{c:Addr}(h:(zj L).lookup y=some c):(cellsFrom (L+1) (bq jF).names []).lookup y=some c:=by
 have e:=PN h;subst e;rw[PM];exact h
theorem aaF{L:Nat}(aaG:∀y z c,(cellsFrom (L+1) (bq jF).names []).lookup y=some c→(cellsFrom (L+1) (bq jF).names []).lookup z=some c→y=z):Pj ["place","word","parts"] ["p"] (Dd fX) (aaC fX) (zj L):=by
 have fr:∀y∈(["p"]:List Str),(Dd fX).names.lookup y=some .free:=by decide +kernel
 have only:∀z∈(Dd fX).names,z.2=.free→z.1∈(["p"]:List Str):=by decide +kernel
 refine⟨rfl,rfl,rfl,by decide +kernel,by decide +kernel,by decide +kernel,fr,λy hy=>?_,λy z c h1 h2=>aaG y z c (PQ h1) (PQ h2),λy c h=>by rw[PN h];exact dN⟩;have e:y="p":=cR.mp (only _ (pT hy) rfl);exact⟨_,by rw[e];rfl⟩
theorem PR:l6 "back"=1:=by decide +kernel
theorem PU:l6 "times"=1:=by decide +kernel
section
variable{P:Program}{w:World}{K:Frag}{mg:Str→Option Value}{base:Heap}
theorem PV:c8 ["p","words"] ["p","words"] (bq jF):=dv rfl rfl rfl (by decide +kernel) rfl
theorem PX:c8 ["p","words"] ["p","words"] (bq Cy):=dv rfl rfl rfl (by decide +kernel) rfl
end
def sF(te:TE)(σ:St)(H:Hp)(k:Int):Prop:=∀H',aL H H'→∀R:VK,R (.int k) H'→te σ H' R
def l7(K:Frag)(te:TE)(σ:St)(H:Hp)(ns:List Int):Prop:=∀H',aL H H'→∀R:VK,(∀v eV,aL H' eV→bc K eV v (ns.map V.int)→R (.ref v) eV)→te σ H' R
def De(to:TO)(σ:St)(H:Hp)(k:Option Int):Prop:=∀H',aL H H'→∀R:Option Int→Hp→Prop,R k H'→to σ H' R
section
variable{K:Frag}{σ:St}{H:Hp}
theorem nk{i:Nat}{k:Int}(h:σ[i]?=some (some (.int k))):sF (aW i) σ H k:=λ_ _ _ q=>⟨_,h,q⟩
theorem iK{i:Nat}{a:Addr}{xs:List V}{j:Nat}{k:Int}(h:σ[i]?=some (some (.ref a)))(ha:bc K H a xs)(hj:xs[j]?=some (.int k)):sF (bp (Bp K) (aW i) (tC (.int (j:Int)))) σ H k:=
 λ_ s _ q=>⟨_,h,a,xs,(j:Int),_,rfl,rfl,s.bo ha,bu hj,q⟩
theorem Df{ta tb:TE}{i j:Int}(h1:sF ta σ H i)(h2:sF tb σ H j):sF (bp (eS λi j=>.int (i+j)) ta tb) σ H (i+j):=λH' s _ q=>h1 H' s _ (h2 H' s _ ⟨i,j,rfl,rfl,q⟩)
theorem om{i:Nat}{a:Addr}{ns:List Int}(h:σ[i]?=some (some (.ref a)))(ha:bc K H a (ns.map V.int)):l7 K (aW i) σ H ns:=λ_ s _ q=>⟨_,h,q a _ (.refl _) (s.bo ha)⟩
theorem qi:De jd σ H none:=λ_ _ _ q=>q
theorem l8{te:TE}{k:Int}(h:sF te σ H k):De (hU te) σ H (some k):=λH' s _ q=>h H' s _ ⟨k,rfl,q⟩
theorem oo{ta tb:TE}{ns ms:List Int}(h1:l7 K ta σ H ns)(h2:l7 K tb σ H ms)(hl:ns.length+ms.length≤10000):l7 K (bp (vH K) ta tb) σ H (ns++ms):=λH' s R q=>by
 have z:(10000:Nat)≤sizeLine:=by decide
 refine h1 H' s _ λa H1 s1 ha=>h2 H1 (s.trans s1) _ λb H2 s2 hb=>?_;refine⟨a,b,_,_,rfl,rfl,s2.bo ha,hb,by simp only[ba];lia,λc H3 s3 hc=>q c H3 (s1.trans (s2.trans s3)) ?_⟩;rw[dE];exact hc
theorem PY{α:Type}(v:α):∀n:Nat,(List.replicate n [v]).flatten=List.replicate n v
 |0=>rfl
 |n+1=>by rw[qy,uV,PY v n];rfl
theorem wm{tk:TE}{k:Nat}(h:sF tk σ H (k:Int))(hk:k≤10000):l7 K (bp (BO K) (lP (aY (tC (.int 0)) bV)) tk) σ H (List.replicate k 0):=λH' s R q=>by
 have z:(10000:Nat)≤sizeLine:=by decide
 refine⟨by show 1≤sizeLine;decide,λa ha=>?_⟩;have sa:=aL.upd (o:=.tup [.int 0]) ha;refine h _ (s.trans sa) _ ⟨a,(k:Int),[.int 0],rfl,rfl,.of aQ,by simp,by lia,by lia,by show 1*(k:Int).toNat≤sizeLine;lia,λc H3 s3 hc=>q c H3 (sa.trans s3) ?_⟩;rw[show(k:Int).toNat=k by lia,PY]at hc;rw[xv];exact hc
theorem oq{te:TE}{tl th:TO}{ns:List Int}{lo hi:Option Int}{ms:List Int}(h:l7 K te σ H ns)(h1:De tl σ H lo)(h2:De th σ H hi)(e:fh (ns.map V.int) lo hi=ms.map V.int):l7 K (iG (kX K) te tl th) σ H ms:=λH' s R q=>
 h H' s _ λa H1 s1 ha=>h1 H1 (s.trans s1) _ (h2 H1 (s.trans s1) _ ⟨a,_,rfl,ha,λc H3 s3 hc=>q c H3 (s1.trans s3) (by rw[e]at hc;exact hc)⟩)
end
theorem Dg{K:Frag}{H1:Hp}{t:Addr}{RS:List V}{aO:LL}{f:List Int→List Int}{cp:St}{te:TE}{Q:VK}(h2:bc K H1 t RS)(h3:bI K H1 RS (aO.map cJ))(hz:aO.length≤1000)
  (step:∀row ra H,row∈aO→aL H1 H→bc K H ra (row.map V.int)→l7 K te (some (.ref ra)::cp) H (f row))
  (done:∀H ZS,aL H1 H→bI K H ZS ((aO.map f).map cJ)→∀p,H p=none→Q (.ref p) (upd H p (.lst ZS))) :
  ∃W:Nat→Nat→St→Hp→List V→Prop,(∃m,W 0 m (List.replicate 1 none++cp) H1 [])∧kI (qJ K t) (bN 0) kH te Q W:=by
 have jj:(1000:Nat)≤sizeLine:=by decide
 have CN:=fj h3;refine yn (xs:=RS) (cp:=cp) (λi H' zs=>bI K H' zs (((aO.map f).take i).map cJ)) h2 (by lia) .nil (λi H' zs h=>by rw[fj h,cH];exact Nat.min_le_left _ _) ?_ ?_
 ·rintro i v H2 zs hv sm h;obtain⟨row,ra,gH,rfl,fe⟩:=ni h3 hv;refine jZ (step row ra H2 (da gH) sm (sm.bo fe) H2 (.refl _) _ λu H3 s3 hu=>⟨⟨[_],rfl,rfl⟩,sm.trans s3,?_⟩);have e:(aO.map f)[i]?=some (f row):=by rw[eE,gH];rfl
  rw[gq,e];show bI K H3 _ (((aO.map f).take i++[_]).map cJ);rw[dE];exact(h.mono s3).append (.cons (lU hu) .nil)
 ·rintro H2 ZS sm hZ lz sy;rw[lH (by rw[ba];lia)]at hZ;exact done H2 ZS sm hZ lz sy
noncomputable def uo(l r l' r':Nat)(row:List Int):List Int:=row.take l++List.replicate l' 0++(row.drop l).take r++List.replicate r' 0++row.drop (l+r)
noncomputable def wo(l r l':Nat)(row:List Int):List Int:=List.replicate l 0++row.take l'++List.replicate r 0++row.drop l'
noncomputable def pj(l r l' r':Nat)(aO cf:LL):LL:=aO.map (uo l r l' r')++cf.map (wo l r l')
theorem aaH{p:Int}{l r l' r' x:Nat}{row:List Int}(p0:0<p)(h:Rw p (l+r+x) row):Rw p (l+l'+(r+r')+x) (uo l r l' r' row):=by
 refine⟨?_,λy hx=>?_⟩
 ·unfold uo
  have:=h.1
  simp only[bK,cH,dH,dq];lia
 ·unfold uo at hx;simp only[c9,tG]at hx;rcases hx with(((z|⟨_,rfl⟩)|z)|⟨_,rfl⟩)|z
  ·exact h.2 y (nQ z)
  ·lia
  ·exact h.2 y (oP (nQ z))
  ·lia
  ·exact h.2 y (oP z)
theorem aaI{p:Int}{l r l' r' x:Nat}{row:List Int}(p0:0<p)(h:Rw p (l'+r'+x) row):Rw p (l+l'+(r+r')+x) (wo l r l' row):=by
 refine⟨?_,λy hx=>?_⟩
 ·unfold wo
  have:=h.1
  simp only[bK,cH,dH,dq];lia
 ·unfold wo at hx;simp only[c9,tG]at hx;rcases hx with((⟨_,rfl⟩|z)|⟨_,rfl⟩)|z
  ·lia
  ·exact h.2 y (nQ z)
  ·lia
  ·exact h.2 y (oP z)
theorem Dh{p:Int}{l r l' r' x:Nat}{aO cf:LL}(p0:0<p)(h:bw p (l+r+x) aO)(h':bw p (l'+r'+x) cf):bw p (l+l'+(r+r')+x) (pj l r l' r' aO cf):=λw hx=>by
 rcases(c9.mp hx)with z|z
 ·obtain⟨y,hy,e⟩:=cY.mp z;rw[← e];exact aaH p0 (h y hy)
 ·obtain⟨y,hy,e⟩:=cY.mp z;rw[← e];exact aaI p0 (h' y hy)
theorem aaJ:(["row","behind","one","other"]:List Str).Nodup:=by decide +kernel
theorem aaK:(["row","one","other"]:List Str).Nodup:=by decide +kernel
section
variable{P:Program}{w:World}{K:Frag}{mg:Str→Option Value}{base:Heap}
def I0(K:Frag):Sp:=λvs H Q _=>∃(p:Int)(a b:Addr)(l r:Nat)(aO:LL)(l' r':Nat)(cf:LL)(x:Nat),vs=[.int p,.ref a,.ref b]∧p∈cb∧eK K H a l r aO∧eK K H b l' r' cf∧l≤100∧r≤100∧l'≤100∧r'≤100∧x≤200∧aO.length≤400∧cf.length≤400∧bw p (l+r+x) aO∧bw p (l'+r'+x) cf∧
 ∀v H',aL H H'→eK K H' v (l+l') (r+r') (cz p (pj l r l' r' aO cf))→Q (.ref v) H'
noncomputable abbrev PZ:List Str:=["p","one","other","behind","above","below"]
theorem Di:c8 ["p","one","other","behind","above","below"] ["p","one","other"] (bq yY):=dv rfl rfl rfl (by decide +kernel) rfl
abbrev eW(K:Frag)(i:Nat)(j:Int):TE:=bp (Bp K) (aW i) (tC (.int j))
abbrev wq(K:Frag)(tk:TE):TE:=bp (BO K) (lP (aY (tC (.int 0)) bV)) tk
abbrev nq(K:Frag)(ta tb:TE):TE:=bp (vH K) ta tb
abbrev uq(ta tb:TE):TE:=bp (eS λi j=>.int (i+j)) ta tb
def Dj(K:Frag):TE:=nq K (nq K (nq K (nq K (iG (kX K) (aW 0) jd (hU (eW K 2 0))) (wq K (eW K 3 0))) (iG (kX K) (aW 0) (hU (eW K 2 0)) (hU (aW 1)))) (wq K (eW K 3 1))) (iG (kX K) (aW 0) (hU (aW 1)) jd)
def Dk(K:Frag):TE:=nq K (nq K (nq K (wq K (eW K 1 0)) (iG (kX K) (aW 0) jd (hU (eW K 2 0)))) (wq K (eW K 1 1))) (iG (kX K) (aW 0) (hU (eW K 2 0)) jd)
theorem aaL{σ:St}{H:Hp}{ra a b:Addr}{row:List Int}{l r l' r' x:Nat}{t t':V}(h0:σ[0]?=some (some (.ref ra)))(h1:σ[1]?=some (some (.int ((l+r:Nat):Int))))(h2:σ[2]?=some (some (.ref a)))(h3:σ[3]?=some (some (.ref b)))
  (hr:bc K H ra (row.map V.int)) (ha:bc K H a [.int (l:Int),.int (r:Int),t]) (hb:bc K H b [.int (l':Int),.int (r':Int),t']) (hl:row.length=l+r+x) (hx:x≤200) (b1:l≤100) (b2:r≤100) (b3:l'≤100) (b4:r'≤100):l7 K (Dj K) σ H (uo l r l' r' row):=by
 have e1:(row.take l).length≤100:=by rw[cH];lia
 have e2:((row.drop l).take r).length≤100:=by rw[cH];lia
 have e3:(row.drop (l+r)).length≤200:=by rw[dH];lia
 refine oo (oo (oo (oo (oq (om h0 hr) qi (l8 (iK (j:=0) h2 ha rfl)) (wg (by lia))) (wm (iK (j:=0) h3 hb rfl) (by lia)) ?_) (oq (om h0 hr) (l8 (iK (j:=0) h2 ha rfl)) (l8 (nk h1)) (IU (by lia))) ?_) (wm (iK (j:=1) h3 hb rfl) (by lia)) ?_) (oq (om h0 hr) (l8 (nk h1)) qi (wj (by lia))) ?_ <;>
  simp only[bK,dq]<;>lia
theorem aaM{σ:St}{H:Hp}{ra a b:Addr}{row:List Int}{l r l' r' x:Nat}{t t':V}(h0:σ[0]?=some (some (.ref ra)))(h2:σ[1]?=some (some (.ref a)))(h3:σ[2]?=some (some (.ref b)))
  (hr:bc K H ra (row.map V.int)) (ha:bc K H a [.int (l:Int),.int (r:Int),t]) (hb:bc K H b [.int (l':Int),.int (r':Int),t']) (hl:row.length=l'+r'+x) (hx:x≤200) (b1:l≤100) (b2:r≤100) (b3:l'≤100) (b4:r'≤100):l7 K (Dk K) σ H (wo l r l' row):=by
 have e1:(row.take l').length≤100:=by rw[cH];lia
 have e3:(row.drop l').length≤300:=by rw[dH];lia
 refine oo (oo (oo (wm (iK (j:=0) h2 ha rfl) (by lia)) (oq (om h0 hr) qi (l8 (iK (j:=0) h3 hb rfl)) (wg (by lia))) ?_) (wm (iK (j:=1) h2 ha rfl) (by lia)) ?_) (oq (om h0 hr) (l8 (iK (j:=0) h3 hb rfl)) qi (wj (by lia))) ?_ <;>
  simp only[bK,dq]<;>lia
def Dl(K:Frag):TS:=cI (dj (uq (eW K 1 0) (eW K 1 1)) (bN 3))
 (cI (dj (p9 (rS K (eW K 1 2)) 1 [3,1,2] (bN 0) kH (Dj K)) (bN 4)) (cI (dj (p9 (rS K (eW K 2 2)) 1 [1,2] (bN 0) kH (Dk K)) (bN 5)) (fK (lP (aY (uq (eW K 1 0) (eW K 2 0)) (aY (uq (eW K 1 1) (eW K 2 1)) (aY (iV (so K) [] E0 (aY (aW 0) (aY (bp eh (aW 4) (aW 5)) bV))) bV)))))))
theorem aaN{D:Ends}{p:Int}{a b:Addr}{l r:Nat}{aO:LL}{l' r':Nat}{cf:LL}{x:Nat}{H:Hp}(pp:p∈cb)(hf:eK K H a l r aO)(fE:eK K H b l' r' cf)(b1:l≤100)(b2:r≤100)(b3:l'≤100)(b4:r'≤100)(hx:x≤200)(z1:aO.length≤400)(z2:cf.length≤400)(hR:bw p (l+r+x) aO)(gU:bw p (l'+r'+x) cf)
  (q:∀v H',aL H H'→eK K H' v (l+l') (r+r') (cz p (pj l r l' r' aO cf))→D.rt (.ref v) H'):Dl K D [some (.int p),some (.ref a),some (.ref b),none,none,none] H:=by
 obtain⟨t,RS,h1,h2,h3⟩:=hf;obtain⟨t',P0,nu,wu,Dm⟩:=fE;have jj:(1000:Nat)≤sizeLine:=by decide
 have p0:0<p:=(eI p pp).1 |> λh=>by lia
 unfold Dl;refine Df (iK (j:=0) rfl h1 rfl) (iK (j:=1) rfl h1 rfl) H (.refl _) _ ?_;refine⟨_,rfl,a,_,2,_,rfl,rfl,h1,bu (j:=2) rfl,t,rfl,⟨_,h2⟩,?_⟩;refine Dg (f:=uo l r l' r') (cp:=[some (.int ((l:Int)+(r:Int))),some (.ref a),some (.ref b)]) h2 h3 (by lia) (λrow ra H1 gI s1 fe=>aaL rfl (by rw[show((l+r:Nat):Int)=(l:Int)+(r:Int) by lia];rfl) rfl rfl fe (s1.bo h1) (s1.bo nu) (hR row gI).1 hx b1 b2 b3 b4) ?_;intro H1 ZS s1 hZ la jG;refine⟨_,rfl,b,_,2,_,rfl,rfl,(s1.trans (.upd jG)).bo nu,bu (j:=2) rfl,t',rfl,⟨_,(s1.trans (.upd jG)).bo wu⟩,?_⟩;have uv:(upd H1 la (.lst ZS)) la=some (.lst ZS):=aQ;have nv:=hZ.mono (aL.upd jG (o:=.lst ZS));have sA:aL H (upd H1 la (.lst ZS)):=s1.trans (.upd jG);generalize upd H1 la (.lst ZS)=H2 at uv nv sA ⊢;refine Dg (f:=wo l r l') (cp:=[some (.ref a),some (.ref b)]) (sA.bo wu) (Dm.mono sA) (by lia) (λrow ra H3 gI s3 fe=>aaM rfl rfl rfl fe ((sA.trans s3).bo h1) ((sA.trans s3).bo nu) (gU row gI).1 hx b1 b2 b3 b4) ?_;intro H3 YS s3 hY lb sG;have sB:aL H2 (upd H3 lb (.lst YS)):=s3.trans (.upd sG);have sH:(upd H3 lb (.lst YS)) lb=some (.lst YS):=aQ;have qj:=hY.mono (aL.upd sG (o:=.lst YS));generalize upd H3 lb (.lst YS)=H4 at sB sH qj ⊢;have sC:=sA.trans sB;refine Df (iK (j:=0) rfl (sC.bo h1) rfl) (iK (j:=0) rfl (sC.bo nu) rfl) H4 (.refl _) _ ?_;refine Df (iK (j:=1) rfl (sC.bo h1) rfl) (iK (j:=1) rfl (sC.bo nu) rfl) H4 (.refl _) _ ?_;have eZ:=fj nv;have eY:=fj qj;rw[ba]at eZ eY;refine⟨_,rfl,_,rfl,_,rfl,la,lb,ZS,YS,rfl,rfl,sB _ _ uv,sH,by lia,λlc mZ=>?_⟩;have sD:=aL.upd (o:=.lst (ZS++YS)) mZ;refine⟨p,lc,true,ZS++YS,pj l r l' r' aO cf,l+l'+(r+r')+x,rfl,pp,.of aQ,?_,by unfold pj;rw[bK,ba,ba];lia,by lia,Dh p0 hR gU,λt2 H5 DS s5 qg zh=>?_⟩
 ·unfold pj;rw[dE];exact((nv.mono sB).mono sD).append (qj.mono sD)
 ·refine⟨(by show 3≤sizeLine;lia),λv hv=>q v _ (sC.trans (sD.trans (s5.trans (.upd hv)))) ⟨t2,DS,?_,(aL.upd hv).bo qg,zh.mono (.upd hv)⟩⟩;refine .of ?_;rw[aQ,show((l+l':Nat):Int)=(l:Int)+(l':Int) by lia,show((r+r':Nat):Int)=(r:Int)+(r':Int) by lia]
end
section
variable{P:Program}{w:World}{K:Frag}{mg:Str→Option Value}{base:Heap}
theorem P4{f fD:Addr}{fd pf:FuncData}(F:bZ K "form_of_beside" "form_of_beside" yY f fd)
  (GD:bf P w K mg base bj 3 fD pf ["p","rows"] (so K)) (kD:Kp K fD) (bD:Binds K pf ["p","rows"] []) (mD:Mg mg "reduced" fD):bf P w K mg base bj 4 f fd ["p","one","other"] (I0 K):=by
 refine F.ok Di (λvs H Q E h=>?_) (λbt A outer s H vs Q E hr h=>?_)
 ·obtain⟨p,a,b,l,r,aO,l',r',cf,x,rfl,_⟩:=h;rfl
 ·obtain⟨p,a,b,l,r,aO,l',r',cf,x,rfl,pp,hf,fE,b1,b2,b3,b4,hx,z1,z2,hR,gU,q⟩:=h;refine⟨Dl K,?_,?_⟩
  ·unfold Dl;refine aX ?_ ?_
   ·refine bH (i:=3) (te:=uq (eW K 1 0) (eW K 1 1)) ?_ ?_ ?_ ?_ ?_ ?_
    ·exact Di.nd
    ·rfl
    ·exact Or.inr rfl
    ·exact aV eB (bh (cT K rfl) (pv 1) aR (λ_ _=>rfl)) (bh (cT K rfl) (pv 1) aR (λ_ _=>rfl))
    ·rfl
    ·exact .inl rfl
   refine aX ?_ ?_
   ·refine jX (N:=["row","behind","one","other"]) (own:=1) (caps:=[3,1,2]) (i:=4) (te:=Dj K) rfl Di.nd rfl rfl ?_ ?_ ?_ ?_ ?_
    ·exact n6 K rfl (bh (cT K rfl) (pv 1) aR (λ_ _=>rfl))
    ·exact(show dR PZ (bq yY) ["row","behind","one","other"] 1 [3,1,2] _ from .mk' (by decide +kernel))
    ·exact λ_ _ _ _ _=>cj (i:=0) aaJ rfl (.inl rfl)
    ·exact λ_ _ _ _ _=>gz
    ·intro _ _ _ _ _;unfold Dj;refine aV (iH K rfl) ?_ ?_
     ·refine aV (iH K rfl) ?_ ?_
      ·refine aV (iH K rfl) ?_ ?_
       ·refine aV (iH K rfl) ?_ ?_
        ·exact dB (jE K rfl) (pv 0) dZ (cZ (bh (cT K rfl) (pv 2) aR (λ_ _=>rfl)))
        ·exact aV (tW K rfl) (fu (aK aR aM)) (bh (cT K rfl) (pv 3) aR (λ_ _=>rfl))
       ·exact dB (jE K rfl) (pv 0) (cZ (bh (cT K rfl) (pv 2) aR (λ_ _=>rfl))) (cZ (pv 1))
      ·exact aV (tW K rfl) (fu (aK aR aM)) (bh (cT K rfl) (pv 3) aR (λ_ _=>rfl))
     ·exact dB (jE K rfl) (pv 0) (cZ (pv 1)) dZ
   refine aX ?_ ?_
   ·refine jX (N:=["row","one","other"]) (own:=1) (caps:=[1,2]) (i:=5) (te:=Dk K) rfl Di.nd rfl rfl ?_ ?_ ?_ ?_ ?_
    ·exact n6 K rfl (bh (cT K rfl) (pv 2) aR (λ_ _=>rfl))
    ·exact(show dR PZ (bq yY) ["row","one","other"] 1 [1,2] _ from .mk' (by decide +kernel))
    ·exact λ_ _ _ _ _=>cj (i:=0) aaK rfl (.inl rfl)
    ·exact λ_ _ _ _ _=>gz
    ·intro _ _ _ _ _;unfold Dk;refine aV (iH K rfl) ?_ ?_
     ·refine aV (iH K rfl) ?_ ?_
      ·refine aV (iH K rfl) ?_ ?_
       ·exact aV (tW K rfl) (fu (aK aR aM)) (bh (cT K rfl) (pv 1) aR (λ_ _=>rfl))
       ·exact dB (jE K rfl) (pv 0) dZ (cZ (bh (cT K rfl) (pv 2) aR (λ_ _=>rfl)))
      ·exact aV (tW K rfl) (fu (aK aR aM)) (bh (cT K rfl) (pv 1) aR (λ_ _=>rfl))
     ·exact dB (jE K rfl) (pv 0) (cZ (bh (cT K rfl) (pv 2) aR (λ_ _=>rfl))) dZ
   refine bg ?_;refine bY (te:=lP (aY (uq (eW K 1 0) (eW K 2 0)) (aY (uq (eW K 1 1) (eW K 2 1)) (aY (iV (so K) [] E0 (aY (aW 0) (aY (bp eh (aW 4) (aW 5)) bV))) bV)))) ?_;refine fu ?_;refine aK ?_ ?_ ?_
   ·exact aV eB (bh (cT K rfl) (pv 1) aR (λ_ _=>rfl)) (bh (cT K rfl) (pv 2) aR (λ_ _=>rfl))
   ·refine aK ?_ ?_ ?_
    ·exact aV eB (bh (cT K rfl) (pv 1) aR (λ_ _=>rfl)) (bh (cT K rfl) (pv 2) aR (λ_ _=>rfl))
    ·refine aK ?_ aM ?_
     ·exact ck GD hr rfl mD kD bD .nil cu (aK (pv 0) (aK (aV dh (pv 4) (pv 5)) aM))
     ·rfl
    ·rfl
   ·rfl
  ·exact aaN pp hf fE b1 b2 b3 b4 hx z1 z2 hR gU q
end
noncomputable def sJ(l m r':Nat)(row:List Int):List Int:=(row.drop l).take m++row.take l++List.replicate r' 0++row.drop (l+m)
noncomputable def sM(p:Int)(l m:Nat)(row:List Int):List Int:=(row.take m).map (λn=>(-n)%p)++List.replicate l 0++row.drop m
noncomputable def pk(p:Int)(l m r':Nat)(aO cf:LL):LL:=aO.map (sJ l m r')++cf.map (sM p l m)
noncomputable def ot(m:Nat)(row:List Int):Bool:=!((row.take m).any λn=>n != 0)
noncomputable def ou(p:Int)(l m r':Nat)(aO cf:LL):LL:=((cz p (pk p l m r' aO cf)).filter (ot m)).map (λrow=>row.drop m)
theorem aaO{p:Int}{l m r' x:Nat}{row:List Int}(p0:0<p)(h:Rw p (l+m+x) row):Rw p (m+(l+r')+x) (sJ l m r' row):=by
 refine⟨?_,λy hx=>?_⟩
 ·unfold sJ
  have:=h.1
  simp only[bK,cH,dH,dq];lia
 ·unfold sJ at hx;simp only[c9,tG]at hx;rcases hx with((z|z)|⟨_,rfl⟩)|z
  ·exact h.2 y (oP (nQ z))
  ·exact h.2 y (nQ z)
  ·lia
  ·exact h.2 y (oP z)
theorem aaP{p:Int}{l m r' x:Nat}{row:List Int}(p0:0<p)(h:Rw p (m+r'+x) row):Rw p (m+(l+r')+x) (sM p l m row):=by
 refine⟨?_,λy hx=>?_⟩
 ·unfold sM
  have:=h.1
  simp only[bK,ba,cH,dH,dq];lia
 ·unfold sM at hx;simp only[c9,tG,cY]at hx;rcases hx with(⟨w,_,rfl⟩|⟨_,rfl⟩)|z
  ·exact⟨jr _ (by lia),js _ p0⟩
  ·lia
  ·exact h.2 y (oP z)
theorem zk{p:Int}{l m r' x:Nat}{aO cf:LL}(p0:0<p)(h:bw p (l+m+x) aO)(h':bw p (m+r'+x) cf):bw p (m+(l+r')+x) (pk p l m r' aO cf):=λw hx=>by
 rcases(c9.mp hx)with z|z
 ·obtain⟨y,hy,e⟩:=cY.mp z;rw[← e];exact aaO p0 (h y hy)
 ·obtain⟨y,hy,e⟩:=cY.mp z;rw[← e];exact aaP p0 (h' y hy)
theorem P5{p:Int}(pp:p∈cb){l m r' x:Nat}{aO cf:LL}(h:bw p (l+m+x) aO)(h':bw p (m+r'+x) cf):bw p (l+r'+x) (ou p l m r' aO cf):=λw hx=>by
 have p0:0<p:=by have:=eI p pp;lia
 obtain⟨y,hy,e⟩:=cY.mp hx;have Bu:=(gP pp (zk p0 h h')).rws y (pS.mp hy).1;rw[← e];refine⟨by rw[dH,Bu.1];lia,λz hz=>Bu.2 z (oP hz)⟩
theorem aaQ{p:Int}(pp:p∈cb){l m r' x:Nat}{aO cf:LL}(h:bw p (l+m+x) aO)(h':bw p (m+r'+x) cf):(ou p l m r' aO cf).length≤m+(l+r')+x:=by
 have p0:0<p:=by have:=eI p pp;lia
 have:=y6 (zk p0 h h')
 unfold ou;rw[ba];exact fg (List.length_filter_le _ _) this
theorem aaR:(["row","behind","left","other"]:List Str).Nodup:=by decide +kernel
theorem aaS:(["row","between","left","p"]:List Str).Nodup:=by decide +kernel
theorem aaT:(["number","p"]:List Str).Nodup:=by decide +kernel
theorem aaU:(["row","between"]:List Str).Nodup:=by decide +kernel
section
variable{P:Program}{w:World}{K:Frag}{mg:Str→Option Value}{base:Heap}
def Ja(K:Frag):List V→Hp→VK→Prop:=λxs H Q=>∃p ys,xs=[.ref p]∧((di K H p ys∧∀l,H l=none→Q (.ref l) (upd H l (.tup ys)))∨(bc K H p ys∧Q (.ref p) H))
def Dn(K:Frag):TE:=ko (Ja K) (aY (p9 (rS K (iG (kX K) (aW 0) jd (hU (aW 1)))) 1 [3] (bN 0) kH (bp (rI (λ_ j=>0<j) λi j=>.int (i%j)) (Mj (rU λi=>.int (-i)) (aW 0)) (aW 1))) bV)
def Dp(K:Frag):TE:=nq K (nq K (nq K (iG (kX K) (aW 0) (hU (aW 2)) (hU (aW 1))) (iG (kX K) (aW 0) jd (hU (aW 2)))) (wq K (eW K 3 1))) (iG (kX K) (aW 0) (hU (aW 1)) jd)
def Dq(K:Frag):TE:=nq K (nq K (Dn K) (wq K (aW 2))) (iG (kX K) (aW 0) (hU (aW 1)) jd)
theorem aaV{H1:Hp}{t:Addr}{ns:List Int}{g:Int→Int}{cp:St}{te:TE}{Q:VK}(h2:bc K H1 t (ns.map V.int))(hz:ns.length≤1000)(step:∀n H,aL H1 H→sF te (some (.int n)::cp) H (g n))
  (done:∀H,aL H1 H→∀p,H p=none→Q (.ref p) (upd H p (.lst ((ns.map g).map V.int)))) :
  ∃W:Nat→Nat→St→Hp→List V→Prop,(∃m,W 0 m (List.replicate 1 none++cp) H1 [])∧kI (qJ K t) (bN 0) kH te Q W:=by
 have jj:(1000:Nat)≤sizeLine:=by decide
 refine yn (xs:=ns.map V.int) (cp:=cp) (λi H' zs=>zs=((ns.take i).map g).map V.int) h2 (by rw[ba];lia) (by simp) (λi H' zs h=>by rw[h,ba,ba,cH];exact Nat.min_le_left _ _) ?_ ?_
 ·rintro i v H2 zs hv sm rfl;rw[eE]at hv;cases e:ns[i]? with
  |none=>rw[e]at hv;cases hv
  |some n=>
   rw[e]at hv;cases hv;refine jZ (step n H2 sm H2 (.refl _) _ ⟨⟨[_],rfl,rfl⟩,sm,?_⟩);rw[gq,e];simp
 ·rintro H2 zs sm rfl lz sy;rw[ba,lH (bX _)];exact done H2 sm lz sy
theorem aaW{σ:St}{H:Hp}{ra:Addr}{row:List Int}{m:Nat}{p:Int}(h0:σ[0]?=some (some (.ref ra)))(h1:σ[1]?=some (some (.int (m:Int))))(h3:σ[3]?=some (some (.int p)))(hr:bc K H ra (row.map V.int))(hm:m≤row.length)(hl:row.length≤1000)(p0:0<p) :
  l7 K (Dn K) σ H ((row.take m).map λn=>(-n)%p):=λH' s R q=>by
 unfold Dn ko;refine oq (K:=K) (ms:=row.take m) (om h0 hr) qi (l8 (nk h1)) (wg hm) H' s _ λt H1 s1 ht=>⟨t,rfl,⟨_,ht⟩,?_⟩;have eb:r8 1 [3] σ=List.replicate 1 none++[some (.int p)]:=by simp[r8,h3]
 rw[eb];refine aaV (g:=λn=>(-n)%p) (cp:=[some (.int p)]) ht (by rw[cH];lia) (λn H2 s2 H3 s3 R' q'=>⟨_,rfl,n,rfl,_,rfl,-n,p,rfl,rfl,p0,q'⟩) ?_;intro H2 s2 l qS;refine⟨l,_,rfl,.inl ⟨.of aQ,λv hv=>q v _ (s1.trans (s2.trans ((aL.upd qS).trans (.upd hv)))) (.of aQ)⟩⟩
theorem aaX{σ:St}{H:Hp}{ra b:Addr}{row:List Int}{l m r' e:Nat}{x t':V}(h0:σ[0]?=some (some (.ref ra)))(h1:σ[1]?=some (some (.int ((l+m:Nat):Int))))(h2:σ[2]?=some (some (.int (l:Int))))(h3:σ[3]?=some (some (.ref b)))
  (hr:bc K H ra (row.map V.int)) (hb:bc K H b [x,.int (r':Int),t']) (hl:row.length=l+m+e) (he:e≤200) (b1:l≤100) (b2:m≤100) (b4:r'≤100):l7 K (Dp K) σ H (sJ l m r' row):=by
 have e1:(row.take l).length≤100:=by rw[cH];lia
 have e2:((row.drop l).take m).length≤100:=by rw[cH];lia
 have e3:(row.drop (l+m)).length≤200:=by rw[dH];lia
 refine oo (oo (oo (oq (om h0 hr) (l8 (nk h2)) (l8 (nk h1)) (IU (by lia))) (oq (om h0 hr) qi (l8 (nk h2)) (wg (by lia))) ?_) (wm (iK (j:=1) h3 hb rfl) (by lia)) ?_) (oq (om h0 hr) (l8 (nk h1)) qi (wj (by lia))) ?_ <;>
  (try simp only[bK,dq])<;>lia
theorem aaY{σ:St}{H:Hp}{ra:Addr}{row:List Int}{l m r' e:Nat}{p:Int}(h0:σ[0]?=some (some (.ref ra)))(h1:σ[1]?=some (some (.int (m:Int))))(h2:σ[2]?=some (some (.int (l:Int))))(h3:σ[3]?=some (some (.int p)))
  (hr:bc K H ra (row.map V.int)) (hl:row.length=m+r'+e) (he:e≤200) (b1:l≤100) (b2:m≤100) (b4:r'≤100) (p0:0<p):l7 K (Dq K) σ H (sM p l m row):=by
 have e1:((row.take m).map λn=>(-n)%p).length≤100:=by rw[ba,cH];lia
 have e3:(row.drop m).length≤300:=by rw[dH];lia
 refine oo (oo (aaW h0 h1 h3 hr (by lia) (by lia) p0) (wm (nk h2) (by lia)) ?_) (oq (om h0 hr) (l8 (nk h1)) qi (wj (by lia))) ?_ <;>
  (try simp only[bK,dq])<;>lia
def Jb(K:Frag):Sp:=λvs H Q _=>∃(p:Int)(a b:Addr)(l m:Nat)(aO:LL)(r':Nat)(cf:LL)(e:Nat),vs=[.int p,.ref a,.ref b]∧p∈cb∧eK K H a l m aO∧eK K H b m r' cf∧l≤100∧m≤100∧r'≤100∧e≤200∧aO.length≤400∧cf.length≤400∧bw p (l+m+e) aO∧bw p (m+r'+e) cf∧
 ∀v H' ZS,aL H H'→H' v=some (.lst ZS)→bI K H' ZS ((pk p l m r' aO cf).map cJ)→Q (.ref v) H'
noncomputable abbrev P6:List Str:=["p","one","other","left","between","behind","ahead","follow"]
theorem wx:c8 ["p","one","other","left","between","behind","ahead","follow"] ["p","one","other"] (bq yZ):=dv rfl rfl rfl (by decide +kernel) rfl
def Ds(K:Frag):TS:=cI (dj (eW K 1 0) (bN 3)) (cI (dj (eW K 1 1) (bN 4)) (cI (dj (uq (aW 3) (aW 4)) (bN 5)) (cI (dj (p9 (rS K (eW K 1 2)) 1 [5,3,2] (bN 0) kH (Dp K)) (bN 6)) (cI (dj (p9 (rS K (eW K 2 2)) 1 [4,3,0] (bN 0) kH (Dq K)) (bN 7)) (fK (bp eh (aW 6) (aW 7)))))))
theorem aaZ{D:Ends}{p:Int}{a b:Addr}{l m:Nat}{aO:LL}{r':Nat}{cf:LL}{e:Nat}{H:Hp}(pp:p∈cb)(hf:eK K H a l m aO)(fE:eK K H b m r' cf)(b1:l≤100)(b2:m≤100)(b4:r'≤100)(he:e≤200)(z1:aO.length≤400)(z2:cf.length≤400)(hR:bw p (l+m+e) aO)(gU:bw p (m+r'+e) cf)
  (q:∀v H' ZS,aL H H'→H' v=some (.lst ZS)→bI K H' ZS ((pk p l m r' aO cf).map cJ)→D.rt (.ref v) H'):Ds K D [some (.int p),some (.ref a),some (.ref b),none,none,none,none,none] H:=by
 obtain⟨t,RS,h1,h2,h3⟩:=hf;obtain⟨t',P0,nu,wu,Dm⟩:=fE;have jj:(1000:Nat)≤sizeLine:=by decide
 have p0:0<p:=by have:=eI p pp;lia
 unfold Ds;refine iK (j:=0) rfl h1 rfl H (.refl _) _ ?_;refine iK (j:=1) rfl h1 rfl H (.refl _) _ ?_;refine Df (i:=(l:Int)) (j:=(m:Int)) (nk rfl) (nk rfl) H (.refl _) _ ?_;refine⟨_,rfl,a,_,2,_,rfl,rfl,h1,bu (j:=2) rfl,t,rfl,⟨_,h2⟩,?_⟩;refine Dg (f:=sJ l m r') (cp:=[some (.int ((l:Int)+(m:Int))),some (.int (l:Int)),some (.ref b)]) h2 h3 (by lia) (λrow ra H1 gI s1 fe=>aaX rfl (by rw[show((l+m:Nat):Int)=(l:Int)+(m:Int) by lia];rfl) rfl rfl fe (s1.bo nu) (hR row gI).1 he b1 b2 b4) ?_;intro H1 ZS s1 hZ la jG;refine⟨_,rfl,b,_,2,_,rfl,rfl,(s1.trans (.upd jG)).bo nu,bu (j:=2) rfl,t',rfl,⟨_,(s1.trans (.upd jG)).bo wu⟩,?_⟩;have uv:(upd H1 la (.lst ZS)) la=some (.lst ZS):=aQ;have nv:=hZ.mono (aL.upd jG (o:=.lst ZS));have sA:aL H (upd H1 la (.lst ZS)):=s1.trans (.upd jG);generalize upd H1 la (.lst ZS)=H2 at uv nv sA ⊢;refine Dg (f:=sM p l m) (cp:=[some (.int (m:Int)),some (.int (l:Int)),some (.int p)]) (sA.bo wu) (Dm.mono sA) (by lia) (λrow ra H3 gI s3 fe=>aaY (r':=r') rfl rfl rfl rfl fe (gU row gI).1 he b1 b2 b4 p0) ?_;intro H3 YS s3 hY lb sG;have sB:aL H2 (upd H3 lb (.lst YS)):=s3.trans (.upd sG);have sH:(upd H3 lb (.lst YS)) lb=some (.lst YS):=aQ;have qj:=hY.mono (aL.upd sG (o:=.lst YS));generalize upd H3 lb (.lst YS)=H4 at sB sH qj ⊢;have eZ:=fj nv;have eY:=fj qj;rw[ba]at eZ eY;refine⟨_,rfl,_,rfl,la,lb,ZS,YS,rfl,rfl,sB _ _ uv,sH,by lia,λlc mZ=>?_⟩;have sD:=aL.upd (o:=.lst (ZS++YS)) mZ;refine q lc _ (ZS++YS) (sA.trans (sB.trans sD)) aQ ?_;unfold pk;rw[dE];exact((nv.mono sB).mono sD).append (qj.mono sD)
end
section
variable{P:Program}{w:World}{K:Frag}{mg:Str→Option Value}{base:Heap}
theorem P7{f:Addr}{fd:FuncData}(F:bZ K "facing" "facing" yZ f fd)(T:Txt mg):bf P w K mg base bj 1 f fd ["p","one","other"] (Jb K):=by
 refine F.ok wx (λvs H Q E h=>?_) (λbt A outer s H vs Q E hr h=>?_)
 ·obtain⟨p,a,b,l,r,aO,r',cf,e,rfl,_⟩:=h;rfl
 ·obtain⟨p,a,b,l,m,aO,r',cf,e,rfl,pp,hf,fE,b1,b2,b4,he,z1,z2,hR,gU,q⟩:=h;refine⟨Ds K,?_,?_⟩
  ·unfold Ds;refine aX ?_ ?_
   ·exact bH (i:=3) wx.nd rfl (Or.inr rfl) (bh (cT K rfl) (pv 1) aR (λ_ _=>rfl))
   refine aX ?_ ?_
   ·exact bH (i:=4) wx.nd rfl (Or.inr rfl) (bh (cT K rfl) (pv 1) aR (λ_ _=>rfl))
   refine aX ?_ ?_
   ·exact bH (i:=5) wx.nd rfl (Or.inr rfl) (aV eB (pv 3) (pv 4))
   refine aX ?_ ?_
   ·refine jX (N:=["row","behind","left","other"]) (own:=1) (caps:=[5,3,2]) (i:=6) (te:=Dp K) rfl wx.nd rfl rfl ?_ ?_ ?_ ?_ ?_
    ·exact n6 K rfl (bh (cT K rfl) (pv 1) aR (λ_ _=>rfl))
    ·exact(show dR P6 (bq yZ) ["row","behind","left","other"] 1 [5,3,2] _ from .mk' (by decide +kernel))
    ·exact λ_ _ _ _ _=>cj (i:=0) aaR rfl (.inl rfl)
    ·exact λ_ _ _ _ _=>gz
    ·intro _ _ _ _ _;unfold Dp;refine aV (iH K rfl) ?_ ?_
     ·refine aV (iH K rfl) ?_ ?_
      ·refine aV (iH K rfl) ?_ ?_
       ·exact dB (jE K rfl) (pv 0) (cZ (pv 2)) (cZ (pv 1))
       ·exact dB (jE K rfl) (pv 0) dZ (cZ (pv 2))
      ·exact aV (tW K rfl) (fu (aK aR aM)) (bh (cT K rfl) (pv 3) aR (λ_ _=>rfl))
     ·exact dB (jE K rfl) (pv 0) (cZ (pv 1)) dZ
   refine aX ?_ ?_
   ·refine jX (N:=["row","between","left","p"]) (own:=1) (caps:=[4,3,0]) (i:=7) (te:=Dq K) rfl wx.nd rfl rfl ?_ ?_ ?_ ?_ ?_
    ·exact n6 K rfl (bh (cT K rfl) (pv 2) aR (λ_ _=>rfl))
    ·exact(show dR P6 (bq yZ) ["row","between","left","p"] 1 [4,3,0] _ from .mk' (by decide +kernel))
    ·exact λ_ _ _ _ _=>cj (i:=0) aaS rfl (.inl rfl)
    ·exact λ_ _ _ _ _=>gz
    ·intro _ _ _ _ _;unfold Dq;refine aV (iH K rfl) ?_ ?_
     ·refine aV (iH K rfl) ?_ ?_
      ·unfold Dn;refine fw (lV K rfl) rfl T.tuple jY ?_;refine aK ?_ aM ?_
       ·refine mY (N:=["number","p"]) (own:=1) (caps:=[3]) rfl ?_ ?_ ?_ ?_ ?_
        ·exact n6 K rfl (dB (jE K rfl) (pv 0) dZ (cZ (pv 1)))
        ·exact(dR.mk' (by kernel_rfl))
        ·exact λ_ _ _ _ _=>cj (i:=0) aaT rfl (.inl rfl)
        ·exact λ_ _ _ _ _=>gz
        ·exact λ_ _ _ _ _=>aV ft (rT rV (pv 0)) (pv 1)
       ·rfl
      ·exact aV (tW K rfl) (fu (aK aR aM)) (pv 2)
     ·exact dB (jE K rfl) (pv 0) (cZ (pv 1)) dZ
   refine bg ?_;exact bY (te:=bp eh (aW 6) (aW 7)) (aV dh (pv 6) (pv 7))
  ·exact aaZ pp hf fE b1 b2 b4 he z1 z2 hR gU q
end
section
variable{P:Program}{w:World}{K:Frag}{mg:Str→Option Value}{base:Heap}
def Jc(K:Frag):Sp:=λvs H Q _=>∃(p:Int)(a b:Addr)(l m:Nat)(aO:LL)(r':Nat)(cf:LL)(e:Nat),vs=[.int p,.ref a,.ref b]∧p∈cb∧eK K H a l m aO∧eK K H b m r' cf∧l≤100∧m≤100∧r'≤100∧e≤200∧aO.length≤400∧cf.length≤400∧bw p (l+m+e) aO∧bw p (m+r'+e) cf∧
 ∀v H',aL H H'→eK K H' v l r' (ou p l m r' aO cf)→Q (.ref v) H'
noncomputable abbrev nTh:List Str:=["p","one","other","between","met"]
theorem Jd:c8 ["p","one","other","between","met"] ["p","one","other"] (bq CB):=dv rfl rfl rfl (by decide +kernel) rfl
def aa0(K:Frag):List V→Hp→VK→Prop:=λxs H Q=>∃p ns,xs=[.ref p]∧bc K H p (List.map V.int ns)∧Q (.bl (ns.any λn=>n != 0)) H
def Je(K:Frag):TT:=L8 (tB (ko (aa0 K) (aY (iG (kX K) (aW 0) jd (hU (aW 1))) bV)))
def Jf(K:Frag):TE:=iG (kX K) (aW 0) (hU (aW 1)) jd
def Dt(K:Frag):TS:=cI (dj (eW K 1 1) (bN 3))
 (cI (dj (p9 (rS K (iV (so K) [] E0 (aY (aW 0) (aY (iV (Jb K) [] E0 (aY (aW 0) (aY (aW 1) (aY (aW 2) bV)))) bV)))) 1 [3] (bN 0) (Je K) (Jf K)) (bN 4)) (fK (lP (aY (eW K 1 0) (aY (eW K 2 1) (aY (ko (Ja K) (aY (aW 4) bV)) bV))))))
theorem aa1{H1:Hp}{t:Addr}{RS:List V}{aO:LL}{g:List Int→Bool}{f:List Int→List Int}{cp:St}{tt:TT}{te:TE}{Q:VK}(h2:bc K H1 t RS)(h3:bI K H1 RS (aO.map cJ))(hz:aO.length≤1000)
  (test:∀row ra H,row∈aO→aL H1 H→bc K H ra (row.map V.int)→∀R:Bool→Hp→Prop,(∀H',aL H H'→R (g row) H')→tt (some (.ref ra)::cp) H R)
  (step:∀row ra H,row∈aO→aL H1 H→bc K H ra (row.map V.int)→l7 K te (some (.ref ra)::cp) H (f row))
  (done:∀H ZS,aL H1 H→bI K H ZS (((aO.filter g).map f).map cJ)→∀p,H p=none→Q (.ref p) (upd H p (.lst ZS))) :
  ∃W:Nat→Nat→St→Hp→List V→Prop,(∃m,W 0 m (List.replicate 1 none++cp) H1 [])∧kI (qJ K t) (bN 0) tt te Q W:=by
 have jj:(1000:Nat)≤sizeLine:=by decide
 have CN:=fj h3;refine yn (xs:=RS) (cp:=cp) (λi H' zs=>bI K H' zs ((((aO.take i).filter g).map f).map cJ)) h2 (by lia) .nil (λi H' zs h=>by rw[fj h,ba];exact fg (List.length_filter_le _ _) (by rw[cH];exact Nat.min_le_left _ _)) ?_ ?_
 ·rintro i v H2 zs hv sm h;obtain⟨row,ra,gH,rfl,fe⟩:=ni h3 hv;have hm:=da gH;refine test row ra H2 hm sm (sm.bo fe) _ λH3 s3=>?_;have et:(aO.take (i+1)).filter g=(aO.take i).filter g++[row].filter g:=by
   rw[gq,gH];exact AR ..
  cases hg:g row with
  |true=>
   refine dy (step row ra H3 hm (sm.trans s3) ((sm.trans s3).bo fe) H3 (.refl _) _ λu H4 s4 hu=>⟨⟨[_],rfl,rfl⟩,sm.trans (s3.trans s4),?_⟩);show bI K H4 _ ((((aO.take (i+1)).filter g).map f).map cJ);rw[et,List.filter_cons,hg,af rfl,List.filter_nil,dE,dE];exact(h.mono (s3.trans s4)).append (.cons (lU hu) .nil)
  |false=>
   refine cD ⟨⟨[_],rfl,rfl⟩,sm.trans s3,?_⟩;show bI K H3 _ ((((aO.take (i+1)).filter g).map f).map cJ);rw[et,List.filter_cons,hg,ag (by decide),List.filter_nil,iB];exact h.mono s3
 ·rintro H2 ZS sm hZ lz sy;rw[lH (by lia)]at hZ;exact done H2 ZS sm hZ lz sy
theorem aa2{D:Ends}{p:Int}{a b:Addr}{l m:Nat}{aO:LL}{r':Nat}{cf:LL}{e:Nat}{H:Hp}(pp:p∈cb)(hf:eK K H a l m aO)(fE:eK K H b m r' cf)(b1:l≤100)(b2:m≤100)(b4:r'≤100)(he:e≤200)(z1:aO.length≤400)(z2:cf.length≤400)(hR:bw p (l+m+e) aO)(gU:bw p (m+r'+e) cf)
  (q:∀v H',aL H H'→eK K H' v l r' (ou p l m r' aO cf)→D.rt (.ref v) H'):Dt K D [some (.int p),some (.ref a),some (.ref b),none,none] H:=by
 have jj:(1000:Nat)≤sizeLine:=by decide
 have p0:0<p:=by have:=eI p pp;lia
 have hF:=zk p0 hR gU;have RO:=gP pp hF;have cE:=y6 hF;obtain⟨t,RS,h1,h2,h3⟩:=id hf;obtain⟨t',P0,nu,wu,Dm⟩:=id fE;unfold Dt;refine iK (j:=1) rfl h1 rfl H (.refl _) _ ?_;refine⟨_,rfl,_,rfl,_,rfl,_,rfl,p,a,b,l,m,aO,r',cf,e,rfl,pp,hf,fE,b1,b2,b4,he,z1,z2,hR,gU,λlf H1 ZS s1 qk hZ=>?_⟩;refine⟨p,lf,true,ZS,pk p l m r' aO cf,m+(l+r')+e,rfl,pp,.of qk,hZ,by unfold pk;rw[bK,ba,ba];lia,by lia,hF,λt2 H2 DS s2 qg zh=>?_⟩;refine⟨t2,rfl,⟨_,qg⟩,?_⟩;have sA:=s1.trans s2;refine aa1 (g:=ot m) (f:=λrow=>row.drop m) (cp:=[some (.int (m:Int))]) qg zh (by lia) (λrow ra H3 gI s3 fe R hR3=>?_) (λrow ra H3 gI s3 fe=>?_) ?_
 ·have hl:=(RO.rws row gI).1;refine oq (K:=K) (ms:=row.take m) (om rfl fe) qi (l8 (nk rfl)) (wg (by lia)) H3 (.refl _) _ λu H4 s4 hu=>?_;exact⟨u,row.take m,rfl,hu,_,rfl,hR3 H4 s4⟩
 ·have hl:=(RO.rws row gI).1;exact oq (K:=K) (om rfl fe) (l8 (nk rfl)) qi (wj (by lia))
 intro H3 YS s3 hY lb sG;have sB:aL H2 (upd H3 lb (.lst YS)):=s3.trans (.upd sG);have sH:(upd H3 lb (.lst YS)) lb=some (.lst YS):=aQ;have qj:=hY.mono (aL.upd sG (o:=.lst YS));generalize upd H3 lb (.lst YS)=H4 at sB sH qj ⊢;have sC:=sA.trans sB;refine iK (j:=0) rfl (sC.bo h1) rfl H4 (.refl _) _ ?_;refine iK (j:=1) rfl (sC.bo nu) rfl H4 (.refl _) _ ?_;refine⟨_,rfl,lb,YS,rfl,.inl ⟨.of sH,λtt Jg=>⟨(by show 3≤sizeLine;lia),λv hv=>?_⟩⟩⟩;have sv:=(aL.upd (o:=.tup YS) Jg).trans (aL.upd hv (o:=.tup [.int (l:Int),.int (r':Int),.ref tt]));exact q v _ (sC.trans sv) ⟨tt,YS,.of aQ,(aL.upd hv).bo (.of aQ),qj.mono sv⟩
theorem P8{f fD fC:Addr}{fd pf gQ:FuncData}(F:bZ K "form_of_then" "form_of_then" CB f fd)(T:Txt mg)
  (GD:bf P w K mg base bj 3 fD pf ["p","rows"] (so K)) (kD:Kp K fD) (bD:Binds K pf ["p","rows"] []) (mD:Mg mg "reduced" fD)
  (GC:bf P w K mg base bj 1 fC gQ ["p","one","other"] (Jb K)) (kC:Kp K fC) (bC:Binds K gQ ["p","one","other"] []) (mC:Mg mg "facing" fC):bf P w K mg base bj 4 f fd ["p","one","other"] (Jc K):=by
 refine F.ok Jd (λvs H Q E h=>?_) (λbt A outer s H vs Q E hr h=>?_)
 ·obtain⟨p,a,b,l,r,aO,r',cf,e,rfl,_⟩:=h;rfl
 ·obtain⟨p,a,b,l,m,aO,r',cf,e,rfl,pp,hf,fE,b1,b2,b4,he,z1,z2,hR,gU,q⟩:=h;have nj:dk 1 _:=hr.mono (by decide);refine⟨Dt K,?_,?_⟩
  ·unfold Dt;refine aX ?_ ?_
   ·exact bH (i:=3) Jd.nd rfl (Or.inr rfl) (bh (cT K rfl) (pv 1) aR (λ_ _=>rfl))
   refine aX ?_ ?_
   ·refine jX (N:=["row","between"]) (own:=1) (caps:=[3]) (i:=4) (te:=Jf K) (tt:=Je K) rfl Jd.nd rfl rfl ?_ ?_ ?_ ?_ ?_
    ·exact n6 K rfl (ck GD hr rfl mD kD bD .nil cu (aK (pv 0) (aK (ck GC nj rfl mC kC bC .nil cu (aK (pv 0) (aK (pv 1) (aK (pv 2) aM)))) aM)))
    ·exact(show dR nTh (bq CB) ["row","between"] 1 [3] _ from .mk' (by decide +kernel))
    ·exact λ_ _ _ _ _=>cj (i:=0) aaU rfl (.inl rfl)
    ·intro _ _ _ _ _;unfold Je;exact ya (p4 (ju (dO (Zp K rfl rfl) rfl T.any YL (aK (dB (jE K rfl) (pv 0) dZ (cZ (pv 1))) aM))))
    ·intro _ _ _ _ _;unfold Jf;exact dB (jE K rfl) (pv 0) (cZ (pv 1)) dZ
   refine bg ?_;refine bY (te:=lP (aY (eW K 1 0) (aY (eW K 2 1) (aY (ko (Ja K) (aY (aW 4) bV)) bV)))) ?_;refine fu ?_;refine aK ?_ ?_ ?_
   ·exact bh (cT K rfl) (pv 1) aR (λ_ _=>rfl)
   ·refine aK ?_ ?_ ?_
    ·exact bh (cT K rfl) (pv 2) aR (λ_ _=>rfl)
    ·refine aK ?_ aM ?_
     ·exact fw (lV K rfl) rfl T.tuple jY (aK (pv 4) aM)
     ·rfl
    ·rfl
   ·rfl
  ·exact aa2 pp hf fE b1 b2 b4 he z1 z2 hR gU q
end
section
variable{P:Program}{w:World}{K:Frag}{mg:Str→Option Value}{base:Heap}
inductive wy(K:Frag)(p:Int)(x:Str)(ps:List V)(H:Hp)(Q:VK):Prop where
 |old (h:C8 K p x ps H Q):wy K p x ps H Q
 |cK (a b:Addr) (l r:Nat) (aO:LL) (l' r':Nat) (cf:LL) (e:Nat) (hx:x="beside") (hp:ps=[.ref a,.ref b]) (hf:eK K H a l r aO) (fE:eK K H b l' r' cf) (b1:l≤100) (b2:r≤100) (b3:l'≤100) (b4:r'≤100) (he:e≤200) (z1:aO.length≤400) (z2:cf.length≤400) (hR:bw p (l+r+e) aO) (gU:bw p (l'+r'+e) cf)
   (q:∀v H',aL H H'→eK K H' v (l+l') (r+r') (cz p (pj l r l' r' aO cf))→Q (.ref v) H'):wy K p x ps H Q
 |aZ (a b:Addr) (l m:Nat) (aO:LL) (r':Nat) (cf:LL) (e:Nat) (hx:x="then") (hp:ps=[.ref a,.ref b]) (hf:eK K H a l m aO) (fE:eK K H b m r' cf) (b1:l≤100) (b2:m≤100) (b4:r'≤100) (he:e≤200) (z1:aO.length≤400) (z2:cf.length≤400) (hR:bw p (l+m+e) aO) (gU:bw p (m+r'+e) cf)
   (q:∀v H',aL H H'→eK K H' v l r' (ou p l m r' aO cf)→Q (.ref v) H'):wy K p x ps H Q
def P9(K:Frag):Sp:=λvs H Q _=>∃(p:Int)(x:Str)(pa:Addr)(ps:List V),vs=[.int p,.str x,.ref pa]∧p∈cb∧H pa=some (.lst ps)∧wy K p x ps H Q
abbrev wz(K:Frag)(i:Nat)(j:Int):TE:=bp (jV K) (aW i) (tC (.int j))
abbrev Du(x:Str):TT:=jx (bp oY (aW 1) (tC (.str x)))
def Qa(K:Frag):TE:=iV (IV K) [] E0 (aY (aW 0) (aY (wz K 2 0) bV))
def Qb(K:Frag):TE:=iV (I0 K) [] E0 (aY (aW 0) (aY (wz K 2 0) (aY (wz K 2 1) bV)))
def Qc(K:Frag):TE:=iV (Jc K) [] E0 (aY (aW 0) (aY (wz K 2 0) (aY (wz K 2 1) bV)))
def Jh(K:Frag):TE:=lP (aY (tC (.int 1)) (aY (tC (.int 1)) (aY (lP (aY (lP (aY (tC (.int 1)) (aY (wz K 2 0) bV))) bV)) bV)))
def Ji(K:Frag)(aB:Addr):TE:=nq K (iV (IT K) [] E0 (aY (lP (aY (aW 1) bV)) bV)) (lP (aY (Co aB (gj K aB) (tC (.ref aB)) (aW 1)) bV))
def Dv(K:Frag)(aB:Addr):TS:=cI (eG (Du "back") (fK (Qa K)) ik) (cI (eG (Du "beside") (fK (Qb K)) ik) (cI (eG (Du "then") (fK (Qc K)) ik) (cI (eG (Du "times") (fK (Jh K)) ik) (fK (Ji K aB)))))
theorem tw1:("beside":Str) ≠ "back":=by decide +kernel
theorem tw2:("then":Str) ≠ "back":=by decide +kernel
theorem tw3:("then":Str) ≠ "beside":=by decide +kernel
theorem aa3{D:Ends}{aS aB:Addr}{p:Int}{x:Str}{pa:Addr}{ps:List V}{H:Hp}(B:pe K mg aS aB)(pp:p∈cb)(kf:H pa=some (.lst ps))(A:wy K p x ps H D.rt):Dv K aB D [some (.int p),some (.str x),some (.ref pa)] H:=by
 unfold Dv;cases A with
 |cK a b l r aO l' r' cf e hx hp hf fE b1 b2 b3 b4 he z1 z2 hR gU q=>
  subst hx hp;refine⟨_,rfl,rfl,_,rfl,qh tw1 ⟨_,rfl,rfl,_,rfl,C7 ?_⟩⟩;exact⟨_,rfl,_,rfl,pa,_,0,_,rfl,rfl,.of kf,bu (j:=0) rfl,_,rfl,pa,_,1,_,rfl,rfl,.of kf,bu (j:=1) rfl,p,a,b,l,r,aO,l',r',cf,e,rfl,pp,hf,fE,b1,b2,b3,b4,he,z1,z2,hR,gU,q⟩
 |aZ a b l m aO r' cf e hx hp hf fE b1 b2 b4 he z1 z2 hR gU q=>
  subst hx hp;refine⟨_,rfl,rfl,_,rfl,qh tw2 ⟨_,rfl,rfl,_,rfl,qh tw3 ⟨_,rfl,rfl,_,rfl,C7 ?_⟩⟩⟩;exact⟨_,rfl,_,rfl,pa,_,0,_,rfl,rfl,.of kf,bu (j:=0) rfl,_,rfl,pa,_,1,_,rfl,rfl,.of kf,bu (j:=1) rfl,p,a,b,l,m,aO,r',cf,e,rfl,pp,hf,fE,b1,b2,b4,he,z1,z2,hR,gU,q⟩
 |old A=>
  cases A with
  |back a l r e aO hx hp hf hl eU he hz hR q=>
   subst hx hp;refine⟨_,rfl,rfl,_,rfl,C7 ?_⟩;exact⟨_,rfl,_,rfl,pa,_,0,_,rfl,rfl,.of kf,bu (j:=0) rfl,p,a,l,r,e,aO,rfl,pp,hf,hl,eU,he,hz,hR,q⟩
  |times n hx hp q=>
   subst hx hp;refine⟨_,rfl,rfl,_,rfl,qh ts1 ⟨_,rfl,rfl,_,rfl,qh ts2 ⟨_,rfl,rfl,_,rfl,qh ts3 ⟨_,rfl,rfl,_,rfl,C7 ?_⟩⟩⟩⟩;refine⟨_,rfl,pa,_,0,_,rfl,rfl,.of kf,bu (j:=0) rfl,(by show 2≤sizeLine;decide),λt1 g1=>⟨(by show 1≤sizeLine;decide),λt2 g2=>⟨(by show 3≤sizeLine;decide),λt3 g3=>?_⟩⟩⟩;exact q t3 _ ((aL.upd g1).trans ((aL.upd g2).trans (.upd g3))) ⟨t2,[.ref t1],.of aQ,(aL.upd g3).bo (.of aQ),.cons (lU (r:=[1,n]) ((aL.upd g3).bo ((aL.upd g2).bo (.of aQ)))) .nil⟩
  |box l r aO hx q=>
   obtain⟨n1,n2,n3,n4⟩:=aay _ hx;refine⟨_,rfl,rfl,_,rfl,qh n1 ⟨_,rfl,rfl,_,rfl,qh n2 ⟨_,rfl,rfl,_,rfl,qh n3 ⟨_,rfl,rfl,_,rfl,qh n4 ?_⟩⟩⟩⟩;obtain⟨_,t,e,ht⟩:=B.at_ hx;refine⟨_,rfl,(by show 1≤sizeLine;decide),λt1 g1=>⟨t1,x,l,r,aO,rfl,.of aQ,hx,λv H1 s1 hv=>?_⟩⟩;refine⟨_,rfl,x,_,rfl,rfl,e,(by show 1≤sizeLine;decide),λt2 g2=>⟨v,t2,_,_,rfl,rfl,(aL.upd g2).bo hv,.of aQ,(by show 2+1≤sizeLine;decide),λt3 H3 s3 IY=>?_⟩⟩;obtain⟨RS,k1,k2⟩:=ht H3;exact q t3 H3 ((aL.upd g1).trans (s1.trans ((aL.upd g2).trans s3))) ⟨t,RS,IY,k1,k2⟩
theorem Qd{aS aB f fB fS fT fW:Addr}{fd ma gG kY ow:FuncData}(F:bZ K "form" "form" HW f fd)(B:pe K mg aS aB)
  (GB:bf P w K mg base bj 4 fB ma ["p","one"] (IV K)) (kB:Kp K fB) (bB:Binds K ma ["p","one"] []) (mB:Mg mg "form_of_back" fB)
  (GS:bf P w K mg base bj 4 fS gG ["p","one","other"] (I0 K)) (kS:Kp K fS) (bS:Binds K gG ["p","one","other"] []) (mS:Mg mg "form_of_beside" fS)
  (GT:bf P w K mg base bj 4 fT kY ["p","one","other"] (Jc K)) (kT:Kp K fT) (bT:Binds K kY ["p","one","other"] []) (mT:Mg mg "form_of_then" fT)
  (GW:bf P w K mg base bj 5 fW ow ["words"] (IT K)) (kW:Kp K fW) (bW:Binds K ow ["words"] []) (mW:Mg mg "wires" fW):bf P w K mg base bj 6 f fd ["p","word","parts"] (P9 K):=by
 refine F.ok aaA (λvs H Q E h=>?_) (λbt A outer s H vs Q E hr h=>?_)
 ·obtain⟨p,x,pa,ps,rfl,_⟩:=h;rfl
 ·obtain⟨p,x,pa,ps,rfl,pp,kf,D⟩:=h;have Jj:dk 4 _:=hr.mono (by decide);refine⟨Dv K aB,?_,?_⟩
  ·unfold Dv;refine aX ?_ ?_
   ·refine cN ?_ ?_ df
    ·exact cC dM (pv 1) cq (cx _)
    ·refine bg ?_;refine bY (te:=Qa K) ?_;exact ck GB Jj rfl mB kB bB .nil cu (aK (pv 0) (aK (bh (cA K rfl) (pv 2) aR (λ_ _=>rfl)) aM))
   refine aX ?_ ?_
   ·refine cN ?_ ?_ df
    ·exact cC dM (pv 1) cq (cx _)
    ·refine bg ?_;refine bY (te:=Qb K) ?_;exact ck GS Jj rfl mS kS bS .nil cu (aK (pv 0) (aK (bh (cA K rfl) (pv 2) aR (λ_ _=>rfl)) (aK (bh (cA K rfl) (pv 2) aR (λ_ _=>rfl)) aM)))
   refine aX ?_ ?_
   ·refine cN ?_ ?_ df
    ·exact cC dM (pv 1) cq (cx _)
    ·refine bg ?_;refine bY (te:=Qc K) ?_;exact ck GT Jj rfl mT kT bT .nil cu (aK (pv 0) (aK (bh (cA K rfl) (pv 2) aR (λ_ _=>rfl)) (aK (bh (cA K rfl) (pv 2) aR (λ_ _=>rfl)) aM)))
   refine aX ?_ ?_
   ·refine cN ?_ ?_ df
    ·exact cC dM (pv 1) cq (cx _)
    ·refine bg ?_;refine bY (te:=Jh K) ?_;unfold Jh;refine fu ?_;refine aK aR ?_ ?_
     ·refine aK aR ?_ ?_
      ·refine aK ?_ aM ?_
       ·refine fu ?_;refine aK ?_ aM ?_
        ·refine fu ?_;refine aK aR ?_ ?_
         ·refine aK ?_ aM ?_
          ·exact bh (cA K rfl) (pv 2) aR (λ_ _=>rfl)
          ·rfl
         ·exact IZ
        ·exact PH
       ·exact PH
      ·exact IZ
     ·exact IZ
   refine bg ?_;refine bY (te:=Ji K aB) ?_;unfold Ji;refine aV (iH K rfl) ?_ ?_
   ·exact ck GW hr rfl mW kW bW .nil cu (aK (fu (aK (pv 1) aM)) aM)
   ·refine fu ?_;refine aK ?_ aM ?_
    ·exact HP B.aau (lK (v:=.ref _) rfl B.nmB rfl) (pv 1) (λ_ _=>rfl)
    ·rfl
  ·exact aa3 B pp kf D
end
inductive Drw where
 |box (x:Str) (l r:Nat) (aO:LL)
 |times (n:Int)
 |back (d:Drw)
 |cK (a b:Drw)
 |aZ (a b:Drw)
namespace Drw
noncomputable def aN:Drw→List V
 |box x _ _ _=>[.str x]
 |times n=>[.str "times",.int n]
 |back d=>.str "back"::d.aN
 |cK a b=>.str "beside"::(a.aN++b.aN)
 |aZ a b=>.str "then"::(a.aN++b.aN)
noncomputable def bz:Drw→Nat×Nat
 |box _ l r _=>(l,r)
 |times _=>(1,1)
 |back d=>(d.bz.2,d.bz.1)
 |cK a b=>(a.bz.1+b.bz.1,a.bz.2+b.bz.2)
 |aZ a b=>(a.bz.1,b.bz.2)
noncomputable abbrev cU(d:Drw):Nat:=d.bz.1
noncomputable abbrev cL(d:Drw):Nat:=d.bz.2
def wf(p:Int):Drw→Prop
 |box x l r aO=>(x,l,r,aO)∈gT
 |times n=>0≤n∧n<p
 |back d=>d.wf p
 |cK a b=>a.wf p∧b.wf p
 |aZ a b=>a.wf p∧b.wf p∧a.cL=b.cU
noncomputable def aO(p:Int):Drw→LL
 |box _ _ _ aO=>aO
 |times n=>[[1,n]]
 |back d=>cz p ((d.aO p).map (jH d.cU d.cL))
 |cK a b=>cz p (pj a.cU a.cL b.cU b.cL (a.aO p) (b.aO p))
 |aZ a b=>ou p a.cU a.cL b.cL (a.aO p) (b.aO p)
theorem pos(d:Drw):1≤d.aN.length:=by cases d<;>simp[aN]
end Drw
theorem Qe:∀e∈gT,e.2.1≤2∧e.2.2.1≤2∧e.2.2.2.length≤2∧∀r∈e.2.2.2,r.length=e.2.1+e.2.2.1∧∀x∈r,0≤x∧x<2:=by decide +kernel
namespace Drw
theorem lY{p:Int}:∀{d:Drw},d.wf p→d.cU≤d.aN.length+1∧d.cL≤d.aN.length+1
 |box x l r aO,h=>by
  obtain⟨h1,h2,_⟩:=Qe _ h;exact⟨h1,h2⟩
 |times n,_=>by simp[cU,cL,bz,aN]
 |back d,h=>by
  have:=lY (d:=d) h
  simp only[cU,cL,bz,aN,eO]at this ⊢;lia
 |cK a b,h=>by
  have h1:=lY (d:=a) h.1;have h2:=lY (d:=b) h.2;simp only[cU,cL,bz,aN,eO,bK]at h1 h2 ⊢;lia
 |aZ a b,h=>by
  have h1:=lY (d:=a) h.1;have h2:=lY (d:=b) h.2.1;simp only[cU,cL,bz,aN,eO,bK]at h1 h2 ⊢;lia
def sm:Drw→Prop
 |back d=>d.sm
 |cK a b=>a.sm∧b.sm∧a.cU+b.cU≤100∧a.cL+b.cL≤100
 |aZ a b=>a.sm∧b.sm
 |_=>True
theorem good{p:Int}(pp:p∈cb):∀{d:Drw},d.wf p→d.sm→d.cU≤100∧d.cL≤100∧(d.aO p).length≤400∧bw p (d.cU+d.cL) (d.aO p)
 |box x l r aO,h,_=>by
  obtain⟨p2,_⟩:=eI p pp;obtain⟨h1,h2,h3,h4⟩:=Qe _ h;refine⟨fg h1 (by decide),fg h2 (by decide),fg h3 (by decide),λr hr=>⟨(h4 r hr).1,λx hx=>?_⟩⟩
  have:=(h4 r hr).2 x hx
  lia
 |times n,h,_=>by
  obtain⟨p2,_⟩:=eI p pp;refine⟨by show 1≤100;decide,by show 1≤100;decide,by show 1≤400;decide,λr hr=>?_⟩;rw[cR.mp hr];refine⟨rfl,λx hx=>?_⟩;rcases(dP.mp hx)with z|z
  ·subst z;lia
  ·rw[cR.mp z];exact h
 |back d,h,hl=>by
  obtain⟨a1,a2,a3,a4⟩:=good pp (d:=d) h hl;have hS:bw p (d.cL+d.cU) ((d.aO p).map (jH d.cU d.cL)):=λx hx=>by
   obtain⟨y,hy,e⟩:=cY.mp hx;rw[← e];exact C6 (x:=0) (a4 y hy)
  have:=y6 hS
  exact⟨a2,a1,fg this (by lia),(gP pp hS).rws⟩
 |cK a b,h,hl=>by
  obtain⟨p2,_⟩:=eI p pp;obtain⟨a1,a2,a3,a4⟩:=good pp (d:=a) h.1 hl.1;obtain⟨b1,b2,b3,b4⟩:=good pp (d:=b) h.2 hl.2.1;have hS:=Dh (x:=0) (by lia) a4 b4;have hz:=y6 hS;have h3:=hl.2.2.1;have h4:=hl.2.2.2;exact⟨h3,h4,fg hz (by lia),(gP pp hS).rws⟩
 |aZ a b,h,hl=>by
  obtain⟨a1,a2,a3,a4⟩:=good pp (d:=a) h.1 hl.1;obtain⟨b1,b2,b3,b4⟩:=good pp (d:=b) h.2.1 hl.2;have b4:bw p (a.cL+b.cL) (b.aO p):=by rw[h.2.2];exact b4
  have hz:=aaQ (x:=0) pp a4 b4;exact⟨a1,b2,fg hz (by lia),P5 (x:=0) pp a4 b4⟩
end Drw
inductive Itm where
 |num (n:Int)
 |cQ (d:Drw)
namespace Itm
noncomputable def aN:Itm→List V
 |num n=>[.int n]
 |cQ d=>d.aN
noncomputable def head:Itm→V
 |num n=>.int n
 |cQ (.box x _ _ _)=>.str x
 |cQ (.times _)=>.str "times"
 |cQ (.back _)=>.str "back"
 |cQ (.cK _ _)=>.str "beside"
 |cQ (.aZ _ _)=>.str "then"
noncomputable def kids:Itm→List Itm
 |num _=>[]
 |cQ (.box _ _ _ _)=>[]
 |cQ (.times n)=>[num n]
 |cQ (.back d)=>[cQ d]
 |cQ (.cK a b)=>[cQ a,cQ b]
 |cQ (.aZ a b)=>[cQ a,cQ b]
theorem Jk(t:Itm):t.aN=t.head::t.kids.flatMap aN:=by
 cases t with
 |num n=>rfl
 |cQ d=>cases d<;>simp[aN,head,kids,Drw.aN]
theorem pos(t:Itm):1≤t.aN.length:=by rw[Jk];simp
def wf(p:Int):Itm→Prop
 |num _=>True
 |cQ d=>d.wf p∧d.sm
theorem aa4{p:Int}{t:Itm}(h:t.wf p):∀u∈t.kids,u.wf p:=by
 cases t with
 |num n=>intro u hu;cases hu
 |cQ d=>
  obtain⟨h1,h2⟩:=h;cases d with
  |box=>intro u hu;cases hu
  |times n=>intro u hu;rw[cR.mp hu];exact True.intro
  |back d=>
   intro u hu;rw[cR.mp hu];exact⟨h1,h2⟩
  |cK a b=>
   intro u hu;rcases(dP.mp hu)with z|z
   ·rw[z];exact⟨h1.1,h2.1⟩
   ·rw[cR.mp z];exact⟨h1.2,h2.2.1⟩
  |aZ a b=>
   intro u hu;rcases(dP.mp hu)with z|z
   ·rw[z];exact⟨h1.1,h2.1⟩
   ·rw[cR.mp z];exact⟨h1.2.1,h2.2⟩
end Itm
noncomputable def e8:List Itm→Nat→List Itm
 |ts,0=>ts
 | [],_+1=>[]
 |t::ts,i+1=>e8 (t.kids++ts) i
theorem Dw(i:Nat):e8 [] i=[]:=by cases i<;>rfl
theorem Dx:∀(i:Nat)(ts:List Itm),(e8 ts i).flatMap Itm.aN=(ts.flatMap Itm.aN).drop i
 |0,ts=>rfl
 |i+1,[]=>rfl
 |i+1,t::ts=>by
  show(e8 (t.kids++ts) i).flatMap Itm.aN=_;rw[Dx i,List.flatMap_append,List.flatMap_cons,Itm.Jk,tu,List.drop_succ_cons]
theorem Qf:∀(i:Nat)(ts:List Itm),e8 ts (i+1)=e8 (e8 ts i) 1
 |0,ts=>rfl
 |i+1,[]=>by rw[Dw,Dw];rfl
 |i+1,t::ts=>by
  show e8 (t.kids++ts) (i+1)=e8 (e8 (t.kids++ts) i) 1;exact Qf i _
theorem Qg{p:Int}:∀(i:Nat){ts:List Itm},(∀t∈ts,t.wf p)→∀t∈e8 ts i,t.wf p
 |0,ts,h=>h
 |i+1,[],h=>by intro t ht;rw[Dw]at ht;cases ht
 |i+1,t::ts,h=>Qg i (ts:=t.kids++ts) λu hu=>by
  rcases(c9.mp hu)with z|z
  ·exact Itm.aa4 (h t dN) u z
  ·exact h u (gp _ z)
theorem wC{ts:List Itm}{i:Nat}(h:i<(ts.flatMap Itm.aN).length):∃t r,e8 ts i=t::r∧(ts.flatMap Itm.aN)[i]?=some t.head∧e8 ts (i+1)=t.kids++r:=by
 have e:=Dx i ts;cases hs:e8 ts i with
 |nil=>
  rw[hs]at e
  have:=aj List.length e
  simp only[List.flatMap_nil,List.length_nil,dH]at this;lia
 |cons t r=>
  refine⟨t,r,rfl,?_,by rw[Qf,hs];rfl⟩;rw[hs,List.flatMap_cons,Itm.Jk,tu]at e;have z:((ts.flatMap Itm.aN).drop i)[0]?=some t.head:=by rw[← e];rfl
  rwa[uX,Nat.add_zero]at z
theorem Jl:∀ts:List Itm,ts.length≤(ts.flatMap Itm.aN).length
 | []=>jq _
 |t::ts=>by
  have:=Jl ts
  have:=t.pos
  rw[List.flatMap_cons,bK,eO];lia
theorem Qh{ts:List Itm}:e8 ts (ts.flatMap Itm.aN).length=[]:=by
 have e:=Jl (e8 ts (ts.flatMap Itm.aN).length);rw[Dx,List.drop_length]at e;exact List.eq_nil_of_length_eq_zero (Nat.le_zero.mp e)
theorem Qi{ts:List Itm}{i:Nat}:(e8 ts i).length≤(ts.flatMap Itm.aN).length:=by
 have e:=Jl (e8 ts i);rw[Dx,dH]at e;lia
end S21
namespace S21
open PySem L2 Bw
variable{D L:LL}{a b:Drw}{f fF fM:Addr}{fd lC iJ:FuncData}{j m n r' x:Nat}{ls:List Nat}{p:Int}{row:List Int}{s:Nat→Option (Int×Nat)}{u v:Fn}
theorem Qj:∀e∈gT,l6 e.1=0:=Pq
theorem Qk:l6 "beside"=2:=by decide +kernel
theorem Ql:l6 "then"=2:=by decide +kernel
theorem aa5:∀e∈gT,kr (.str e.1) (.str "late")=false:=by decide +kernel
theorem Dy:kr (.str "back") (.str "late")=false∧kr (.str "beside") (.str "late")=false∧kr (.str "then") (.str "late")=false∧kr (.str "times") (.str "late")=false:=by decide +kernel
theorem aa6(n:Int):kr (.int n) (.str "late")=false:=rfl
theorem Drw.wD{p:Int}:∀{d:Drw},d.wf p→∀v∈d.aN,kq v=true∧kr v (.str "late")=false
 | .box x l r aO,h=>λv hv=>by
  rw[cR.mp hv];exact⟨rfl,aa5 _ h⟩
 | .times n,_=>λv hv=>by
  rcases(dP.mp hv)with z|z
  ·rw[z];exact⟨rfl,Dy.2.2.2⟩
  ·rw[cR.mp z];exact⟨rfl,aa6 n⟩
 | .back d,h=>λv hv=>by
  rcases(dP.mp hv)with z|z
  ·rw[z];exact⟨rfl,Dy.1⟩
  ·exact Drw.wD (d:=d) h v z
 | .cK a b,h=>λv hv=>by
  rcases(dP.mp hv)with z|z
  ·rw[z];exact⟨rfl,Dy.2.1⟩
  ·rcases(c9.mp z)with z|z
   ·exact Drw.wD (d:=a) h.1 v z
   ·exact Drw.wD (d:=b) h.2 v z
 | .aZ a b,h=>λv hv=>by
  rcases(dP.mp hv)with z|z
  ·rw[z];exact⟨rfl,Dy.2.2.1⟩
  ·rcases(c9.mp z)with z|z
   ·exact Drw.wD (d:=a) h.1 v z
   ·exact Drw.wD (d:=b) h.2.1 v z
def zl(K:Frag)(p:Int)(H:Hp):Itm→V→Prop
 | .num n,v=>v=.int n
 | .cQ d,v=>∃a,v=.ref a∧eK K H a d.cU d.cL (d.aO p)
inductive iL(K:Frag)(p:Int)(H:Hp):List Itm→List V→Prop where
 |nil:iL K p H [] []
 |cons {t:Itm} {ts:List Itm} {v:V} {vs:List V} (h:zl K p H t v) (r:iL K p H ts vs):iL K p H (t::ts) (v::vs)
section
variable{K:Frag}{p:Int}{H H':Hp}
theorem zl.tup{t:Itm}{v:V}(h:zl K p H t v)(s:fV H H'):zl K p H' t v:=by
 cases t with
 |num n=>exact h
 |cQ d=>
  obtain⟨a,e,hf⟩:=h;exact⟨a,e,hf.tup s⟩
theorem iL.tup{ts:List Itm}{vs:List V}(h:iL K p H ts vs)(s:fV H H'):iL K p H' ts vs:=by
 induction h with
 |nil=>exact .nil
 |cons h r ih=>exact .cons (h.tup s) ih
theorem iL.len{ts:List Itm}{vs:List V}(h:iL K p H ts vs):vs.length=ts.length:=by
 induction h with
 |nil=>rfl
 |cons h r ih=>rw[eO,eO,ih]
theorem iL.split:∀{ts us:List Itm}{vs:List V},iL K p H (ts++us) vs→∃xs ys,vs=xs++ys∧iL K p H ts xs∧iL K p H us ys
 | [],us,vs,h=>⟨[],vs,rfl,.nil,h⟩
 |t::ts,us,_,.cons h r=>by
  obtain⟨xs,ys,e,h1,h2⟩:=iL.split (ts:=ts) r;exact⟨_::xs,ys,by rw[e];rfl,.cons h h1,h2⟩
end
def Qm(K:Frag)(Pt:Addr):Sp:=λvs H Q _=>∃(p:Int)(aw:Addr)(d:Drw),vs=[.int p,.ref aw]∧p∈cb∧d.wf p∧d.sm∧d.aN.length≤900000∧bc K H aw d.aN∧fi H Pt (ig fX) ij∧
 ∀td aU v H',aL (del Pt H) H'→fi H' Pt (ig fX) ij→H' td=some (.dK aU)→dU aU (Sum.inl 0)=some (.ref v)→eK K H' v d.cU d.cL (d.aO p)→Q (.ref td) H'
theorem Qn{c Pt fL fA:Addr}{kZ kd:FuncData}(F:bZ K "forms" "forms" jF f fd)(gM:fd.code=.ref c)(C:CodeHd base c Pt)(BB:sj mg base)
  (GL:bf P w K mg base bj 1 fL kZ ["words"] (PJ K)) (kL:Kp K fL) (bL:Binds K kZ ["words"] []) (mL:Mg mg "refuse_late" fL)
  (GA:sk P w K mg base 8 fA kd ["words","made"] (IJ 7 P w K mg base)) (kA:Kp K fA) (bA:Binds K kd ["words","made"] []) (mA:Mg mg "all_folded" fA)
  (GM:bf P w K mg base bj 6 fM iJ ["p","word","parts"] (P9 K)) (kM:Kp K fM) (bM:Binds K iJ ["p","word","parts"] []) (mM:Mg mg "form" fM) :
  bf P w K mg base bj 9 f fd ["p","words"] (Qm K Pt):=by
 refine F.ZA PV (λvs H Q E h=>?_) (λbt A outer s H vs Q E hcv hr h=>?_)
 ·obtain⟨p,aw,d,rfl,_⟩:=h;rfl
 ·obtain⟨p,aw,d,rfl,pp,hd,Jm,ux,hw,kg,q⟩:=h;have A0:bt=.ref c:=hcv.symm.trans gM;subst A0;have nj:dk 1 _:=hr.mono (by decide);refine⟨_,aX (jv (ck GL nj rfl mL kL bL .nil cu (aK (pv 1) aM))) (bg (bY (Cj GA hr rfl mA kA bA (aK (pv 1) (aK (Zs (c:=c) (Pt:=Pt) (cl:=zj s.heap.objs.size) rfl C BB aaE) aM))))),?_⟩;obtain⟨pst,hP⟩:=kg.tab;have wF:=Drw.wD hd;refine⟨_,rfl,aw,_,rfl,hw,oO.mpr λv hv=>(wF v hv).1,List.any_eq_false.mpr λv hv=>by rw[(wF v hv).2];decide,?_⟩;refine⟨_,rfl,kg,λfl HL HG uy aa7 hLF aJ sI I=>?_⟩;have sL:=Cf.same uy;have vh:∃u,RelV (.int p) u∧sI.heap.IsCell (zi s.heap.objs.size) (some u)∧HL (zi s.heap.objs.size)=none:=by
   obtain⟨mm,hn,hl⟩:=I.loc;obtain⟨u,r,l⟩:=hl 0 "p" (.int p) rfl rfl (.inr (.inl rfl));rcases l with⟨ip,_⟩|⟨_,c',gZ,vh⟩
   ·exact absurd (show(bq jF).names.lookup ("p":Str)=some .local from ip) (by decide +kernel)
   ·have tR:(cellsFrom (s.heap.objs.size+1) (bq jF).names []).lookup ("p":Str)=some c':=gZ;rw[PM]at tR;cases tR;exact⟨u,r,vh,I.nS _ _ gZ⟩
  have ew:([Itm.cQ d]).flatMap Itm.aN=d.aN:=by simp[Itm.aN]
  have Jn:∀t∈[Itm.cQ d],t.wf p:=λt ht=>by rw[cR.mp ht];exact⟨hd,Jm⟩
  refine⟨aw,fl,d.aN,λvs H' Q=>∃(i:Int)(x:Str)(pa:Addr)(ps:List V),vs=[.int i,.str x,.ref pa]∧H' pa=some (.lst ps)∧wy K p x ps H' Q,λi vs H=>iL K p H (e8 [.cQ d] i) vs.reverse,rfl,?_⟩;refine⟨sL.bo (bc.del hP hw),ux,?_,?_,λi vs H1 H2 h tp=>h.tup tp,λi vs H1 h=>?_,λi hi=>?_,λi n vs H1 h g=>?_,λi x vs H1 h g=>?_,?_,λtd aU vs v H' s' h1 h2 h3=>?_⟩
  ·refine aar (k:=6) (names:=["p"]) (caps:=[.int p]) (aaF I.ok.inj) hLF (λ_ _ _ us hu=>match us,hu with | [_,_,_],_=>rfl) (λj y hj=>?_) rfl (λvs H' Q ⟨i,x,pa,ps,e,_⟩=>by rw[e];rfl) (λc' A' adZ s' H' vs Q' eU gR hQ'=>?_)
   ·match j,hj with
    |0,hj=>
     have e : "p"=y:=c7 hj;subst e;obtain⟨u,r,h4,h5⟩:=vh;exact⟨_,_,u,rfl,rfl,r,h4,h5⟩
    |j+1,hj=>simp at hj
   ·obtain⟨i,x,pa,ps,rfl,kf,hF⟩:=hQ';refine⟨_,ck GM eU rfl mM kM bM .nil cu (aK (pv 3) (aK (pv 1) (aK (pv 2) aM))),?_⟩;exact⟨_,rfl,_,rfl,_,rfl,p,x,pa,ps,rfl,pp,kf,hF⟩
  ·show iL K p HL (e8 [.cQ d] d.aN.length) _;have e:=Qh (ts:=[.cQ d]);rw[ew]at e;rw[e];exact .nil
  ·have e:=h.len;have z:=Qi (ts:=[.cQ d]) (i:=i);rw[List.length_reverse]at e;rw[ew]at z;lia
  ·obtain⟨t,r,e1,e2,e3⟩:=wC (ts:=[.cQ d]) (i:=i) (by rw[ew];exact hi);rw[ew]at e2;rw[e2];cases t with
   |num n=>exact .inr ⟨n,rfl⟩
   |cQ d'=>cases d'<;>exact .inl ⟨_,rfl⟩
  ·obtain⟨t,r,e1,e2,e3⟩:=wC (ts:=[.cQ d]) (i:=i) (by rw[ew];exact(dz.mp h).1);rw[ew,h]at e2;cases t with
   |num m=>
    have e2:n=m:=V.int.inj (c7 e2);subst e2;have g:iL K p H1 (e8 [.cQ d] (i+1)) vs.reverse:=g;rw[e3]at g;show iL K p H1 (e8 [.cQ d] i) (vs++[V.int n]).reverse;rw[e1,u9];exact .cons rfl g
   |cQ d'=>cases d'<;>cases e2
  ·obtain⟨t,r,e1,e2,e3⟩:=wC (ts:=[.cQ d]) (i:=i) (by rw[ew];exact(dz.mp h).1);rw[ew,h]at e2;have zm:t.wf p:=Qg i Jn t (by rw[e1];exact dN);have g:iL K p H1 (e8 [.cQ d] (i+1)) vs.reverse:=g;rw[e3]at g;obtain⟨xs,ys,ev,g1,g2⟩:=g.split;have Jo:vs=ys.reverse++xs.reverse:=by rw[← u9,← ev,List.reverse_reverse]
   refine⟨ys.reverse,xs,Jo,?_,?_⟩
   ·have el:=g1.len;rw[el];cases t with
    |num m=>cases e2
    |cQ d'=>
     cases d' with
     |box x' l' r' cf=>
      have e2:x=x':=V.str.inj (c7 e2);subst e2;exact(Qj _ zm.1).symm
     |times n=>have e2:x=_:=V.str.inj (c7 e2);subst e2;exact PU.symm
     |back d'=>have e2:x=_:=V.str.inj (c7 e2);subst e2;exact PR.symm
     |cK a b=>have e2:x=_:=V.str.inj (c7 e2);subst e2;exact Qk.symm
     |aZ a b=>have e2:x=_:=V.str.inj (c7 e2);subst e2;exact Ql.symm
   ·intro pa H2 Q' tp hp hq;refine⟨_,_,pa,_,rfl,hp,?_⟩;have g1:=g1.tup tp;have g2:=g2.tup tp;have fin:∀v H3,aL H2 H3→zl K p H3 t v→Q' v H3:=λv H3 s3 hv=>hq v H3 s3 (by
     show iL K p H3 (e8 [.cQ d] i) _;rw[e1,u9,List.reverse_reverse];exact .cons hv (g2.tup s3.tup))
    cases t with
    |num m=>cases e2
    |cQ d'=>
     obtain⟨ql,cX⟩:=zm;cases d' with
     |box x' l' r' cf=>
      have e2:x=x':=V.str.inj (c7 e2);subst e2;exact .old (.box _ _ _ ql λv H3 s3 hv=>fin _ H3 s3 ⟨v,rfl,hv⟩)
     |times n=>
      have e2:x=_:=V.str.inj (c7 e2);subst e2;cases g1 with
      |cons h1 r1=>
       cases r1;have h1:_=V.int n:=h1;subst h1;exact .old (.times n rfl rfl λv H3 s3 hv=>fin _ H3 s3 ⟨v,rfl,hv⟩)
     |back d'=>
      have e2:x=_:=V.str.inj (c7 e2);subst e2;cases g1 with
      |cons h1 r1=>
       cases r1;obtain⟨a,rfl,hf⟩:=h1;obtain⟨b1,b2,b3,b4⟩:=Drw.good pp (d:=d') ql cX;exact .old (.back a _ _ 0 _ rfl rfl hf b1 b2 (by lia) (by lia) b4 λv H3 s3 hv=>fin _ H3 s3 ⟨v,rfl,hv⟩)
     |cK a b=>
      have e2:x=_:=V.str.inj (c7 e2);subst e2;cases g1 with
      |cons h1 r1=>
       cases r1 with
       |cons h2 r2=>
        cases r2;obtain⟨a1,rfl,hf⟩:=h1;obtain⟨a2,rfl,jk⟩:=h2;obtain⟨b1,b2,b3,b4⟩:=Drw.good pp (d:=a) ql.1 cX.1;obtain⟨c1,c2,c3,c4⟩:=Drw.good pp (d:=b) ql.2 cX.2.1;exact .cK a1 a2 _ _ _ _ _ _ 0 rfl rfl hf jk b1 b2 c1 c2 (by lia) b3 c3 b4 c4 λv H3 s3 hv=>fin _ H3 s3 ⟨v,rfl,hv⟩
     |aZ a b=>
      have e2:x=_:=V.str.inj (c7 e2);subst e2;cases g1 with
      |cons h1 r1=>
       cases r1 with
       |cons h2 r2=>
        cases r2;obtain⟨a1,rfl,hf⟩:=h1;obtain⟨a2,rfl,jk⟩:=h2;obtain⟨b1,b2,b3,b4⟩:=Drw.good pp (d:=a) ql.1 cX.1;obtain⟨c1,c2,c3,c4⟩:=Drw.good pp (d:=b) ql.2.1 cX.2;rw[← ql.2.2]at jk c4;exact .aZ a1 a2 _ _ _ _ _ 0 rfl rfl hf jk b1 b2 c2 (by lia) b3 c3 b4 c4 λv H3 s3 hv=>fin _ H3 s3 ⟨v,rfl,hv⟩
  ·cases d<;>exact⟨_,rfl⟩
  ·have h3:iL K p H' [.cQ d] (vs++[v]).reverse:=h3;rw[u9]at h3;cases h3 with
   |cons hv r=>
    obtain⟨a,rfl,hf⟩:=hv;exact q td aU a H' (sL.trans s') (aa7.mono s') h1 h2 hf
def Jp(K:Frag)(Pt:Addr):Sp:=λvs H Q _=>∃(p:Int)(aw:Addr)(d:Drw),vs=[.int p,.ref aw]∧p∈cb∧d.wf p∧d.sm∧d.aN.length≤900000∧bc K H aw d.aN∧fi H Pt (ig fX) ij∧
 ∀v RS H',aL (del Pt H) H'→fi H' Pt (ig fX) ij→bc K H' v RS→bI K H' RS ((d.aO p).map cJ)→Q (.ref v) H'
theorem Qo{Pt:Addr}(F:bZ K "plain" "plain" Cy f fd)
  (GF:bf P w K mg base bj 9 fF lC ["p","words"] (Qm K Pt)) (kF:Kp K fF) (bF:Binds K lC ["p","words"] []) (mF:Mg mg "forms" fF):bf P w K mg base bj 10 f fd ["p","words"] (Jp K Pt):=by
 refine F.ok PX (λvs H Q E h=>?_) (λbt A outer s H vs Q E hr h=>?_)
 ·obtain⟨p,aw,d,rfl,_⟩:=h;rfl
 ·obtain⟨p,aw,d,rfl,pp,hd,Jm,ux,hw,kg,q⟩:=h;refine⟨_,bg (bY (bh (cT K rfl) (yN (By hr) (ck GF hr rfl mF kF bF .nil cu (aK (pv 0) (aK (pv 1) aM))) aR (λ_ _=>rfl)) aR (λ_ _=>rfl))),?_⟩;refine⟨_,rfl,_,rfl,p,aw,d,rfl,pp,hd,Jm,ux,hw,kg,λtd aU v H' s' hL CY hv hF=>?_⟩;obtain⟨tt,RS,h1,h2,h3⟩:=hF;exact⟨td,_,rfl,hv▸oa.k (k:=Sum.inl 0) CY,v,_,2,_,rfl,rfl,h1,bu (j:=2) rfl,q tt RS H' s' hL h2 h3⟩
noncomputable def cV(s:Nat→Option (Int×Nat))(f:Fn):Fn:=λj=>match s j with
 |some (a,i)=>a*f i
 |none=>0
theorem aa8(h:gg p u v):gg p (cV s u) (cV s v):=λj=>by
 unfold cV;cases s j with
 |none=>exact⟨0,by simp⟩
 |some a=>
  have:p∣a.1*(u a.2-v a.2):=Fb (h a.2)
  show p∣a.1*u a.2-a.1*v a.2;rwa[pW]at this
theorem aa9{R R':Fn→Prop}(h:∀r,R r→Sp p R' (cV s r))(hv:Sp p R v):Sp p R' (cV s v):=by
 induction hv with
 |zero=>exact Sp.zero.of_eq λj=>by unfold cV;cases s j<;>simp
 | @add v r c _ hr ih=>
  refine(ih.plus c (h r hr)).of_eq λj=>?_;unfold cV;cases s j with
  |none=>simp
  |some a=>
   show a.1*v a.2+c*(a.1*r a.2)=a.1*(v a.2+c*r a.2);rw[Int.mul_add,← Int.mul_assoc,← Int.mul_assoc,rM c]
 |eC _ e ih=>exact .eC ih (aa8 e)
noncomputable def lD(w:Fn)(m:Nat):LL→List Nat→Fn
 |r::D,l::ls=>λj=>lD w m D ls j+(if m≤l then w l else 0)*fn r j
 |_,_=>λ_=>0
theorem Qp{l:Nat}{r:List Int}(h:∀j,j<l→r.getD j 0=0)(hm:m≤l):ot m r=true:=by
 unfold ot;rw[Bool.not_eq_true',List.any_eq_false];intro x hx;obtain⟨i,hi,rfl⟩:=mz.mp hx;rw[cH]at hi
 have:=h i (by lia)
 rw[List.getElem_take];rw[cW,cg (by lia)]at this;have e:r[i]=0:=this;simp[e]
theorem Qq{p:Int}{w:Fn}{m:Nat}:∀(D:LL)(ls:List Nat),(∀(i:Nat)(r:List Int)(l:Nat),D[i]?=some r→ls[i]?=some l→∀j,j<l→r.getD j 0=0)→Sp p (RS (D.filter (ot m))) (lD w m D ls)
 | [],_,_=>.zero
 |_::_,[],_=>.zero
 |r::D,l::ls,h=>by
  have ih:=Qq (p:=p) (w:=w) (m:=m) D ls λi r' l' h1 h2=>h (i+1) r' l' (by simpa using h1) (by simpa using h2);have sub:Sp p (RS ((r::D).filter (ot m))) (lD w m D ls):=ih.trans λf ⟨q,hq,e⟩=>.mem ⟨q,by
   rw[List.filter_cons];split
   ·exact gp _ hq
   ·exact hq,e⟩
  unfold lD;by_cases hm:m≤l
  ·simp only[hm,if_true];refine Sp.add (w l) sub ⟨r,?_,rfl⟩;rw[List.filter_cons,Qp (h 0 r l rfl rfl) hm,af rfl];exact dN
  ·simp only[hm,if_false,Int.zero_mul,pX];exact sub
theorem Qr{w:Fn}{m j:Nat}:∀(D:LL)(ls:List Nat),(∀(i:Nat)(r:List Int),D[i]?=some r→r.getD j 0=0)→lD w m D ls j=0
 | [],_,_=>rfl
 |_::_,[],_=>rfl
 |r::D,l::ls,h=>by
  show lD w m D ls j+_*r.getD j 0=0;rw[Qr D ls λi r' hr=>h (i+1) r' (by simpa using hr),h 0 r rfl];simp
theorem aba{w:Fn}{k:Nat}:∀(D:LL)(ls:List Nat),D.length=ls.length→ls[k]?=some j→(∀(i:Nat)(r:List Int),D[i]?=some r→r.getD j 0=if i=k then 1 else 0)→lD w m D ls j=if m≤j then w j else 0:=by
 induction k with
 |zero=>
  intro D ls hl hk h
  match D,ls,hl,hk with
  | [],[],_,hk=>simp at hk
  |r::D,l::ls,_,hk=>
   cases hk;show lD w m D ls j+(if m≤j then w j else 0)*r.getD j 0=_
   rw[Qr D ls λi r' hr=>by simpa using h (i+1) r' (by simpa using hr),h 0 r rfl];simp
 |succ k ih=>
  intro D ls hl hk h
  match D,ls,hl,hk with
  | [],[],_,hk=>simp at hk
  |r::D,l::ls,hl,hk=>
   show lD w m D ls j+_*r.getD j 0=_;rw[ih D ls (by simpa using hl) (by simpa using hk) λi r' hr=>by simpa using h (i+1) r' (by simpa using hr),h 0 r rfl];simp
theorem abb{w:Fn}(E:gO n n D ls)(h:Sp p (RS D) w)(hz:∀j,j<m→p∣w j):Sp p (RS (D.filter (ot m))) w:=by
 have s1:Sp p (RS (D.filter (ot m))) (lD w m D ls):=Qq D ls λi r l h1 h2=>(E.one i r l h1 h2).2;have s2:Sp p (RS D) (lD w m D ls):=s1.trans λf ⟨q,hq,e⟩=>.mem ⟨q,(pS.mp hq).1,e⟩;have s3:Sp p (RS D) (λj=>w j + -1*lD w m D ls j):=h.plus (-1) s2;have z:=E.lead.zero (E.sp s3) λl r hl hr=>by
  obtain⟨i,h1,h2⟩:=sg hr;have e:=aba (w:=w) (m:=m) (k:=i) D ls E.len.symm h2 λi' r' eU=>by
   by_cases ei:i'=i
   ·subst ei;rw[af rfl];exact(E.one i' r' l eU h2).1
   ·rw[ag ei];exact E.alone i i' r' l (λz=>ei z.symm) eU h2
  show p∣w l + -1*lD w m D ls l;rw[e];by_cases hm:m≤l
  ·rw[af hm];exact⟨0,by lia⟩
  ·rw[ag hm]
   have:=hz l (by lia)
   simpa using this
 refine .eC s1 λj=>?_
 have:=Int.dvd_neg.mpr (z j)
 rwa[show -(w j + -1*lD w m D ls j)=lD w m D ls j-w j by lia]at this
theorem Qs{a b:List Int}:(a++b).getD j 0=if j<a.length then a.getD j 0 else b.getD (j-a.length) 0:=by
 by_cases h:j<a.length
 ·rw[af h,cW,gy h,cW]
 ·rw[ag h,cW,iC (by lia),cW]
theorem abc{a:List Int}{k:Nat}:(a.take k).getD j 0=if j<k then a.getD j 0 else 0:=by
 rw[cW,List.getElem?_take];by_cases h:j<k
 ·rw[af h,af h,cW]
 ·rw[ag h,ag h];rfl
theorem wG{a:List Int}{k:Nat}:(a.drop k).getD j 0=a.getD (k+j) 0:=by
 rw[cW,uX,cW]
theorem Qt{k:Nat}:(List.replicate k (0:Int)).getD j 0=0:=by
 rw[cW,E9];split<;>rfl
noncomputable def iM(l m r':Nat)(j:Nat):Option (Int×Nat):=if j<m then some (1,l+j)else if j<m+l then some (1,j-m)else if j<m+l+r' then none else some (1,j-r')
noncomputable def jl(l m:Nat)(j:Nat):Option (Int×Nat):=if j<m then some (-1,j)else if j<m+l then none else some (1,j-l)
noncomputable def wH(m:Nat)(j:Nat):Option (Int×Nat):=some (1,m+j)
theorem Qu{l:Nat}(h:row.length=l+m+x)(j:Nat):fn (sJ l m r' row) j=cV (iM l m r') (fn row) j:=by
 unfold fn sJ cV iM;have e1:(row.take l).length=l:=by rw[cH];lia
 have e2:((row.drop l).take m).length=m:=by rw[cH,dH];lia
 simp only[Qs,bK,dq,e1,e2,abc,wG,Qt];by_cases h1:j<m
 ·simp only[h1,if_true,show j<m+l by lia,show j<m+l+r' by lia,qz]
 ·by_cases h2:j<m+l
  ·simp only[h1,h2,if_true,if_false,show j<m+l+r' by lia,show j-m<l by lia,qz]
  ·by_cases h3:j<m+l+r'
   ·simp only[h1,h2,h3,if_true,if_false]
   ·simp only[h1,h2,h3,if_false,qz,show l+m+(j-(m+l+r'))=j-r' by lia]
theorem abd(j:Nat):fn (row.drop m) j=cV (wH m) (fn row) j:=by
 unfold fn cV wH;rw[wG];simp
theorem Qv{l:Nat}(h:row.length=m+x):gg p (fn (sM p l m row)) (cV (jl l m) (fn row)):=λj=>by
 unfold fn sM cV jl;have e1:(((row.take m).map λn=>(-n)%p)).length=m:=by rw[ba,cH];lia
 simp only[Qs,bK,dq,e1,wG,Qt];by_cases h1:j<m
 ·have e2:((row.take m).map λn=>(-n)%p).getD j 0=(-(row.getD j 0))%p:=by
   have hj:j<(row.take m).length:=by rw[cH];lia
   rw[cW,eE,cg hj,cW,cg (by lia:j<row.length),List.getElem_take];rfl
  simp only[h1,if_true,show j<m+l by lia,e2]
  have:=lW p (-(row.getD j 0))
  rwa[show -(row.getD j 0)=-1*row.getD j 0 by lia]at this ⊢
 ·by_cases h2:j<m+l
  ·simp only[h1,h2,if_true,if_false];exact⟨0,by lia⟩
  ·simp only[h1,h2,if_false,qz,show m+(j-(m+l))=j-l by lia];exact⟨0,by lia⟩
theorem abe{c:Int}(j:Nat):cV s (λi=>u i+c*v i) j=cV s u j+c*cV s v j:=by
 unfold cV;cases s j with
 |none=>simp
 |some a=>
  show a.1*(u a.2+c*v a.2)=a.1*u a.2+c*(a.1*v a.2);rw[Int.mul_add,← Int.mul_assoc,← Int.mul_assoc,rM c]
theorem zo{g:List Int→List Int}(hg:∀r∈L,gg p (fn (g r)) (cV s (fn r))){f:Fn}:Sp p (RS (L.map g)) f↔∃u,Sp p (RS L) u∧gg p (cV s u) f:=by
 constructor
 ·intro h;induction h with
  |zero=>exact⟨_,.zero,λj=>⟨0,by unfold cV;cases s j<;>simp⟩⟩
  | @add v r c _ hr ih=>
   obtain⟨u,hu,e⟩:=ih;obtain⟨q,hq,rfl⟩:=hr;obtain⟨r0,CP,rfl⟩:=cY.mp hq;refine⟨_,hu.add c ⟨r0,CP,rfl⟩,λj=>?_⟩;rw[abe];have h1:=e j;have h2:p∣c*(fn (g r0) j-cV s (fn r0) j):=Fb (hg r0 CP j);have h3:=Int.dvd_sub h1 h2;rwa[show cV s u j-v j-c*(fn (g r0) j-cV s (fn r0) j)=cV s u j+c*cV s (fn r0) j-(v j+c*fn (g r0) j) by rw[pW];lia]at h3
  |eC _ e ih=>
   obtain⟨u,hu,e'⟩:=ih;exact⟨u,hu,e'.trans e⟩
 ·rintro⟨u,hu,e⟩;refine .eC (aa9 (s:=s) (R':=RS (L.map g)) (λr ⟨q,hq,er⟩=>?_) hu) e;rw[er];exact .eC (qf (AQ hq)) (hg q hq)
theorem abf{L':LL}{f:Fn}:Sp p (RS (L++L')) f↔∃u v,Sp p (RS L) u∧Sp p (RS L') v∧gg p (λj=>u j+v j) f:=by
 constructor
 ·intro h;induction h with
  |zero=>exact⟨_,_,.zero,.zero,λj=>⟨0,by simp⟩⟩
  | @add v r c _ hr ih=>
   obtain⟨u,v',hu,hv,e⟩:=ih;obtain⟨q,hq,rfl⟩:=hr;rcases(c9.mp hq)with z|z
   ·refine⟨_,v',hu.add c ⟨q,z,rfl⟩,hv,λj=>?_⟩
    have:=e j
    dsimp only at this ⊢;rwa[show u j+c*fn q j+v' j-(v j+c*fn q j)=u j+v' j-v j by lia]
   ·refine⟨u,_,hu,hv.add c ⟨q,z,rfl⟩,λj=>?_⟩
    have:=e j
    dsimp only at this ⊢;rwa[show u j+(v' j+c*fn q j)-(v j+c*fn q j)=u j+v' j-v j by lia]
  |eC _ e ih=>
   obtain⟨u,v',hu,hv,e'⟩:=ih;exact⟨u,v',hu,hv,e'.trans e⟩
 ·rintro⟨u,v,hu,hv,e⟩;have h1:Sp p (RS (L++L')) u:=o9 (λr hr=>qf (lG _ hr)) hu;have h2:Sp p (RS (L++L')) v:=o9 (λr hr=>qf (gY _ hr)) hv;exact .eC ((h1.plus 1 h2).of_eq λj=>by rw[qz]) e
theorem Qw(pp:p∈cb)(h:bw p n L){f:Fn}:Sp p (RS (cz p L)) f↔Sp p (RS L) f:=⟨o9 (gP pp h).sub,o9 (gP pp h).sup⟩
section
variable{p:Int}{f:Fn}
theorem Dz(h:∀j,u j=v j):gg p u v:=λj=>⟨0,by rw[h j];lia⟩
theorem Qx{l x':Nat}{aO cf:LL}(h:bw p (l+m+x) aO)(h':bw p (m+r'+x') cf) :
  Sp p (RS (pk p l m r' aO cf)) f↔∃u v,Sp p (RS aO) u∧Sp p (RS cf) v∧gg p (λj=>cV (iM l m r') u j+cV (jl l m) v j) f:=by
 unfold pk;rw[abf];constructor
 ·rintro⟨u,v,hu,hv,e⟩;obtain⟨u0,hu0,eu⟩:=(zo (s:=iM l m r') (λq hq=>Dz (Qu (x:=x) (h q hq).1))).mp hu;obtain⟨v0,hv0,ev⟩:=(zo (s:=jl l m) (λq hq=>Qv (x:=r'+x') (by rw[(h' q hq).1];lia))).mp hv;refine⟨u0,v0,hu0,hv0,λj=>?_⟩
  have:=pV (pV (eu j) (ev j)) (e j)
  dsimp only at this ⊢;rwa[show cV (iM l m r') u0 j-u j+(cV (jl l m) v0 j-v j)+(u j+v j-f j)=cV (iM l m r') u0 j+cV (jl l m) v0 j-f j by lia]at this
 ·rintro⟨u,v,hu,hv,e⟩;exact⟨_,_,(zo (s:=iM l m r') (λq hq=>Dz (Qu (x:=x) (h q hq).1))).mpr ⟨u,hu,.refl _ _⟩,(zo (s:=jl l m) (λq hq=>Qv (x:=r'+x') (by rw[(h' q hq).1];lia))).mpr ⟨v,hv,.refl _ _⟩,e⟩
theorem Qy{r:List Int}(h:ot m r=true)(hj:j<m):r.getD j 0=0:=by
 unfold ot at h;rw[Bool.not_eq_true',List.any_eq_false]at h;by_cases hl:j<r.length
 ·have hm:r[j]∈r.take m:=mz.mpr ⟨j,by rw[cH];lia,List.getElem_take ..⟩
  have:=h _ hm
  rw[cW,cg hl];simpa using this
 ·rw[cW,lI (by lia)];rfl
theorem Jq{w:Fn}(hL:∀r∈L,r.getD j 0=0)(h:Sp p (RS L) w):p∣w j:=by
 induction h with
 |zero=>exact⟨0,by simp⟩
 | @add v r c _ hr ih=>
  obtain⟨q,hq,rfl⟩:=hr;show p∣v j+c*q.getD j 0;rw[hL q hq];simpa using ih
 |eC _ e ih=>
  have:=Int.dvd_sub ih (e j)
  rename_i u v _
  rwa[show v j-(v j-u j)=u j by lia]at this
theorem Qz{l:Nat}(v:Fn)(h:j<m):cV (jl l m) v j=-v j:=by
 unfold cV jl;simp only[h,if_true];lia
theorem QA{l:Nat}(u:Fn)(h:j<m):cV (iM l m r') u j=u (l+j):=by
 unfold cV iM;simp only[h,if_true,qz]
theorem abg{l x' N:Nat}{aO cf:LL}(pp:p∈cb)(h:bw p (l+m+x) aO)(h':bw p (m+r'+x') cf)(hN:bw p N (pk p l m r' aO cf)) :
  Sp p (RS (ou p l m r' aO cf)) f↔∃u v,Sp p (RS aO) u∧Sp p (RS cf) v∧(∀j,j<m→p∣u (l+j)-v j)∧gg p (λj=>cV (iM l m r') u (m+j)+cV (jl l m) v (m+j)) f:=by
 have RO:=gP pp hN;obtain⟨ls,E⟩:=RO.ic;unfold ou;rw[zo (s:=wH m) (λq hq=>Dz (λj=>abd j))];constructor
 ·rintro⟨w,hw,e⟩;have hz:∀j,j<m→p∣w j:=λj hj=>Jq (λr hr=>Qy (pS.mp hr).2 hj) hw;have hw':Sp p (RS (pk p l m r' aO cf)) w:=(Qw pp hN).mp (o9 (λr hr=>qf (pS.mp hr).1) hw);obtain⟨u,v,hu,hv,ew⟩:=(Qx h h').mp hw';refine⟨u,v,hu,hv,λj hj=>?_,λj=>?_⟩
  ·have h1:=ew j;dsimp only at h1;rw[Qz v hj,QA u hj]at h1
   have:=pV h1 (hz j hj)
   rwa[show u (l+j) + -v j-w j+w j=u (l+j)-v j by lia]at this
  ·have h1:=ew (m+j);have h2:=e j;have h3:cV (wH m) w j=w (m+j):=by unfold cV wH;simp
   rw[h3]at h2
   have:=pV h1 h2
   dsimp only at this ⊢;rwa[show cV (iM l m r') u (m+j)+cV (jl l m) v (m+j)-w (m+j)+(w (m+j)-f j)=cV (iM l m r') u (m+j)+cV (jl l m) v (m+j)-f j by lia]at this
 ·rintro⟨u,v,hu,hv,hm,e⟩;refine⟨λj=>cV (iM l m r') u j+cV (jl l m) v j,?_,?_⟩
  ·refine abb E ((Qw pp hN).mpr ((Qx h h').mpr ⟨u,v,hu,hv,.refl _ _⟩)) λj hj=>?_;show p∣cV (iM l m r') u j+cV (jl l m) v j;rw[Qz v hj,QA u hj]
   have:=hm j hj
   rwa[show u (l+j) + -v j=u (l+j)-v j by lia]
  ·refine(Dz λj=>?_).trans e;unfold cV wH;simp
end
def Ok(p:Int)(d:Drw):Prop:=d.wf p∧d.sm
theorem Ok.back{p:Int}{d:Drw}(o:Ok p (.back d)):Ok p d:=⟨o.1,o.2⟩
theorem Ok.QB(o:Ok p (.cK a b)):Ok p a:=⟨o.1.1,o.2.1⟩
theorem Ok.QC(o:Ok p (.cK a b)):Ok p b:=⟨o.1.2,o.2.2.1⟩
theorem Ok.QD(o:Ok p (.aZ a b)):Ok p a:=⟨o.1.1,o.2.1⟩
theorem Ok.QE(o:Ok p (.aZ a b)):Ok p b:=⟨o.1.2.1,o.2.2⟩
theorem Jr{α:Type}{f:α→Bool}:∀{D:List α}{k:Nat},(∀(i:Nat)(r:α),D[i]?=some r→(f r=true↔k≤i))→D.filter f=D.drop k
 | [],_,_=>by simp
 |r::D,0,h=>by
  have h0:=(h 0 r rfl).mpr (jq _);rw[List.filter_cons,af h0,Jr (D:=D) (k:=0) λi q hq=>?_,List.drop_zero,List.drop_zero]
  have:=h (i+1) q hq
  exact⟨λ_=>jq _,λ_=>this.mpr (jq _)⟩
 |r::D,k+1,h=>by
  have h0:¬f r=true:=λz=>absurd ((h 0 r rfl).mp z) (by lia);rw[List.filter_cons,ag h0,Jr (D:=D) (k:=k) λi q hq=>?_,List.drop_succ_cons];rw[h (i+1) q hq];lia
theorem QF{m:Nat}:∀{ls:List Nat},ls.Pairwise (· < ·)→∃k,∀(i l:Nat),ls[i]?=some l→(m≤l↔k≤i)
 | [],_=>⟨0,λi l h=>by simp at h⟩
 |a::ls,h=>by
  rw[AO]at h;obtain⟨k,hk⟩:=QF (m:=m) h.2;by_cases c:m≤a
  ·refine⟨0,λi l hl=>⟨λ_=>jq _,λ_=>?_⟩⟩;cases i with
   |zero=>cases hl;exact c
   |succ i=>have:=h.1 l (da (show ls[i]?=some l from hl));lia
  ·refine⟨k+1,λi l hl=>?_⟩;cases i with
   |zero=>cases hl;lia
   |succ i=>rw[hk i l hl];lia
theorem abh(E:gO n n D ls)(N:Nat)(hN:N+m=n):∃qX,gO N N ((D.filter (ot m)).map λr=>r.drop m) qX:=by
 obtain⟨k,hk⟩:=QF (m:=m) E.up;have at_:∀(i:Nat)(r:List Int),D[i]?=some r→∃l,ls[i]?=some l:=λi r hr=>by
  have:=(dz.mp hr).1
  exact⟨ls[i]'(by rw[E.len];exact this),cg _⟩
 have ef:D.filter (ot m)=D.drop k:=Jr λi r hr=>by
  obtain⟨l,hl⟩:=at_ i r hr;obtain⟨h1,h0⟩:=E.one i r l hr hl;rw[← hk i l hl];constructor
  ·intro z;by_cases c:m≤l
   ·exact c
   ·have:=Qy z (j:=l) (by lia)
    lia
  ·intro c;exact Qp h0 c
 rw[ef];have eD:∀(i:Nat)(q:List Int),((D.drop k).map λr=>r.drop m)[i]?=some q→∃r,D[k+i]?=some r∧q=r.drop m:=λi q hq=>by
  rw[eE,uX]at hq;cases e:D[k+i]? with
  |none=>rw[e]at hq;cases hq
  |some r=>rw[e]at hq;cases hq;exact⟨r,rfl,rfl⟩
 have eL:∀(i l:Nat),((ls.drop k).map λl=>l-m)[i]?=some l→ls[k+i]?=some (l+m):=λi l hl=>by
  rw[eE,uX]at hl;cases e:ls[k+i]? with
  |none=>rw[e]at hl;cases hl
  |some l'=>
   rw[e]at hl
   have:=(hk _ _ e).mpr (by lia)
   have hl:l' - m=l:=c7 hl;rw[show l+m=l' by lia]
 refine⟨(ls.drop k).map λl=>l-m,by simp[E.len],?_,λl hl=>?_,λi q l hq hl=>?_,λi i' q l cM hq hl=>?_⟩
 ·rw[List.pairwise_map];refine List.Pairwise.imp_of_mem ?_ (E.up.drop (i:=k));intro a b ha hb DA;obtain⟨i,hi⟩:=List.getElem?_of_mem ha;rw[uX]at hi
  have:=(hk _ _ hi).mpr (by lia)
  lia
 ·obtain⟨i,hi⟩:=List.getElem?_of_mem hl
  have:=E.lt _ (da (eL i l hi))
  lia
 ·obtain⟨r,hr,rfl⟩:=eD i q hq;obtain⟨h1,h0⟩:=E.one _ r _ hr (eL i l hl);refine⟨by rw[wG,Nat.add_comm];exact h1,λj hj=>?_⟩;rw[wG];exact h0 _ (by lia)
 ·obtain⟨r,hr,rfl⟩:=eD i' q hq;rw[wG,Nat.add_comm];exact E.alone _ _ r _ (by lia) hr (eL i l hl)
noncomputable def Js(n:Nat)(D:LL)(ls:List Nat):Bool:=ls.length==D.length&&decide (ls.Pairwise (· < ·))&&ls.all (λl=>decide (l<n)) &&
 (List.range D.length).all λi=>(List.range D.length).all λj=>if i=j then(D.getD j []).getD (ls.getD i 0) 0==1&&(List.range (ls.getD i 0)).all (λt=>(D.getD j []).getD t 0==0)else(D.getD j []).getD (ls.getD i 0) 0==0
theorem getD_some{α:Type}{L:List α}{i:Nat}{x d:α}(h:L[i]?=some x):L.getD i d=x:=by rw[cW,h];rfl
theorem abi(h:Js n D ls=true):gO n n D ls:=by
 unfold Js at h;simp only[eF,beq_iff_eq,aH,oO,oJ]at h;obtain⟨⟨⟨g1,g2⟩,g3⟩,h4⟩:=h;refine⟨g1,g2,g3,λi r l hr hl=>?_,λi i' r l cM hr hl=>?_⟩
 ·have hi:=(dz.mp hr).1
  have:=h4 i hi i hi
  rw[af rfl,getD_some hr,getD_some hl]at this;simp only[eF,beq_iff_eq,oO,oJ]at this;exact this
 ·have hi:=(dz.mp hl).1;have jg:=(dz.mp hr).1
  have:=h4 i (by lia) i' jg
  rw[ag cM,getD_some hr,getD_some hl]at this;simpa using this
theorem abj:∀e∈gT,Js (e.2.1+e.2.2.1) e.2.2.2 (Y8 e.2.2.2)=true:=by decide +kernel
theorem Drw.ic{p:Int}(pp:p∈cb):∀{d:Drw},Ok p d→∃ls,gO (d.cU+d.cL) (d.cU+d.cL) (d.aO p) ls
 | .box x l r aO,o=>⟨_,abi (abj _ o.1)⟩
 | .times n,_=>⟨[0],by
  refine⟨rfl,by simp,λl hl=>by rw[cR.mp hl];show 0<1+1;decide,λi r l hr hl=>?_,λi i' r l cM hr hl=>?_⟩
  ·cases i with
   |zero=>cases hr;cases hl;exact⟨rfl,λj hj=>absurd hj (by lia)⟩
   |succ i=>cases hl
  ·cases i with
   |zero=>
    cases i' with
    |zero=>exact absurd rfl cM
    |succ i'=>cases hr
   |succ i=>cases hl⟩
 | .back d,o=>by
  obtain⟨_,_,_,hR⟩:=Drw.good pp o.back.1 o.back.2;have hS:bw p (d.cL+d.cU) ((d.aO p).map (jH d.cU d.cL)):=λx hx=>by
   obtain⟨y,hy,e⟩:=cY.mp hx;rw[← e];exact C6 (x:=0) (hR y hy)
  exact(gP pp hS).ic
 | .cK a b,o=>by
  obtain⟨p2,_⟩:=eI p pp;obtain⟨_,_,_,hA⟩:=Drw.good pp o.QB.1 o.QB.2;obtain⟨_,_,_,hB⟩:=Drw.good pp o.QC.1 o.QC.2;have hS:=Dh (x:=0) (by lia) hA hB;obtain⟨ls,E⟩:=(gP pp hS).ic;have e:(Drw.cK a b).cU+(Drw.cK a b).cL=a.cU+b.cU+(a.cL+b.cL):=rfl;refine⟨ls,?_⟩;rw[e];exact E
 | .aZ a b,o=>by
  obtain⟨p2,_⟩:=eI p pp;obtain⟨_,_,_,hA⟩:=Drw.good pp o.QD.1 o.QD.2;obtain⟨_,_,_,hB⟩:=Drw.good pp o.QE.1 o.QE.2;have hB':bw p (a.cL+b.cL) (b.aO p):=by rw[show a.cL=b.cU from o.1.2.2];exact hB
  obtain⟨ls,E⟩:=(gP pp (zk (x:=0) (by lia) hA hB')).ic;exact abh E _ (by show a.cU+b.cL+a.cL=_;lia)
theorem Drw.one(pp:p∈cb){d:Drw}(o:Ok p d):cz p (d.aO p)=d.aO p:=by
 obtain⟨_,_,_,hR⟩:=Drw.good pp o.1 o.2;obtain⟨ls,E⟩:=Drw.ic pp o;have R:=gP pp hR;obtain⟨ms,EM⟩:=R.ic;exact(E.unique pp EM hR R.rws (λr hr=>R.sup r hr) (λr hr=>R.sub r hr)).symm
noncomputable def zp(K:Frag)(aS:Addr):Bool:=(match PyProof.Rows.KTD.datumAt (Str.ofString "times") (gj K aS)with|some (.ref t)=>um K t [1,1] | _=>false) &&
 (PyProof.Rows.KTD.datumAt (Str.ofString "back") (gj K aS)).isNone&&(PyProof.Rows.KTD.datumAt (Str.ofString "beside") (gj K aS)).isNone&&(PyProof.Rows.KTD.datumAt (Str.ofString "then") (gj K aS)).isNone&&(match PyProof.Rows.KTD.datumAt (Str.ofString "late") (gj K aS)with|some (.ref t)=>um K t [1,1] | _=>false)
theorem abk{K:Frag}{aS:Addr}(h:zp K aS=true):(∃t,PyProof.Rows.KTD.datumAt (Str.ofString "times") (gj K aS)=some (.ref t)∧∀H,bc K H t [.int 1,.int 1])∧
  PyProof.Rows.KTD.datumAt (Str.ofString "back") (gj K aS)=none∧PyProof.Rows.KTD.datumAt (Str.ofString "beside") (gj K aS)=none∧PyProof.Rows.KTD.datumAt (Str.ofString "then") (gj K aS)=none∧∃t,PyProof.Rows.KTD.datumAt (Str.ofString "late") (gj K aS)=some (.ref t)∧∀H,bc K H t [.int 1,.int 1]:=by
 unfold zp at h;simp only[eF,Option.isNone_iff_eq_none]at h;obtain⟨⟨⟨⟨h1,h2⟩,h3⟩,h4⟩,h5⟩:=h;refine⟨?_,h2,h3,h4,?_⟩
 ·split at h1
  ·rename_i t e
   exact⟨t,e,λH=>C2 h1 H⟩
  ·exact nomatch h1
 ·split at h5
  ·rename_i t e
   exact⟨t,e,λH=>C2 h5 H⟩
  ·exact nomatch h5
def ny(K:Frag)(H:Hp)(a:Addr)(l r:Nat):Prop:=bc K H a [.int (l:Int),.int (r:Int),.cm]
inductive abl(K:Frag)(x:Str)(ps:List V)(H:Hp)(Q:VK):Prop where
 |box (l r:Nat) (aO:LL) (h:(x,l,r,aO)∈gT) (q:ib K H [.int (l:Int),.int (r:Int),.cm] Q)
 |times (h:x="times") (q:ib K H [.int 1,.int 1,.cm] Q)
 |QG (h:x="late") (q:ib K H [.int 1,.int 1,.cm] Q)
 |back (a:Addr) (l r:Nat) (h:x="back") (hp:ps=[.ref a]) (ha:ny K H a l r) (q:ib K H [.int (r:Int),.int (l:Int),.cm] Q)
 |cK (a b:Addr) (l r l' r':Nat) (h:x="beside") (hp:ps=[.ref a,.ref b]) (ha:ny K H a l r) (hb:ny K H b l' r') (q:ib K H [.int ((l+l':Nat):Int),.int ((r+r':Nat):Int),.cm] Q)
 |aZ (a b:Addr) (l m r:Nat) (h:x="then") (hp:ps=[.ref a,.ref b]) (ha:ny K H a l m) (hb:ny K H b m r) (q:ib K H [.int (l:Int),.int (r:Int),.cm] Q)
theorem abm:(["part"]:List Str).Nodup:=by decide +kernel
def abn(K:Frag)(H:Hp)(ps:List V):Prop:=∀(i:Nat)(v:V),ps[i]?=some v→∃(a:Addr)(l r:Nat),v=.ref a∧ny K H a l r
def QH(K:Frag):Sp:=λvs H Q _=>∃(pa:Addr)(ps:List V),vs=[.ref pa]∧H pa=some (.lst ps)∧ps.length≤10∧abn K H ps∧∀H',aL H H'→Q .cm H'
theorem QI:c8 ["parts","unmet"] ["parts"] (bq Cw):=dv rfl rfl rfl (by decide +kernel) rfl
theorem Jt(F:bZ K "first_unmet" "first_unmet" Cw f fd):bf P w K mg base bj 1 f fd ["parts"] (QH K):=by
 refine F.ok QI (λvs H Q E h=>?_) (λbt A outer s H vs Q E hr h=>?_)
 ·obtain⟨pa,ps,rfl,_⟩:=h;rfl
 ·obtain⟨pa,ps,rfl,hp,hl,hm,q⟩:=h;have z:(10:Nat)≤sizeLine:=by decide
  refine⟨_,aX (jX (i:=1) (N:=["part"]) (own:=1) (caps:=[]) rfl QI.nd rfl rfl (ir K rfl (pv 0)) (show dR ["parts","unmet"] (bq Cw) ["part"] 1 [] _ from .mk' (by decide +kernel)) (λ_ _ _ _ _=>cj (i:=0) abm rfl (.inl rfl)) (λ_ _ _ _ _=>ya (cC Mq (bh (cT K rfl) (pv 0) aR (λ_ _=>rfl)) oT (cx _))) (λ_ _ _ _ _=>bh (cT K rfl) (pv 0) aR (λ_ _=>rfl))) (bg (bY (Fp (FO (pv 1) (λ_=>rfl)) (bh (cA K rfl) (pv 1) aR (λ_ _=>rfl)) oT))),?_⟩
  refine⟨_,rfl,pa,rfl,⟨_,.of hp⟩,o6 (cp:=[]) (λi H' zs=>zs=[]) (.of hp) (by lia) rfl (λi H' zs e=>by rw[e];exact jq _) ?_ ?_⟩
  ·rintro i x H1 zs hx sm rfl;obtain⟨a,l,r,rfl,ha⟩:=hm i x hx;exact⟨_,rfl,a,_,2,.cm,rfl,rfl,sm.bo ha,bu (j:=2) rfl,rfl,_,rfl,oh (λh=>absurd rfl h) (λ_=>⟨⟨[_],rfl,rfl⟩,sm,rfl⟩)⟩
  ·rintro H1 zs sm rfl lu hlu;refine⟨_,rfl,_,.inl ⟨[],.of aQ,rfl⟩,cD ?_⟩;exact q _ (sm.trans (.upd hlu))
def QJ(K:Frag):Sp:=λvs H Q _=>∃(x:Str)(pa:Addr)(ps:List V),vs=[.str x,.ref pa]∧H pa=some (.lst ps)∧
 ((∃(a:Addr)(l r:Nat),x="back"∧ps=[.ref a]∧ny K H a l r∧ib K H [.int (r:Int),.int (l:Int)] Q)∨(∃(a b:Addr)(l r l' r':Nat),x="beside"∧ps=[.ref a,.ref b]∧ny K H a l r∧ny K H b l' r'∧ib K H [.int ((l+l':Nat):Int),.int ((r+r':Nat):Int)] Q)∨(∃(a b:Addr)(l m m' r:Nat),x="then"∧ps=[.ref a,.ref b]∧ny K H a l m∧ny K H b m' r∧ib K H [.int (l:Int),.int (r:Int)] Q))
theorem abo:c8 ["word","parts"] ["word","parts"] (bq HV):=dv rfl rfl rfl (by decide +kernel) rfl
theorem Ju(F:bZ K "joined_sides" "joined_sides" HV f fd):bf P w K mg base bj 1 f fd ["word","parts"] (QJ K):=by
 refine F.ok abo (λvs H Q E h=>?_) (λbt A outer s H vs Q E hr h=>?_)
 ·obtain⟨x,pa,ps,rfl,_⟩:=h;rfl
 ·obtain⟨x,pa,ps,rfl,hp,h⟩:=h;refine⟨_,aX (cN (cC dM (pv 0) cq (cx _)) (bg (bY (fu (aK (bh (cT K rfl) (bh (cA K rfl) (pv 1) aR (λ_ _=>rfl)) aR (λ_ _=>rfl)) (aK (bh (cT K rfl) (bh (cA K rfl) (pv 1) aR (λ_ _=>rfl)) aR (λ_ _=>rfl)) aM))))) df) (aX (cN (cC dM (pv 0) cq (cx _)) (bg (bY (fu (aK (aV eB (bh (cT K rfl) (bh (cA K rfl) (pv 1) aR (λ_ _=>rfl)) aR (λ_ _=>rfl)) (bh (cT K rfl) (bh (cA K rfl) (pv 1) aR (λ_ _=>rfl)) aR (λ_ _=>rfl))) (aK (aV eB (bh (cT K rfl) (bh (cA K rfl) (pv 1) aR (λ_ _=>rfl)) aR (λ_ _=>rfl)) (bh (cT K rfl) (bh (cA K rfl) (pv 1) aR (λ_ _=>rfl)) aR (λ_ _=>rfl))) aM))))) df) (bg (bY (fu (aK (bh (cT K rfl) (bh (cA K rfl) (pv 1) aR (λ_ _=>rfl)) aR (λ_ _=>rfl)) (aK (bh (cT K rfl) (bh (cA K rfl) (pv 1) aR (λ_ _=>rfl)) aR (λ_ _=>rfl)) aM)))))),?_⟩;have z2:2≤sizeLine:=by decide
  rcases h with⟨a,l,r,rfl,rfl,ha,q⟩|⟨a,b,l,r,l',r',rfl,rfl,ha,hb,q⟩|⟨a,b,l,m,m',r,rfl,rfl,ha,hb,q⟩
  ·refine⟨_,rfl,rfl,_,rfl,?_⟩;rw[aE rfl];exact dy ⟨_,rfl,pa,_,0,.ref a,rfl,rfl,.of hp,bu (j:=0) rfl,a,_,1,.int (r:Int),rfl,rfl,ha,bu (j:=1) rfl,_,rfl,pa,_,0,.ref a,rfl,rfl,.of hp,bu (j:=0) rfl,a,_,0,.int (l:Int),rfl,rfl,ha,bu (j:=0) rfl,z2,λt ht=>q.new ht⟩
  ·refine⟨_,rfl,rfl,_,rfl,?_⟩;rw[ae (by decide)];refine cD ⟨_,rfl,rfl,_,rfl,?_⟩;rw[aE rfl];rw[tJ,tJ]at q;exact dy ⟨_,rfl,pa,_,0,.ref a,rfl,rfl,.of hp,bu (j:=0) rfl,a,_,0,.int (l:Int),rfl,rfl,ha,bu (j:=0) rfl,_,rfl,pa,_,1,.ref b,rfl,rfl,.of hp,bu (j:=1) rfl,b,_,0,.int (l':Int),rfl,rfl,hb,bu (j:=0) rfl,_,_,rfl,rfl,
    _,rfl,pa,_,0,.ref a,rfl,rfl,.of hp,bu (j:=0) rfl,a,_,1,.int (r:Int),rfl,rfl,ha,bu (j:=1) rfl,_,rfl,pa,_,1,.ref b,rfl,rfl,.of hp,bu (j:=1) rfl,b,_,1,.int (r':Int),rfl,rfl,hb,bu (j:=1) rfl,_,_,rfl,rfl,z2,λt ht=>q.new ht⟩
  ·refine⟨_,rfl,rfl,_,rfl,?_⟩;rw[ae (by decide)];refine cD ⟨_,rfl,rfl,_,rfl,?_⟩;rw[ae (by decide)];exact cD ⟨_,rfl,pa,_,0,.ref a,rfl,rfl,.of hp,bu (j:=0) rfl,a,_,0,.int (l:Int),rfl,rfl,ha,bu (j:=0) rfl,_,rfl,pa,_,1,.ref b,rfl,rfl,.of hp,bu (j:=1) rfl,b,_,1,.int (r:Int),rfl,rfl,hb,bu (j:=1) rfl,z2,λt ht=>q.new ht⟩
def Jv(K:Frag):Sp:=λvs H Q _=>∃(i:Int)(x:Str)(pa:Addr)(ps:List V),vs=[.int i,.str x,.ref pa]∧H pa=some (.lst ps)∧abl K x ps H Q
theorem Jw{aS aB fU fJ:Addr}{QK QL:FuncData}(F:bZ K "measure" "measure" vW f fd)(B:pe K mg aS aB)(M:zp K aS=true)
  (GU:bf P w K mg base bj 1 fU QK ["parts"] (QH K)) (kU:Kp K fU) (bU:Binds K QK ["parts"] []) (mU:Mg mg "first_unmet" fU)
  (GJ:bf P w K mg base bj 1 fJ QL ["word","parts"] (QJ K)) (kJ:Kp K fJ) (bJ:Binds K QL ["word","parts"] []) (mJ:Mg mg "joined_sides" fJ) :
  bf P w K mg base bj 2 f fd ["place","word","parts"] (Jv K):=by
 refine F.ok C5 (λvs H Q E h=>?_) (λbt A outer s H vs Q E hr h=>?_)
 ·obtain⟨i,x,pa,ps,rfl,_⟩:=h;rfl
 ·obtain⟨i,x,pa,ps,rfl,hp,h⟩:=h;obtain⟨⟨tt,ett,Jg⟩,eb,es,et,tl,etl,htl⟩:=abk M;refine⟨_,aX (cN (Fl (OP B.tabS (pv 1) (lK (v:=.ref _) rfl B.C4 rfl)) rfl) (bg (bY (aV (iH K rfl) (HP B.tabS (lK (v:=.ref _) rfl B.C4 rfl) (pv 1) (λ_ _=>rfl)) (fu (aK oT aM))))) df) (aX (bH (i:=3) C5.nd rfl (.inl rfl) (ck GU hr rfl mU kU bU .nil cu (aK (pv 2) aM))) (aX (cN (PW.pt (rP (cC dM (pv 1) cq (cx _)) (rP (cC Mp (pv 3) oT (cx _)) (xJ (cC oZ (bh (cT K rfl) (bh (cA K rfl) (pv 2) aR (λ_ _=>rfl)) aR (λ_ _=>rfl)) (bh (cT K rfl) (bh (cA K rfl) (pv 2) aR (λ_ _=>rfl)) aR (λ_ _=>rfl)) (cx _)))))) (bg (bH (i:=3) C5.nd rfl (.inl rfl) (pv 0))) df) (bg (bY (aV (iH K rfl) (ck GJ hr rfl mJ kJ bJ .nil cu (aK (pv 1) (aK (pv 2) aM))) (fu (aK (pv 3) aM))))))),?_⟩;have z1:1≤sizeLine:=by decide
  have boxed:∀{t:Addr}{l r:Int},PyProof.Rows.KTD.datumAt x (gj K aS)=some (.ref t)→(∀H,bc K H t [.int l,.int r])→ib K H [.int l,.int r,.cm] Q→∀{u:TS}{D:Ends},D.rt=Q→cI (eG (tB (HQ aS (gj K aS) (aW 1) (tC (.ref aS)))) (fK (bp (vH K) (Co aS (gj K aS) (tC (.ref aS)) (aW 1)) (lP (aY (tC .cm) bV)))) ik) u D [some (.int i),some (.str x),some (.ref pa),none] H:=λ{t l r} e ht q {u D} hD=>by
   refine⟨_,rfl,x,rfl,rfl,_,rfl,?_⟩;rw[e];refine dy ⟨_,rfl,x,_,rfl,rfl,e,z1,λt1 g1=>?_⟩;refine⟨t,t1,_,_,rfl,rfl,ht _,.of aQ,(by show 2+1≤sizeLine;decide),λa' H' s' h'=>?_⟩;show D.rt _ _;rw[hD];exact q a' H' ((aL.upd g1).trans s') h'
  have Jx:PyProof.Rows.KTD.datumAt x (gj K aS)=none→∀{u:TS}{D:Ends},u D [some (.int i),some (.str x),some (.ref pa),none] H→cI (eG (tB (HQ aS (gj K aS) (aW 1) (tC (.ref aS)))) (fK (bp (vH K) (Co aS (gj K aS) (tC (.ref aS)) (aW 1)) (lP (aY (tC .cm) bV)))) ik) u D [some (.int i),some (.str x),some (.ref pa),none] H:=λe {u D} h=>by
   refine⟨_,rfl,x,rfl,rfl,_,rfl,?_⟩;rw[e];exact cD h
  cases h with
  |box l r aO hx q=>
   obtain⟨⟨t,e,ht⟩,_⟩:=B.at_ hx;exact boxed e ht q rfl
  |times hx q=>
   subst hx;exact boxed ett Jg q rfl
  |QG hx q=>
   subst hx;exact boxed etl htl q rfl
  |back a l r hx we ha q=>
   subst hx;subst we;refine Jx eb ⟨_,rfl,pa,_,rfl,hp,by simp,λj v hv=>?_,λH1 s1=>?_⟩
   ·match j,hv with
    |0,hv=>cases hv;exact⟨a,l,r,rfl,ha⟩
    |j+1,hv=>simp at hv
   refine⟨_,rfl,rfl,_,rfl,?_⟩;rw[ae (by decide)];refine cD (cD ?_);refine⟨_,rfl,_,rfl,_,pa,_,rfl,s1 _ _ hp,.inl ⟨a,l,r,rfl,rfl,s1.bo ha,λt H2 s2 ht=>⟨_,rfl,z1,λt1 g1=>?_⟩⟩⟩;exact⟨t,t1,_,_,rfl,rfl,(aL.upd g1).bo ht,.of aQ,(by show 2+1≤sizeLine;decide),λa' H' s' h'=>q a' H' ((s1.trans s2).trans ((aL.upd g1).trans s')) h'⟩
  |cK a b l r l' r' hx we ha hb q=>
   subst hx;subst we;refine Jx es ⟨_,rfl,pa,_,rfl,hp,by simp,λj v hv=>?_,λH1 s1=>?_⟩
   ·match j,hv with
    |0,hv=>cases hv;exact⟨a,l,r,rfl,ha⟩
    |1,hv=>cases hv;exact⟨b,l',r',rfl,hb⟩
    |j+2,hv=>simp at hv
   refine⟨_,rfl,rfl,_,rfl,?_⟩;rw[ae (by decide)];refine cD (cD ?_);refine⟨_,rfl,_,rfl,_,pa,_,rfl,s1 _ _ hp,.inr (.inl ⟨a,b,l,r,l',r',rfl,rfl,s1.bo ha,s1.bo hb,λt H2 s2 ht=>⟨_,rfl,z1,λt1 g1=>?_⟩⟩)⟩;exact⟨t,t1,_,_,rfl,rfl,(aL.upd g1).bo ht,.of aQ,(by show 2+1≤sizeLine;decide),λa' H' s' h'=>q a' H' ((s1.trans s2).trans ((aL.upd g1).trans s')) h'⟩
  |aZ a b l m r hx we ha hb q=>
   subst hx;subst we;refine Jx et ⟨_,rfl,pa,_,rfl,hp,by simp,λj v hv=>?_,λH1 s1=>?_⟩
   ·match j,hv with
    |0,hv=>cases hv;exact⟨a,l,m,rfl,ha⟩
    |1,hv=>cases hv;exact⟨b,m,r,rfl,hb⟩
    |j+2,hv=>simp at hv
   refine⟨_,rfl,rfl,_,rfl,?_⟩;rw[aE rfl];refine dy ⟨_,rfl,rfl,_,rfl,?_⟩;rw[aE rfl];refine dy ⟨_,rfl,pa,_,0,.ref a,rfl,rfl,.of (s1 _ _ hp),bu (j:=0) rfl,a,_,1,.int (m:Int),rfl,rfl,s1.bo ha,bu (j:=1) rfl,_,rfl,pa,_,1,.ref b,rfl,rfl,.of (s1 _ _ hp),bu (j:=1) rfl,b,_,0,.int (m:Int),rfl,rfl,s1.bo hb,bu (j:=0) rfl,rfl,_,rfl,oh (λz=>absurd rfl z) (λ_=>?_)⟩;refine⟨_,rfl,_,rfl,_,pa,_,rfl,s1 _ _ hp,.inr (.inr ⟨a,b,l,m,m,r,rfl,rfl,s1.bo ha,s1.bo hb,λt H2 s2 ht=>⟨_,rfl,z1,λt1 g1=>?_⟩⟩)⟩;exact⟨t,t1,_,_,rfl,rfl,(aL.upd g1).bo ht,.of aQ,(by show 2+1≤sizeLine;decide),λa' H' s' h'=>q a' H' ((s1.trans s2).trans ((aL.upd g1).trans s')) h'⟩
def Drw.eX(p:Int):Drw→Prop
 | .box x l r aO=>(x,l,r,aO)∈gT∨(x=Str.ofString "late"∧l=1∧r=1)
 | .times n=>0≤n∧n<p
 | .back d=>d.eX p
 | .cK a b=>a.eX p∧b.eX p
 | .aZ a b=>a.eX p∧b.eX p∧a.cL=b.cU
theorem Drw.md{p:Int}:∀{d:Drw},d.wf p→d.eX p
 | .box _ _ _ _,h=>.inl h
 | .times _,h=>h
 | .back d,h=>Drw.md (d:=d) h
 | .cK _ _,h=>⟨Drw.md h.1,Drw.md h.2⟩
 | .aZ _ _,h=>⟨Drw.md h.1,Drw.md h.2.1,h.2.2⟩
def Itm.eX(p:Int):Itm→Prop
 | .num _=>True
 | .cQ d=>d.eX p
theorem Itm.abp{t:Itm}(h:t.eX p):∀u∈t.kids,u.eX p:=by
 cases t with
 |num n=>intro u hu;cases hu
 |cQ d=>
  cases d with
  |box=>intro u hu;cases hu
  |times n=>intro u hu;rw[cR.mp hu];exact True.intro
  |back d=>intro u hu;rw[cR.mp hu];exact h
  |cK a b=>
   intro u hu;rcases(dP.mp hu)with z|z
   ·rw[z];exact h.1
   ·rw[cR.mp z];exact h.2
  |aZ a b=>
   intro u hu;rcases(dP.mp hu)with z|z
   ·rw[z];exact h.1
   ·rw[cR.mp z];exact h.2.1
theorem QM{p:Int}:∀(i:Nat){ts:List Itm},(∀t∈ts,t.eX p)→∀t∈e8 ts i,t.eX p
 |0,ts,h=>h
 |i+1,[],h=>by intro t ht;rw[Dw]at ht;cases ht
 |i+1,t::ts,h=>QM i (ts:=t.kids++ts) λu hu=>by
  rcases(c9.mp hu)with z|z
  ·exact Itm.abp (h t dN) u z
  ·exact h u (gp _ z)
theorem abq:l6 (Str.ofString "late")=0:=by decide +kernel
def zq(K:Frag)(H:Hp):Itm→V→Prop
 | .num n,v=>v=.int n
 | .cQ d,v=>∃a,v=.ref a∧ny K H a d.cU d.cL
inductive iN(K:Frag)(H:Hp):List Itm→List V→Prop where
 |nil:iN K H [] []
 |cons {t:Itm} {ts:List Itm} {v:V} {vs:List V} (h:zq K H t v) (r:iN K H ts vs):iN K H (t::ts) (v::vs)
section
variable{K:Frag}{H H':Hp}
theorem zq.tup{t:Itm}{v:V}(h:zq K H t v)(s:fV H H'):zq K H' t v:=by
 cases t with
 |num n=>exact h
 |cQ d=>
  obtain⟨a,e,hf⟩:=h;exact⟨a,e,s.bo hf⟩
theorem iN.tup{ts:List Itm}{vs:List V}(h:iN K H ts vs)(s:fV H H'):iN K H' ts vs:=by
 induction h with
 |nil=>exact .nil
 |cons h r ih=>exact .cons (h.tup s) ih
theorem iN.len{ts:List Itm}{vs:List V}(h:iN K H ts vs):vs.length=ts.length:=by
 induction h with
 |nil=>rfl
 |cons h r ih=>rw[eO,eO,ih]
theorem iN.split:∀{ts us:List Itm}{vs:List V},iN K H (ts++us) vs→∃xs ys,vs=xs++ys∧iN K H ts xs∧iN K H us ys
 | [],us,vs,h=>⟨[],vs,rfl,.nil,h⟩
 |t::ts,us,_,.cons h r=>by
  obtain⟨xs,ys,e,h1,h2⟩:=iN.split (ts:=ts) r;exact⟨_::xs,ys,by rw[e];rfl,.cons h h1,h2⟩
end
def QN(K:Frag):Sp:=λvs H Q _=>∃(p:Int)(aw:Addr)(d:Drw),vs=[.ref aw]∧d.eX p∧d.aN.length≤900000∧bc K H aw d.aN∧∀v H',aL H H'→ny K H' v d.cU d.cL→Q (.ref v) H'
theorem Jy(F:bZ K "measured" "measured" Cv f fd)
  (GF:sk P w K mg base 4 fF lC ["words","made"] (IS 2 P w K mg base)) (kF:Kp K fF) (bF:Binds K lC ["words","made"] []) (mF:Mg mg "folded" fF)
  (GM:bf P w K mg base bj 2 fM iJ ["place","word","parts"] (Jv K)) (FM:bZ K "measure" "measure" vW fM iJ) (bM:Binds K iJ ["place","word","parts"] []) (mM:Mg mg "measure" fM):bf P w K mg base bj 5 f fd ["words"] (QN K):=by
 refine F.ok Pr (λvs H Q E h=>?_) (λbt A outer s H vs Q E hr h=>?_)
 ·obtain⟨p,aw,d,rfl,_⟩:=h;rfl
 ·obtain⟨p,aw,d,rfl,hd,ux,hw,q⟩:=h;have ew:([Itm.cQ d]).flatMap Itm.aN=d.aN:=by simp[Itm.aN]
  have Jn:∀t∈[Itm.cQ d],t.eX p:=λt ht=>by rw[cR.mp ht];exact hd
  refine⟨_,bg (bY (Cj GF hr rfl mF kF bF (aK (pv 0) (aK (lK (v:=.ref _) rfl mM rfl) aM)))),?_⟩;refine⟨_,rfl,λaJ s1 I=>⟨aw,fM,d.aN,λvs H' Q=>Jv K vs H' Q E0,λi vs H'=>iN K H' (e8 [.cQ d] i) vs.reverse,rfl,?_⟩⟩;refine⟨hw,ux,o8.OR GM FM bM,?_,λi vs H1 H2 h tp=>h.tup tp,λi vs H1 h=>?_,λi hi=>?_,λi n vs H1 h g=>?_,λi x vs H1 h g=>?_,?_,λtd aU vs v H' s' h1 h2 h3=>?_⟩
  ·show iN K H (e8 [.cQ d] d.aN.length) _;have e:=Qh (ts:=[.cQ d]);rw[ew]at e;rw[e];exact .nil
  ·have e:=h.len;have z:=Qi (ts:=[.cQ d]) (i:=i);rw[List.length_reverse]at e;rw[ew]at z;lia
  ·obtain⟨t,r,e1,e2,e3⟩:=wC (ts:=[.cQ d]) (i:=i) (by rw[ew];exact hi);rw[ew]at e2;rw[e2];cases t with
   |num n=>exact .inr ⟨n,rfl⟩
   |cQ d'=>cases d'<;>exact .inl ⟨_,rfl⟩
  ·obtain⟨t,r,e1,e2,e3⟩:=wC (ts:=[.cQ d]) (i:=i) (by rw[ew];exact(dz.mp h).1);rw[ew,h]at e2;cases t with
   |num m=>
    have e2:n=m:=V.int.inj (c7 e2);subst e2;have g:iN K H1 (e8 [.cQ d] (i+1)) vs.reverse:=g;rw[e3]at g;show iN K H1 (e8 [.cQ d] i) (vs++[V.int n]).reverse;rw[e1,u9];exact .cons rfl g
   |cQ d'=>cases d'<;>cases e2
  ·obtain⟨t,r,e1,e2,e3⟩:=wC (ts:=[.cQ d]) (i:=i) (by rw[ew];exact(dz.mp h).1);rw[ew,h]at e2;have zm:t.eX p:=QM i Jn t (by rw[e1];exact dN);have g:iN K H1 (e8 [.cQ d] (i+1)) vs.reverse:=g;rw[e3]at g;obtain⟨xs,ys,ev,g1,g2⟩:=g.split;have Jo:vs=ys.reverse++xs.reverse:=by rw[← u9,← ev,List.reverse_reverse]
   refine⟨ys.reverse,xs,Jo,?_,?_⟩
   ·have el:=g1.len;rw[el];cases t with
    |num m=>cases e2
    |cQ d'=>
     cases d' with
     |box x' l' r' cf=>
      have e2:x=x':=V.str.inj (c7 e2);subst e2;rcases zm with h|h
      ·exact(Qj _ h).symm
      ·rw[h.1];exact abq.symm
     |times n=>have e2:x=_:=V.str.inj (c7 e2);subst e2;exact PU.symm
     |back d'=>have e2:x=_:=V.str.inj (c7 e2);subst e2;exact PR.symm
     |cK a b=>have e2:x=_:=V.str.inj (c7 e2);subst e2;exact Qk.symm
     |aZ a b=>have e2:x=_:=V.str.inj (c7 e2);subst e2;exact Ql.symm
   ·intro pa H2 Q' tp hp hq;refine⟨_,_,pa,_,rfl,hp,?_⟩;have g1:=g1.tup tp;have g2:=g2.tup tp;have fin:∀v H3,aL H2 H3→zq K H3 t (.ref v)→Q' (.ref v) H3:=λv H3 s3 hv=>hq (.ref v) H3 s3 (by
     show iN K H3 (e8 [.cQ d] i) _;rw[e1,u9,List.reverse_reverse];exact .cons hv (g2.tup s3.tup))
    cases t with
    |num m=>cases e2
    |cQ d'=>
     have ql:=zm;cases d' with
     |box x' l' r' cf=>
      have e2:x=x':=V.str.inj (c7 e2);subst e2;rcases ql with h|⟨h1,h2,h3⟩
      ·exact .box _ _ _ h λv H3 s3 hv=>fin v H3 s3 ⟨v,rfl,hv⟩
      ·subst h2 h3;exact .QG h1 λv H3 s3 hv=>fin v H3 s3 ⟨v,rfl,hv⟩
     |times n=>
      have e2:x=_:=V.str.inj (c7 e2);exact .times e2 λv H3 s3 hv=>fin v H3 s3 ⟨v,rfl,hv⟩
     |back d'=>
      have e2:x=_:=V.str.inj (c7 e2);cases g1 with
      |cons h1 r1=>
       cases r1;obtain⟨a,rfl,hf⟩:=h1;exact .back a _ _ e2 rfl hf λv H3 s3 hv=>fin v H3 s3 ⟨v,rfl,hv⟩
     |cK a b=>
      have e2:x=_:=V.str.inj (c7 e2);cases g1 with
      |cons h1 r1=>
       cases r1 with
       |cons h2 r2=>
        cases r2;obtain⟨a1,rfl,hf⟩:=h1;obtain⟨a2,rfl,jk⟩:=h2;exact .cK a1 a2 _ _ _ _ e2 rfl hf jk λv H3 s3 hv=>fin v H3 s3 ⟨v,rfl,hv⟩
     |aZ a b=>
      have e2:x=_:=V.str.inj (c7 e2);cases g1 with
      |cons h1 r1=>
       cases r1 with
       |cons h2 r2=>
        cases r2;obtain⟨a1,rfl,hf⟩:=h1;obtain⟨a2,rfl,jk⟩:=h2;rw[← ql.2.2]at jk;exact .aZ a1 a2 _ _ _ e2 rfl hf jk λv H3 s3 hv=>fin v H3 s3 ⟨v,rfl,hv⟩
  ·cases d<;>exact⟨_,rfl⟩
  ·have h3:iN K H' [.cQ d] (vs++[v]).reverse:=h3;rw[u9]at h3;cases h3 with
   |cons hv r=>
    obtain⟨a,rfl,hf⟩:=hv;exact⟨td,aU,_,rfl,h1,h2,q a H' s' hf⟩
def DB(K:Frag):Sp:=λvs H Q _=>∃(p:Int)(aw:Addr)(d:Drw),vs=[.ref aw]∧d.eX p∧d.aN.length≤900000∧bc K H aw d.aN∧∀v H',aL H H'→bc K H' v [.int (d.cU:Int),.int (d.cL:Int)]→Q (.ref v) H'
theorem Jz(F:bZ K "wires" "wires" Ct f fd)
  (GM:bf P w K mg base bj 5 fM iJ ["words"] (QN K)) (kM:Kp K fM) (bM:Binds K iJ ["words"] []) (mM:Mg mg "measured" fM):bf P w K mg base bj 6 f fd ["words"] (DB K):=by
 refine F.ok Pw (λvs H Q E h=>?_) (λbt A outer s H vs Q E hr h=>?_)
 ·obtain⟨p,aw,d,rfl,_⟩:=h;rfl
 ·obtain⟨p,aw,d,rfl,hd,ux,hw,q⟩:=h;refine⟨_,bg (bY (dB (jE K rfl) (ck GM hr rfl mM kM bM .nil cu (aK (pv 0) aM)) dZ (cZ aR))),?_⟩;refine⟨_,rfl,p,aw,d,rfl,hd,ux,hw,λv H1 s1 hv=>?_⟩;exact⟨_,rfl,v,_,rfl,hv,λt H2 s2 ht=>q t H2 (s1.trans s2) ht⟩
theorem DC:(["place","number","rows"]:List Str).Nodup:=by decide +kernel
theorem QO:(["other","place"]:List Str).Nodup:=by decide +kernel
def QP(K:Frag):Sp:=λvs H Q _=>∃(p:Int)(a b':Addr)(b:Bool)(XS:List V)(rs:LL)(r:List Int)(n:Nat),vs=[.int p,.ref a,.ref b']∧p∈cb∧Sq b K H a XS∧bI K H XS (rs.map cJ)∧bw p n rs∧rs.length≤900∧n≤900∧bc K H b' (r.map V.int)∧Rw p n r∧
 ((∀H',aL H H'→(∀f:Fn,¬ ∀j,j<n→p∣dot f (fn (rs.map λq=>q.getD j 0)) rs.length-r.getD j 0)→Q .cm H')∧
   ∀t fs H',aL H H'→bc K H' t (List.map V.int fs)→Rw p rs.length fs→(∀j,j<n→p∣dot (fn fs) (fn (rs.map λq=>q.getD j 0)) rs.length-r.getD j 0)→Q (.ref t) H')
noncomputable abbrev nF:List Str:=["p","rows","row","count","place","asked","factors","known"]
theorem pq:c8 ["p","rows","row","count","place","asked","factors","known"] ["p","rows","row"] (bq yX):=dv rfl rfl rfl (by decide +kernel) rfl
theorem abr{fD:Addr}{pf:FuncData}(F:bZ K "factors_of" "factors_of" yX f fd)(T:Txt mg)
  (GD:bf P w K mg base bj 3 fD pf ["p","rows"] (so K)) (kD:Kp K fD) (bD:Binds K pf ["p","rows"] []) (mD:Mg mg "reduced" fD)
  (GF:bf P w K mg base bj 1 fF lC ["row"] (Pd K)) (kF:Kp K fF) (bF:Binds K lC ["row"] []) (mF:Mg mg "first_place" fF) :
  bf P w K mg base bj 4 f fd ["p","rows","row"] (QP K):=by
 refine F.ok pq (λvs H Q E h=>?_) (λbt A outer s H vs Q E hr h=>?_)
 ·obtain⟨p,a,b',b,XS,rs,r,n,rfl,_⟩:=h;rfl
 ·obtain⟨p,a,b',b,XS,rs,r,n,rfl,pp,hq,hA,hR,hz,hn,gN,pw,k⟩:=h;obtain⟨p2,iI⟩:=eI p pp;have p0:0<p:=by lia
  have nj:dk 1 _:=hr.mono (by decide);have jj:(1000:Nat)≤sizeLine:=by decide
  cases b with
  |true=>
   refine⟨_,aX (bH (i:=3) pq.nd rfl (.inl rfl) (dO (iX K rfl) rfl T.len iY (aK (pv 1) aM))) (aX (jX (i:=5) (N:=["place","number","rows"]) (own:=2) (caps:=[1]) rfl pq.nd rfl rfl (Hf K rfl false rfl T.enumerate (aK (pv 2) aM)) (show dR nF (bq yX) ["place","number","rows"] 2 [1] _ from .mk' (by decide +kernel)) (λ_ _ _ _ _=>yu (n:=2) K rfl rfl (dJ (cj (i:=0) DC rfl (Or.inr rfl)) (dJ (cj (i:=1) DC rfl (.inl rfl)) jT))) (λ_ _ _ _ _=>gz) (λ_ _ _ _ _=>aV (iH K rfl) (fw (lV K rfl) rfl T.tuple jY (aK (mY (N:=["other","place"]) (own:=1) (caps:=[0]) rfl (ir K rfl (pv 2)) (show dR ["place","number","rows"] _ ["other","place"] 1 [0] _ from .mk' (by kernel_rfl)) (λ_ _ _ _ _=>cj (i:=0) QO rfl (.inl rfl)) (λ_ _ _ _ _=>gz) (λ_ _ _ _ _=>bh (cT K rfl) (pv 0) (pv 1) (λ_ _=>rfl))) aM)) (fu (aK (pv 1) aM)))) (aX (bH (i:=6) pq.nd rfl (.inl rfl) (aV ky (bE (aK aR aM)) (pv 3))) (aX (jw jR rfl (n6 K rfl (ck GD hr rfl mD kD bD .nil cu (aK (pv 0) (aK (pv 5) aM)))) (cj (i:=7) pq.nd rfl (.inl rfl)) (aX (bH (i:=4) pq.nd rfl (.inl rfl) (ck GF nj rfl mF kF bF .nil cu (aK (pv 7) aM))) (aX (cN (cC dM (pv 4) (pv 3) (cx _)) (bg (bY oT)) df) (bg (lM (bh (cT K rfl) (pv 7) (pv 3) (λ_ _=>rfl)) (Ft (pv 6) (pv 4) FY)))))) (bg (bY (fw (lV K rfl) rfl T.tuple jY (aK (pv 6) aM))))))),?_⟩
   have cE:=fj hA;refine⟨_,rfl,a,XS,rfl,.inl hq,?_⟩;rw[cE];have ex:(r.map V.int).length=n:=by rw[ba,pw.1]
   refine⟨_,rfl,b',rfl,⟨_,gN⟩,Ha (b:=false) (cp:=[some (.ref a)]) (λi H' zs=>bI K H' zs (((List.range i).map (j7 rs r)).map cJ)) gN (by rw[ex];lia) .nil (λi H' zs h=>by rw[fj h,ba,tD];exact bX _) (λi H1 H2 zs e h=>h.mono e) ?_ ?_⟩
   ·rintro i x H1 zs hx sm h;have hi:i<n:=by rw[← ex];exact(dz.mp hx).1
    have fb:x=.int (r.getD i 0):=by
     rw[kc (by rw[pw.1];exact hi)]at hx;exact(c7 hx).symm
    subst fb;refine jZ ⟨_,rfl,a,rfl,⟨_,(aL.sq (b:=true)) sm hq⟩,o6 (cp:=[some (.int (i:Int))]) (λj H' zs=>zs=((rs.take j).map λq=>q.getD i 0).map V.int) ((aL.sq (b:=true)) sm hq) (by lia) rfl (λj H' zs e=>by rw[e,ba,ba,cH];lia) ?_ ?_⟩
    ·rintro j y H2 ym hy gu rfl;obtain⟨q,qa,zr,rfl,rm⟩:=ni hA hy;have JA:i<q.length:=by rw[(hR q (da zr)).1];exact hi
     refine jZ ⟨_,rfl,_,rfl,qa,_,(i:Int),_,rfl,rfl,(sm.trans gu).bo rm,bu (kc JA),⟨[_],rfl,rfl⟩,gu,?_⟩;rw[gq,zr];simp
    rintro H2 ym gu rfl lq wI;rw[cE,km];refine⟨lq,_,rfl,.inl ⟨.of aQ,λlt cX=>?_⟩⟩;refine⟨_,rfl,(by show 1≤sizeLine;lia),λl1 h1=>⟨lt,l1,((rs.map λq=>q.getD i 0).map V.int),[.int (r.getD i 0)],rfl,rfl,(aL.upd h1).bo (.of aQ),.of aQ,?_,λt H3 gS ht=>?_⟩⟩
    ·rw[ba,ba];show rs.length+1≤sizeLine;lia
    have uy:=((gu.trans (aL.upd wI)).trans (aL.upd cX)).trans ((aL.upd h1).trans gS);refine⟨⟨[_,_],rfl,rfl⟩,sm.trans uy,?_⟩;rw[List.range_succ,dE,dE];refine(h.mono uy).append (.cons (lU ?_) .nil);show bc K H3 t ((rs.map (λq=>q.getD i 0)++[r.getD i 0]).map V.int);rw[dE];exact ht
   rintro H1 AS j9 zt la jG;rw[ex]at zt;have gu:aL H (upd H1 la (.lst AS)):=j9.trans (.upd jG);have g2:(upd H1 la (.lst AS)) la=some (.lst AS):=aQ;have zu:=zt.mono (aL.upd jG (o:=.lst AS));generalize upd H1 la (.lst AS)=H2 at gu g2 zu ⊢;have zv:bw p (rs.length+1) ((List.range n).map (j7 rs r)):=λx hx=>by
    obtain⟨j,hj,rfl⟩:=cY.mp hx;exact Ob p0 hR pw
   refine⟨by decide,λl1 h1=>⟨_,rfl,l1,(rs.length:Int),_,rfl,rfl,aQ,by lia,by lia,(by show 1*((rs.length:Nat):Int).toNat≤sizeLine;lia),λlf qk=>?_⟩⟩;have e0:(List.replicate ((rs.length:Nat):Int).toNat [V.int 0]).flatten=(List.replicate rs.length (0:Int)).map V.int:=by rw[Int.toNat_natCast,Io,xv]
   rw[e0];have gS:aL H2 (upd (upd H2 l1 (.lst [.int 0])) lf (.lst ((List.replicate rs.length (0:Int)).map V.int))):=(aL.upd h1).trans (.upd qk);have g3:(upd (upd H2 l1 (.lst [.int 0])) lf (.lst ((List.replicate rs.length (0:Int)).map V.int))) lf=some (.lst ((List.replicate rs.length (0:Int)).map V.int)):=aQ;have n3:H2 lf=none:=fo (aL.upd h1) qk;generalize upd (upd H2 l1 (.lst [.int 0])) lf (.lst ((List.replicate rs.length (0:Int)).map V.int))=H3 at gS g3 ⊢;refine⟨_,rfl,_,rfl,p,la,true,AS,_,rs.length+1,rfl,pp,.of (gS _ _ g2),zu.mono gS,by rw[ba,tD];lia,by lia,zv,λt H4 DS ji ht hD=>?_⟩;have RO:=gP pp zv;obtain⟨ls,EC⟩:=RO.ic;generalize cz p ((List.range n).map (j7 rs r))=D at RO EC hD;have eD:=fj hD;refine⟨t,rfl,⟨_,ht⟩,Bi (xs:=DS) (λi σ H'=>aL H2 H'∧bc K H' t DS∧bI K H' DS (D.map cJ)∧∃s4 s7 fs,σ=[some (.int p),some (.ref a),some (.ref b'),some (.int (rs.length:Int)),s4,some (.ref la),some (.ref lf),s7]∧H' lf=some (.lst (List.map V.int fs))∧FI p rs.length D ls i fs) ⟨gS.trans ji,ht,hD,_,_,List.replicate rs.length 0,rfl,ji _ _ g3,FI.start p0⟩ (λi σ H' _ h=>h.2.1) ?_ ?_⟩
   ·rintro i x σ H5 hx ⟨ff,sx,uz,s4,s7,fs,rfl,g5,hF⟩;obtain⟨q,qa,pA,rfl,rm⟩:=ni uz hx;have rn:=RO.rws q (da pA);have j6:i<ls.length:=by rw[EC.len];exact(dz.mp pA).1
    have nZ:ls[i]?=some ls[i]:=cg j6;have zw:=EC.lt _ (da nZ);obtain⟨o1,o0⟩:=EC.one i q _ pA nZ;generalize ls[i]=l at nZ zw o1 o0;obtain⟨tl,iF⟩:=N7 rn.1 zw o1 o0;refine⟨_,rfl,qa,q,l,tl,rfl,rm,by rw[rn.1];lia,iF,λH6 iw=>?_⟩;refine⟨_,rfl,_,rfl,rfl,_,rfl,tU (λhe=>?_) (λcM=>?_)⟩
    ·have hl:l=rs.length:=by
      have:=V.int.inj (aI he)
      lia
     rw[hl]at o1 o0;refine k.1 H6 ((gu.trans ff).trans iw) λf h=>N9 pp RO (da pA) o1 o0 f λx hx=>?_;obtain⟨j,hj,rfl⟩:=cY.mp hx;rw[B5,B4];exact h j (oJ.mp hj)
    ·have mZ:l<rs.length:=by
      have:l≠rs.length:=λz=>cM (aE (by rw[z]))
      lia
     refine⟨_,rfl,_,rfl,qa,_,(rs.length:Int),_,rfl,rfl,iw.bo rm,bu (kc (by rw[rn.1];lia)),_,rfl,_,rfl,lf,_,(l:Int),l,rfl,rfl,iw _ _ g5,?_,?_⟩
     ·unfold mX;rw[af (by lia),af (by rw[ba,hF.rw.1];lia)];simp
     ·refine⟨(ff.trans iw).write n3,bc.wr (iw.bo sx) (iw _ _ g5),bI.wr (iw _ _ g5) (uz.mono iw),_,_,fs.set l (q.getD rs.length 0),rfl,by rw[aQ,List.map_set],hF.step p0 EC.up rn nZ pA mZ⟩
   ·rintro σ H5 ⟨ff,sx,uz,s4,s7,fs,rfl,g5,hF⟩;refine⟨_,rfl,lf,_,rfl,.inl ⟨.of g5,λlt cX=>k.2 lt fs _ ((gu.trans ff).trans (.upd cX)) (.of aQ) hF.rw λj hj=>?_⟩⟩;rw[eD]at hF;have JB:∀l∈ls,l<rs.length:=λl hl=>by
     obtain⟨i,hi,rfl⟩:=mz.mp hl;exact hF.lt i _ (by rw[← EC.len];exact hi) (cg hi)
    have:=Oa RO EC JB (j7 rs r j) (cY.mpr ⟨j,oJ.mpr hj,rfl⟩)
    rw[B5,B4]at this;have e:dot (fn fs) (fn (rs.map λq=>q.getD j 0)) rs.length=dot (λk=>dt (eJ D ls) k rs.length) (fn (rs.map λq=>q.getD j 0)) rs.length:=vN λk _=>by
     show fs.getD k 0*_=_;rw[hF.done EC.up EC.len k]
    rw[e];exact this
  |false=>
   refine⟨_,aX (bH (i:=3) pq.nd rfl (.inl rfl) (dO (iX K rfl) rfl T.len iY (aK (pv 1) aM))) (aX (jX (i:=5) (N:=["place","number","rows"]) (own:=2) (caps:=[1]) rfl pq.nd rfl rfl (Hf K rfl false rfl T.enumerate (aK (pv 2) aM)) (show dR nF (bq yX) ["place","number","rows"] 2 [1] _ from .mk' (by decide +kernel)) (λ_ _ _ _ _=>yu (n:=2) K rfl rfl (dJ (cj (i:=0) DC rfl (Or.inr rfl)) (dJ (cj (i:=1) DC rfl (.inl rfl)) jT))) (λ_ _ _ _ _=>gz) (λ_ _ _ _ _=>aV (iH K rfl) (fw (lV K rfl) rfl T.tuple jY (aK (mY (N:=["other","place"]) (own:=1) (caps:=[0]) rfl (n6 K rfl (pv 2)) (show dR ["place","number","rows"] _ ["other","place"] 1 [0] _ from .mk' (by kernel_rfl)) (λ_ _ _ _ _=>cj (i:=0) QO rfl (.inl rfl)) (λ_ _ _ _ _=>gz) (λ_ _ _ _ _=>bh (cT K rfl) (pv 0) (pv 1) (λ_ _=>rfl))) aM)) (fu (aK (pv 1) aM)))) (aX (bH (i:=6) pq.nd rfl (.inl rfl) (aV ky (bE (aK aR aM)) (pv 3))) (aX (jw jR rfl (n6 K rfl (ck GD hr rfl mD kD bD .nil cu (aK (pv 0) (aK (pv 5) aM)))) (cj (i:=7) pq.nd rfl (.inl rfl)) (aX (bH (i:=4) pq.nd rfl (.inl rfl) (ck GF nj rfl mF kF bF .nil cu (aK (pv 7) aM))) (aX (cN (cC dM (pv 4) (pv 3) (cx _)) (bg (bY oT)) df) (bg (lM (bh (cT K rfl) (pv 7) (pv 3) (λ_ _=>rfl)) (Ft (pv 6) (pv 4) FY)))))) (bg (bY (fw (lV K rfl) rfl T.tuple jY (aK (pv 6) aM))))))),?_⟩
   have cE:=fj hA;refine⟨_,rfl,a,XS,rfl,.inr hq,?_⟩;rw[cE];have ex:(r.map V.int).length=n:=by rw[ba,pw.1]
   refine⟨_,rfl,b',rfl,⟨_,gN⟩,Ha (b:=false) (cp:=[some (.ref a)]) (λi H' zs=>bI K H' zs (((List.range i).map (j7 rs r)).map cJ)) gN (by rw[ex];lia) .nil (λi H' zs h=>by rw[fj h,ba,tD];exact bX _) (λi H1 H2 zs e h=>h.mono e) ?_ ?_⟩
   ·rintro i x H1 zs hx sm h;have hi:i<n:=by rw[← ex];exact(dz.mp hx).1
    have fb:x=.int (r.getD i 0):=by
     rw[kc (by rw[pw.1];exact hi)]at hx;exact(c7 hx).symm
    subst fb;refine jZ ⟨_,rfl,a,rfl,⟨_,(aL.sq (b:=false)) sm hq⟩,yn (cp:=[some (.int (i:Int))]) (λj H' zs=>zs=((rs.take j).map λq=>q.getD i 0).map V.int) ((aL.sq (b:=false)) sm hq) (by lia) rfl (λj H' zs e=>by rw[e,ba,ba,cH];lia) ?_ ?_⟩
    ·rintro j y H2 ym hy gu rfl;obtain⟨q,qa,zr,rfl,rm⟩:=ni hA hy;have JA:i<q.length:=by rw[(hR q (da zr)).1];exact hi
     refine jZ ⟨_,rfl,_,rfl,qa,_,(i:Int),_,rfl,rfl,(sm.trans gu).bo rm,bu (kc JA),⟨[_],rfl,rfl⟩,gu,?_⟩;rw[gq,zr];simp
    rintro H2 ym gu rfl lq wI;rw[cE,km];refine⟨lq,_,rfl,.inl ⟨.of aQ,λlt cX=>?_⟩⟩;refine⟨_,rfl,(by show 1≤sizeLine;lia),λl1 h1=>⟨lt,l1,((rs.map λq=>q.getD i 0).map V.int),[.int (r.getD i 0)],rfl,rfl,(aL.upd h1).bo (.of aQ),.of aQ,?_,λt H3 gS ht=>?_⟩⟩
    ·rw[ba,ba];show rs.length+1≤sizeLine;lia
    have uy:=((gu.trans (aL.upd wI)).trans (aL.upd cX)).trans ((aL.upd h1).trans gS);refine⟨⟨[_,_],rfl,rfl⟩,sm.trans uy,?_⟩;rw[List.range_succ,dE,dE];refine(h.mono uy).append (.cons (lU ?_) .nil);show bc K H3 t ((rs.map (λq=>q.getD i 0)++[r.getD i 0]).map V.int);rw[dE];exact ht
   rintro H1 AS j9 zt la jG;rw[ex]at zt;have gu:aL H (upd H1 la (.lst AS)):=j9.trans (.upd jG);have g2:(upd H1 la (.lst AS)) la=some (.lst AS):=aQ;have zu:=zt.mono (aL.upd jG (o:=.lst AS));generalize upd H1 la (.lst AS)=H2 at gu g2 zu ⊢;have zv:bw p (rs.length+1) ((List.range n).map (j7 rs r)):=λx hx=>by
    obtain⟨j,hj,rfl⟩:=cY.mp hx;exact Ob p0 hR pw
   refine⟨by decide,λl1 h1=>⟨_,rfl,l1,(rs.length:Int),_,rfl,rfl,aQ,by lia,by lia,(by show 1*((rs.length:Nat):Int).toNat≤sizeLine;lia),λlf qk=>?_⟩⟩;have e0:(List.replicate ((rs.length:Nat):Int).toNat [V.int 0]).flatten=(List.replicate rs.length (0:Int)).map V.int:=by rw[Int.toNat_natCast,Io,xv]
   rw[e0];have gS:aL H2 (upd (upd H2 l1 (.lst [.int 0])) lf (.lst ((List.replicate rs.length (0:Int)).map V.int))):=(aL.upd h1).trans (.upd qk);have g3:(upd (upd H2 l1 (.lst [.int 0])) lf (.lst ((List.replicate rs.length (0:Int)).map V.int))) lf=some (.lst ((List.replicate rs.length (0:Int)).map V.int)):=aQ;have n3:H2 lf=none:=fo (aL.upd h1) qk;generalize upd (upd H2 l1 (.lst [.int 0])) lf (.lst ((List.replicate rs.length (0:Int)).map V.int))=H3 at gS g3 ⊢;refine⟨_,rfl,_,rfl,p,la,true,AS,_,rs.length+1,rfl,pp,.of (gS _ _ g2),zu.mono gS,by rw[ba,tD];lia,by lia,zv,λt H4 DS ji ht hD=>?_⟩;have RO:=gP pp zv;obtain⟨ls,EC⟩:=RO.ic;generalize cz p ((List.range n).map (j7 rs r))=D at RO EC hD;have eD:=fj hD;refine⟨t,rfl,⟨_,ht⟩,Bi (xs:=DS) (λi σ H'=>aL H2 H'∧bc K H' t DS∧bI K H' DS (D.map cJ)∧∃s4 s7 fs,σ=[some (.int p),some (.ref a),some (.ref b'),some (.int (rs.length:Int)),s4,some (.ref la),some (.ref lf),s7]∧H' lf=some (.lst (List.map V.int fs))∧FI p rs.length D ls i fs) ⟨gS.trans ji,ht,hD,_,_,List.replicate rs.length 0,rfl,ji _ _ g3,FI.start p0⟩ (λi σ H' _ h=>h.2.1) ?_ ?_⟩
   ·rintro i x σ H5 hx ⟨ff,sx,uz,s4,s7,fs,rfl,g5,hF⟩;obtain⟨q,qa,pA,rfl,rm⟩:=ni uz hx;have rn:=RO.rws q (da pA);have j6:i<ls.length:=by rw[EC.len];exact(dz.mp pA).1
    have nZ:ls[i]?=some ls[i]:=cg j6;have zw:=EC.lt _ (da nZ);obtain⟨o1,o0⟩:=EC.one i q _ pA nZ;generalize ls[i]=l at nZ zw o1 o0;obtain⟨tl,iF⟩:=N7 rn.1 zw o1 o0;refine⟨_,rfl,qa,q,l,tl,rfl,rm,by rw[rn.1];lia,iF,λH6 iw=>?_⟩;refine⟨_,rfl,_,rfl,rfl,_,rfl,tU (λhe=>?_) (λcM=>?_)⟩
    ·have hl:l=rs.length:=by
      have:=V.int.inj (aI he)
      lia
     rw[hl]at o1 o0;refine k.1 H6 ((gu.trans ff).trans iw) λf h=>N9 pp RO (da pA) o1 o0 f λx hx=>?_;obtain⟨j,hj,rfl⟩:=cY.mp hx;rw[B5,B4];exact h j (oJ.mp hj)
    ·have mZ:l<rs.length:=by
      have:l≠rs.length:=λz=>cM (aE (by rw[z]))
      lia
     refine⟨_,rfl,_,rfl,qa,_,(rs.length:Int),_,rfl,rfl,iw.bo rm,bu (kc (by rw[rn.1];lia)),_,rfl,_,rfl,lf,_,(l:Int),l,rfl,rfl,iw _ _ g5,?_,?_⟩
     ·unfold mX;rw[af (by lia),af (by rw[ba,hF.rw.1];lia)];simp
     ·refine⟨(ff.trans iw).write n3,bc.wr (iw.bo sx) (iw _ _ g5),bI.wr (iw _ _ g5) (uz.mono iw),_,_,fs.set l (q.getD rs.length 0),rfl,by rw[aQ,List.map_set],hF.step p0 EC.up rn nZ pA mZ⟩
   ·rintro σ H5 ⟨ff,sx,uz,s4,s7,fs,rfl,g5,hF⟩;refine⟨_,rfl,lf,_,rfl,.inl ⟨.of g5,λlt cX=>k.2 lt fs _ ((gu.trans ff).trans (.upd cX)) (.of aQ) hF.rw λj hj=>?_⟩⟩;rw[eD]at hF;have JB:∀l∈ls,l<rs.length:=λl hl=>by
     obtain⟨i,hi,rfl⟩:=mz.mp hl;exact hF.lt i _ (by rw[← EC.len];exact hi) (cg hi)
    have:=Oa RO EC JB (j7 rs r j) (cY.mpr ⟨j,oJ.mpr hj,rfl⟩)
    rw[B5,B4]at this;have e:dot (fn fs) (fn (rs.map λq=>q.getD j 0)) rs.length=dot (λk=>dt (eJ D ls) k rs.length) (fn (rs.map λq=>q.getD j 0)) rs.length:=vN λk _=>by
     show fs.getD k 0*_=_;rw[hF.done EC.up EC.len k]
    rw[e];exact this
end S21
namespace D1
open Bw
variable{a b p:Int}{hi lo:Nat}
noncomputable def iO(p:Int)(k:Nat)(h:List Int):List Int:=h.map λx=>x*dC p (h.getD k 0%p)%p
noncomputable def jf(p:Int)(k:Nat)(s:LL×LL):LL×LL:=
 match s.2.findIdx? (λr=>r.getD k 0%p != 0) with
 |none=>s
 |some i=>(s.1.map (gk p k (iO p k (s.2.getD i [])))++[iO p k (s.2.getD i [])],(s.2.eraseIdx i).map (gk p k (iO p k (s.2.getD i []))))
noncomputable def eM(p:Int)(lo:Nat)(L:LL):Nat→LL×LL
 |0=>([],L)
 |c+1=>jf p (lo+c) (eM p lo L c)
section
variable{p:Int}{n k:Nat}{h:List Int}{L T D:LL}
theorem uA:(iO p k h).length=h.length:=by simp[iO]
theorem abt(p0:0<p)(hl:h.length=n):Rw p n (iO p k h):=⟨by rw[uA,hl],λx hx=>by
 obtain⟨y,_,rfl⟩:=cY.mp hx;exact⟨jr _ (by lia),js _ p0⟩⟩
theorem JC(hp:p∈cb){x:Int}(h0:x%p≠0):1≤dC p (x%p)∧dC p (x%p)<p∧dC p (x%p)*x%p=1:=by
 have p0:0<p:=by have:=eI p hp;lia
 have a:=jr x (show p≠0 by lia);have b:=js x p0;obtain⟨t1,t2,t3⟩:=vI hp (n:=x%p) (by lia) b;refine⟨t1,t2,?_⟩;rw[← t3,Int.mul_emod,Int.mul_emod (dC p (x%p)) (x%p),Int.emod_emod]
theorem abu(hl:h.length=n)(j:Nat):p∣(iO p k h).getD j 0-h.getD j 0*dC p (h.getD k 0%p):=by
 by_cases hj:j<n
 ·rw[show iO p k h=h.map λx=>x*dC p (h.getD k 0%p)%p from rfl,N6 hl hj]
  exact lW _ _
 ·rw[cW,lI (by rw[uA];lia),cW,lI (by lia)];exact⟨0,by simp⟩
theorem abv(hp:p∈cb)(hh:Rw p n h)(h0:h.getD k 0≠0):iO p k h=dS p n h k:=by
 have p0:0<p:=by have:=eI p hp;lia
 have b:=hh.at p0 k;have e:h.getD k 0%p=h.getD k 0:=Int.emod_eq_of_lt b.1 b.2;have t:=JC hp (x:=h.getD k 0) (by rw[e];exact h0);exact aac hp hh h0 t.1 t.2.1 t.2.2
theorem find_some{α:Type}{f:α→Bool}:∀{T:List α}{i:Nat},T.findIdx? f=some i→∃h,T[i]?=some h∧f h=true∧∀j q,j<i→T[j]?=some q→f q=false:=by
 intro T i e;rw[List.findIdx?_eq_some_iff_getElem]at e;obtain⟨hi,h1,h2⟩:=e;refine⟨T[i],cg hi,h1,λj q hj hq=>?_⟩;obtain⟨hl,rfl⟩:=dz.mp hq
 have:=h2 j hj
 simpa using this
theorem DD{α:Type}{T:List α}{i:Nat}{h d:α}(e:T[i]?=some h):T.getD i d=h:=by rw[cW,e];rfl
theorem zx(hp:p∈cb)(hL:Bw.bw p n L):∀c,c≤n→iZ p n L c (eM p 0 L c)
 |0,_=>.start hL
 |c+1,hc=>by
  have p0:0<p:=by have:=eI p hp;lia
  have I:=zx hp hL c (by lia);show iZ p n L (c+1) (jf p (0+c) (eM p 0 L c));rw[tF];generalize eM p 0 L c=s at I;obtain⟨D,T⟩:=s;have JD:∀r∈T,r.getD c 0%p=r.getD c 0:=λr hr=>Int.emod_eq_of_lt ((I.r r hr).at p0 c).1 ((I.r r hr).at p0 c).2;unfold jf;split
  ·rename_i e
   refine I.skip λr hr=>?_;rw[List.findIdx?_eq_none_iff]at e
   have:=e r hr
   rw[JD r hr]at this;simpa using this
  ·rename_i i e
   obtain⟨h,hi,h1,h2⟩:=find_some e;have hm:=da hi;have nu:h.getD c 0≠0:=by
    rw[JD h hm]at h1;simpa using h1
   have S:=I.head hp (by lia) hi nu (λj q hj hq=>by
    have:=h2 j q hj hq
    rw[JD q (da hq)]at this;simpa using this)
   dsimp only at hi;dsimp only;rw[DD hi,abv hp (I.r h hm) nu];have j5:=yD (place:=c) p0 (I.r h hm);have QQ:∀{M:LL},Bw.bw p n M→M.map (dW p (dS p n h c) c)=M.map (gk p c (dS p n h c)):=λhM=>uY λr hr=>(aab p0 j5 (hM r hr)).symm;rw[QQ I.d,QQ (λr hr=>I.r r (xw hr))]at S;exact S
theorem zy(hp:p∈cb)(hL:Bw.bw p n L):(eM p 0 L n).1=cz p L:=by
 have:=zx hp hL n (bX _)
 generalize eM p 0 L n=s at this;obtain⟨D,T⟩:=s;exact this.done hp hL
theorem JE{j:Nat}{f:Fn}(hL:∀r∈L,p∣r.getD j 0)(h:Sp p (RS L) f):p∣f j:=by
 induction h with
 |zero=>exact⟨0,by simp⟩
 | @add v r c _ hr ih=>
  obtain⟨q,hq,rfl⟩:=hr;exact pV ih (Int.dvd_trans (hL q hq) ⟨c,by show c*q.getD j 0=_;rw[rM]⟩)
 | @eC u v _ e ih=>exact Z5 ih (e j)
structure ox(p:Int)(n lo hi c:Nat)(L:LL)(T:LL):Prop where
 len:∀r∈T,r.length=n
 near:∀r∈T,∀x∈r,-p<x∧x<p
 pos:∀r∈T,∀j,(j<lo∨hi≤j)→0≤r.getD j 0
 sp:∀f:Fn,Sp p (RS T) f↔Sp p (RS L) f∧∀j,lo≤j→j<lo+c→p∣f j
theorem ox.start(h1:∀r∈L,r.length=n)(h2:∀r∈L,∀x∈r,-p<x∧x<p)(h3:∀r∈L,∀j,(j<lo∨hi≤j)→0≤r.getD j 0):ox p n lo hi 0 L L:=
 ⟨h1,h2,h3,λf=>⟨λh=>⟨h,λj a b=>absurd b (by lia)⟩,λh=>h.1⟩⟩
theorem DE(k:Nat){r h:List Int}(hr:r.length=n)(hh:h.length=n):gg p (λj=>fn r j + -(r.getD k 0)*fn h j) (fn (gk p k h r)):=NV _ hr hh
theorem ox.step(hp:p∈cb){c:Nat}(I:ox p n lo hi c L T){i:Nat}{h:List Int}(jg:T[i]?=some h)(h0:h.getD (lo+c) 0%p≠0) :
  ox p n lo hi (c+1) L ((T.eraseIdx i).map (gk p (lo+c) (iO p (lo+c) h))):=by
 have p0:0<p:=by have:=eI p hp;lia
 have hm:=da jg;have hl:=I.len h hm;have t:=JC hp h0;have ea:=λj=>abu (p:=p) (k:=lo+c) hl j;have sl:(iO p (lo+c) h).length=n:=by rw[uA,hl]
 generalize hk:lo+c=k at h0 t ea sl ⊢;generalize dC p (h.getD k 0%p)=u at t ea;have one:p∣(iO p k h).getD k 0-1:=by
  obtain⟨a,ha⟩:=ea k;obtain⟨b,hb⟩:=lW p (u*h.getD k 0);rw[t.2.2]at hb;exact⟨a-b,by grind⟩
 generalize iO p k h=hd at ea sl one;have JF:∀r∈T.eraseIdx i,Rw p n (gk p k hd r):=λr hr=>yB _ p0 (I.len r (xw hr)) sl;refine⟨λr hr=>?_,λr hr x hx=>?_,λr hr j _=>?_,λf=>?_⟩
 ·obtain⟨q,hq,rfl⟩:=cY.mp hr;exact(JF q hq).1
 ·obtain⟨q,hq,rfl⟩:=cY.mp hr
  have:=(JF q hq).2 x hx
  lia
 ·obtain⟨q,hq,rfl⟩:=cY.mp hr;exact((JF q hq).at p0 j).1
 ·have hdT:Sp p (RS T) (fn hd):=.eC (Sp.add u .zero ⟨h,hm,rfl⟩) λj=>by
   obtain⟨a,ha⟩:=ea j;refine⟨-a,?_⟩;show 0+u*h.getD j 0-hd.getD j 0=_
   grind
  constructor
  ·intro hf;have hT:Sp p (RS T) f:=hf.trans λg hg=>by
    obtain⟨q,hq,rfl⟩:=hg;obtain⟨r,hr,rfl⟩:=cY.mp hq;have wJ:=xw hr;exact .eC (Sp.plus _ (.mem ⟨r,wJ,rfl⟩) hdT) (DE k (I.len r wJ) sl)
   obtain⟨z1,z2⟩:=(I.sp f).mp hT;refine⟨z1,λj h1 h2=>?_⟩;by_cases hj:j<lo+c
   ·exact z2 j h1 hj
   ·have:j=k:=by lia
    subst this;refine JE (λq hq=>?_) hf;obtain⟨r,hr,rfl⟩:=cY.mp hq;have wJ:=xw hr;obtain⟨a,ha⟩:=DE (p:=p) j (I.len r wJ) sl j;obtain⟨b,hb⟩:=one;have rp:r.getD j 0 + -(r.getD j 0)*hd.getD j 0-(gk p j hd r).getD j 0=p*a:=ha;exact⟨-a-b*r.getD j 0,by grind⟩
  ·rintro⟨z1,z2⟩;have hT:=(I.sp f).mpr ⟨z1,λj h1 h2=>z2 j h1 (by lia)⟩;have fk:p∣f k:=z2 k (by lia) (by lia);have key:∀{g:Fn},Sp p (RS T) g→∃(c:Int)(t:Fn),Sp p (RS ((T.eraseIdx i).map (gk p k hd))) t∧gg p (λj=>t j+c*hd.getD j 0) g:=by
    intro g hg;induction hg with
    |zero=>exact⟨0,_,.zero,λj=>⟨0,by simp⟩⟩
    | @add v q c0 _ hq ih=>
     obtain⟨c1,t1,ht,e1⟩:=ih;obtain⟨r,hr,rfl⟩:=hq;by_cases QR:r=h
     ·subst QR;refine⟨c1+c0*r.getD k 0,t1,ht,λj=>?_⟩;obtain⟨a,ha⟩:=e1 j;obtain⟨b,hb⟩:=ea j;obtain⟨d,AW⟩:=lW p (u*r.getD k 0);rw[t.2.2]at AW;refine⟨a+c0*r.getD k 0*b-c0*r.getD j 0*d,?_⟩;show t1 j+(c1+c0*r.getD k 0)*hd.getD j 0-(v j+c0*r.getD j 0)=_;have rp:t1 j+c1*hd.getD j 0-v j=p*a:=ha
      grind
     ·have hre:r∈T.eraseIdx i:=by
       obtain⟨m,zA⟩:=List.getElem?_of_mem hr;refine List.mem_eraseIdx_iff_getElem?.mpr ⟨m,?_,zA⟩;rintro rfl;rw[jg]at zA;exact QR (c7 zA).symm
      refine⟨c1+c0*r.getD k 0,λj=>t1 j+c0*(gk p k hd r).getD j 0,Sp.add c0 ht ⟨_,cY.mpr ⟨r,hre,rfl⟩,rfl⟩,λj=>?_⟩;obtain⟨a,ha⟩:=e1 j;obtain⟨b,hb⟩:=DE (p:=p) k (I.len r hr) sl j;have rp:t1 j+c1*hd.getD j 0-v j=p*a:=ha;have gN:r.getD j 0 + -(r.getD k 0)*hd.getD j 0-(gk p k hd r).getD j 0=p*b:=hb;refine⟨a-c0*b,?_⟩;show t1 j+c0*(gk p k hd r).getD j 0+(c1+c0*r.getD k 0)*hd.getD j 0-(v j+c0*r.getD j 0)=_
      grind
    | @eC u' v' _ e ih=>
     obtain⟨c1,t1,ht,e1⟩:=ih;exact⟨c1,t1,ht,e1.trans e⟩
   obtain⟨c1,t1,ht,e1⟩:=key hT;have tk:p∣t1 k:=JE (λq hq=>by
    obtain⟨r,hr,rfl⟩:=cY.mp hq;have wJ:=xw hr;obtain⟨a,ha⟩:=DE (p:=p) k (I.len r wJ) sl k;obtain⟨b,hb⟩:=one;have rp:r.getD k 0 + -(r.getD k 0)*hd.getD k 0-(gk p k hd r).getD k 0=p*a:=ha;exact⟨-a-b*r.getD k 0,by grind⟩) ht
   have c1z:p∣c1:=by
    obtain⟨a,ha⟩:=e1 k;obtain⟨b,hb⟩:=tk;obtain⟨d,AW⟩:=one;obtain⟨e,he⟩:=fk;have rp:t1 k+c1*hd.getD k 0-f k=p*a:=ha;exact⟨a+e-b-c1*d,by grind⟩
   refine .eC ht λj=>?_;obtain⟨a,ha⟩:=e1 j;obtain⟨b,hb⟩:=c1z;have rp:t1 j+c1*hd.getD j 0-f j=p*a:=ha;exact⟨a-b*hd.getD j 0,by grind⟩
theorem ox.skip{c:Nat}(I:ox p n lo hi c L T)(h0:∀r∈T,r.getD (lo+c) 0%p=0):ox p n lo hi (c+1) L T:=
 ⟨I.len,I.near,I.pos,λf=>⟨λhf=>by
  obtain⟨z1,z2⟩:=(I.sp f).mp hf;refine⟨z1,λj h1 h2=>?_⟩;by_cases hj:j<lo+c
  ·exact z2 j h1 hj
  ·obtain rfl:j=lo+c:=by lia
   exact JE (λr hr=>Int.dvd_of_emod_eq_zero (h0 r hr)) hf,λh=>(I.sp f).mpr ⟨h.1,λj a b=>h.2 j a (by lia)⟩⟩⟩
theorem DF(hp:p∈cb){lo hi:Nat}(h:ox p n lo hi 0 L L):∀c,ox p n lo hi c L (eM p lo L c).2
 |0=>h
 |c+1=>by
  have I:=DF hp h c;show ox p n lo hi (c+1) L (jf p (lo+c) (eM p lo L c)).2;generalize eM p lo L c=s at I;obtain⟨D,T⟩:=s;unfold jf;split
  ·rename_i e
   refine I.skip λr hr=>?_;rw[List.findIdx?_eq_none_iff]at e
   have:=e r hr
   simpa using this
  ·rename_i i e
   obtain⟨h,hi,h1,h2⟩:=find_some e;dsimp only at hi;dsimp only;rw[DD hi];exact I.step hp hi (by simpa using h1)
end
inductive Dr where
 |id|swap|copy|fin|add|none|kh|empty
 |times (n:Int)
 |back (d:Dr)
 |cK (a b:Dr)
 |aZ (a b:Dr)
namespace Dr
noncomputable def bz:Dr→Nat×Nat
 |id=>(1,1)|swap=>(2,2)|copy=>(1,2)|fin=>(1,0)|add=>(2,1)|none=>(0,1)|kh=>(0,2)|empty=>(0,0)
 |times _=>(1,1)
 |back d=>(d.bz.2,d.bz.1)
 |cK a b=>(a.bz.1+b.bz.1,a.bz.2+b.bz.2)
 |aZ a b=>(a.bz.1,b.bz.2)
noncomputable abbrev l(d:Dr):Nat:=d.bz.1
noncomputable abbrev r(d:Dr):Nat:=d.bz.2
def wf(p:Int):Dr→Prop
 |times n=>0≤n∧n<p
 |back d=>d.wf p
 |cK a b=>a.wf p∧b.wf p
 |aZ a b=>a.wf p∧b.wf p∧a.r=b.l
 |_=>True
end Dr
noncomputable def sh(k:Nat)(f:Fn):Fn:=λj=>f (k+j)
def eq(p a b:Int):Prop:=p∣a-b
theorem eq.refl(p a:Int):eq p a a:=⟨0,by lia⟩
theorem eq.symm(h:eq p a b):eq p b a:=by
 have:=Int.dvd_neg.mpr h
 show p∣b-a;rwa[show -(a-b)=b-a by lia]at this
theorem eq.trans{c:Int}(h:eq p a b)(k:eq p b c):eq p a c:=by
 have:=pV h k
 show p∣a-c;rwa[show a-b+(b-c)=a-c by lia]at this
theorem eq.add{c d:Int}(h:eq p a b)(k:eq p c d):eq p (a+c) (b+d):=by
 have:=pV h k
 show p∣_;rwa[show a-b+(c-d)=a+c-(b+d) by lia]at this
def oy(p:Int):Dr→Fn→Fn→Prop
 | .id,x,y=>eq p (y 0) (x 0)
 | .swap,x,y=>eq p (y 0) (x 1)∧eq p (y 1) (x 0)
 | .copy,x,y=>eq p (y 0) (x 0)∧eq p (y 1) (x 0)
 | .fin,_,_=>True
 | .add,x,y=>eq p (y 0) (x 0+x 1)
 | .none,_,y=>eq p (y 0) 0
 | .kh,_,y=>eq p (y 1) (y 0)
 | .empty,_,_=>True
 | .times n,x,y=>eq p (y 0) (n*x 0)
 | .back d,x,y=>oy p d y x
 | .cK a b,x,y=>oy p a x y∧oy p b (sh a.l x) (sh a.r y)
 | .aZ a b,x,y=>∃z,oy p a x z∧oy p b z y
end D1
namespace D1
open Bw
noncomputable def dX:List Int→Fn→Int
 | [],_=>0
 |a::r,x=>a*x 0+dX r (sh 1 x)
theorem QS:∀(r s:List Int)(x:Fn),dX (r++s) x=dX r x+dX s (sh r.length x)
 | [],s,x=>by
  show dX s x=0+dX s (sh 0 x);rw[kl,show sh 0 x=x from funext λj=>by unfold sh;rw[tF]]
 |a::r,s,x=>by
  show a*x 0+dX (r++s) (sh 1 x)=a*x 0+dX r (sh 1 x)+dX s (sh (r.length+1) x);rw[QS r s,show sh r.length (sh 1 x)=sh (r.length+1) x from funext λj=>by unfold sh;rw[show 1+(r.length+j)=r.length+1+j by lia]]
  lia
theorem DG:∀(r:List Int)(x:Fn),(∀a∈r,a=0)→dX r x=0
 | [],_,_=>rfl
 |a::r,x,h=>by
  show a*x 0+dX r (sh 1 x)=0;rw[h a dN,DG r _ λb hb=>h b (gp _ hb)];simp
theorem QT{p:Int}{aO:LL}{f:Fn}:Sp p (RS aO) f↔∃z:Fn,∀j,eq p (f j) (dX (aO.map λr=>r.getD j 0) z):=by
 constructor
 ·intro h;induction h with
  |zero=>exact⟨λ_=>0,λj=>by
    have:∀(l:List Int),dX l (λ_=>0)=0:=λl=>by
     induction l with
     |nil=>rfl
     |cons a l ih=>show a*0+dX l (sh 1 λ_=>0)=0;rw[show sh 1 (λ_=>(0:Int))=λ_=>0 from rfl,ih];simp
    rw[this];exact .refl _ _⟩
  | @add v r c _ hr ih=>
   obtain⟨z,hz⟩:=ih;obtain⟨q,hq,rfl⟩:=hr;obtain⟨i,hi,rfl⟩:=mz.mp hq;refine⟨λk=>z k+if k=i then c else 0,λj=>?_⟩
   have abw:∀(l:List Int)(i:Nat)(hi:i<l.length)(z:Fn),dX l (λk=>z k+if k=i then c else 0)=dX l z+c*l[i]:=λl=>by
    induction l with
    |nil=>intro i hi;exact absurd hi (by simp)
    |cons a l ih=>
     intro i hi z;cases i with
     |zero=>
      show a*(z 0+if 0=0 then c else 0)+dX l (sh 1 λk=>z k+if k=0 then c else 0)=a*z 0+dX l (sh 1 z)+c*a
      rw[show(sh 1 λk=>z k+if k=0 then c else 0)=sh 1 z from funext λk=>by unfold sh;dsimp only;rw[ag (by lia)];simp]
      simp only[if_true,Int.mul_add];rw[rM a c];lia
     |succ i=>
      have jg:i<l.length:=by simpa using hi
      show a*(z 0+if 0=i+1 then c else 0)+dX l (sh 1 λk=>z k+if k=i+1 then c else 0)=a*z 0+dX l (sh 1 z)+c*l[i]
      rw[show(sh 1 λk=>z k+if k=i+1 then c else 0)=λk=>sh 1 z k+if k=i then c else 0 from funext λk=>by
       unfold sh;dsimp only;by_cases e:k=i
       ·rw[af e,af (by lia)]
       ·rw[ag e,ag (by lia)],ih i jg]
      simp;lia
   rw[abw _ i (by rw[ba];exact hi),List.getElem_map];show eq p (v j+c*(aO[i]).getD j 0) _;exact(hz j).add (.refl _ _)
  |eC _ e ih=>
   obtain⟨z,hz⟩:=ih;exact⟨z,λj=>eq.trans (eq.symm (e j)) (hz j)⟩
 ·rintro⟨z,hz⟩;have key:∀(L:LL)(z:Fn),(∀r∈L,r∈aO)→Sp p (RS aO) (λj=>dX (L.map λr=>r.getD j 0) z):=λL=>by
   induction L with
   |nil=>intro z _;exact .zero
   |cons r L ih=>
    intro z hL;have h1:=ih (sh 1 z) λq hq=>hL q (gp _ hq);refine(h1.add (z 0) ⟨r,hL r dN,rfl⟩).of_eq λj=>?_;show dX (L.map λr=>r.getD j 0) (sh 1 z)+z 0*r.getD j 0=r.getD j 0*z 0+dX (L.map λr=>r.getD j 0) (sh 1 z);rw[rM,Int.add_comm]
  refine .eC (key aO z λ_ h=>h) λj=>?_;exact(hz j).symm
inductive Wd where
 |w (x:String)
 |n (i:Int)
 deriving DecidableEq
namespace Dr
noncomputable def aN:Dr→List Wd
 |id=>[.w "id"] | swap=>[.w "swap"] | copy=>[.w "copy"] | fin=>[.w "end"] | add=>[.w "add"] | none=>[.w "none"] | kh=>[.w "cup"] | empty=>[.w "empty"]
 |times n=>[.w "times",.n n]
 |back d=>.w "back"::d.aN
 |cK a b=>.w "beside"::(a.aN++b.aN)
 |aZ a b=>.w "then"::(a.aN++b.aN)
end Dr
def QU(uB:LL)(wK:Nat):Prop:=wK+uB.length<2∨(wK=1∧uB.length=1∧(uB.getD 0 []).getD 0 0≠0)
instance (uB:LL) (wK:Nat):Decidable (QU uB wK):=by unfold QU;infer_instance
def bw(p:Int)(uB:LL)(wK:Nat):Prop:=∀r∈uB,r.length=wK∧∀a∈r,0≤a∧a<p
end D1
namespace D1
open Bw
variable{A B:LL}{a:List Int}{g:List Int→List Int}{j m:Nat}
noncomputable def parts(c l:Nat):Nat:=if c=0 then l else if l=0 then c else 2*(c*l)
noncomputable def cs(A:LL)(j:Nat)(z:Fn):Int:=dX (A.map λr=>r.getD j 0) z
def i0(p:Int)(A:LL)(l r:Nat)(x y:Fn):Prop:=∃z:Fn,(∀j,j<l→eq p (x j) (cs A j z))∧∀j,j<r→eq p (y j) (cs A (l+j) z)
noncomputable def jI(l r:Nat)(x y:Fn):Fn:=λj=>if j<l then x j else if j<l+r then y (j-l)else 0
theorem abx{n:Nat}(h:∀r∈A,r.length=n)(hj:n≤j)(z:Fn):cs A j z=0:=DG _ _ λa ha=>by
 obtain⟨r,hr,rfl⟩:=cY.mp ha;rw[cW,lI (by rw[h r hr];exact hj)];rfl
theorem pB{j':Nat}(h:∀r∈A,(g r).getD j 0=r.getD j' 0)(z:Fn):cs (A.map g) j z=cs A j' z:=by
 unfold cs;rw[List.map_map];exact aj (λl=>dX l z) (uY h)
theorem wL(h:∀r∈A,(g r).getD j 0=0)(z:Fn):cs (A.map g) j z=0:=DG _ _ λa ha=>by
 obtain⟨q,hq,rfl⟩:=cY.mp ha;obtain⟨r,hr,rfl⟩:=cY.mp hq;exact h r hr
theorem QW:∀(l:List Int)(z:Fn),dX (l.map λa=>-a) z=-dX l z
 | [],_=>rfl
 |a::l,z=>by
  show -a*z 0+dX (l.map λa=>-a) (sh 1 z)=-(a*z 0+dX l (sh 1 z));rw[QW l,Int.neg_mul];lia
theorem aby{j':Nat}(h:∀r∈A,(g r).getD j 0=-(r.getD j' 0))(z:Fn):cs (A.map g) j z=-cs A j' z:=by
 unfold cs;rw[← QW,List.map_map,List.map_map];exact aj (λl=>dX l z) (uY h)
theorem me(A B:LL)(j:Nat)(z:Fn):cs (A++B) j z=cs A j z+cs B j (sh A.length z):=by
 unfold cs;rw[dE,QS,ba]
theorem abz{p:Int}(h:∀r∈A,p∣r.getD j 0)(z:Fn):p∣cs A j z:=by
 have key:∀(l:List Int)(z:Fn),(∀a∈l,p∣a)→p∣dX l z:=λl=>by
  induction l with
  |nil=>intro z _;exact⟨0,by show(0:Int)=_;simp⟩
  |cons a l ih=>intro z hl;exact pV (Int.dvd_trans (hl a dN) ⟨z 0,rfl⟩) (ih _ λb hb=>hl b (gp _ hb))
 exact key _ z λa ha=>by
  obtain⟨r,hr,rfl⟩:=cY.mp ha;exact h r hr
noncomputable def jm(n:Nat)(u v:Fn):Fn:=λk=>if k<n then u k else v (k-n)
theorem DH(u v:Fn):cs A j (jm A.length u v)=cs A j u:=by
 have key:∀(l:List Int)(z z':Fn),(∀k,k<l.length→z k=z' k)→dX l z=dX l z':=λl=>by
  induction l with
  |nil=>intros;rfl
  |cons a l ih=>
   intro z z' h;show a*z 0+dX l (sh 1 z)=a*z' 0+dX l (sh 1 z');rw[h 0 (by simp),ih (sh 1 z) (sh 1 z') λk hk=>h (1+k) (by simp;lia)]
 exact key _ _ _ λk hk=>by
  rw[ba]at hk;unfold jm;rw[af hk]
theorem DI(n:Nat)(u v:Fn):sh n (jm n u v)=v:=funext λk=>by
 unfold sh jm;rw[ag (by lia),show n+k-n=k by lia]
theorem nC{p:Int}{l r:Nat}(h:∀q∈A,q.length=l+r)(x y:Fn):Sp p (RS A) (jI l r x y)↔i0 p A l r x y:=by
 rw[QT];constructor
 ·rintro⟨z,hz⟩;refine⟨z,λj hj=>?_,λj hj=>?_⟩
  ·have:=hz j
   unfold jI at this;rwa[af hj]at this
  ·have:=hz (l+j)
   unfold jI at this;rwa[ag (by lia),af (by lia),show l+j-l=j by lia]at this
 ·rintro⟨z,h1,h2⟩;refine⟨z,λj=>?_⟩;unfold jI;by_cases hj:j<l
  ·rw[af hj];exact h1 j hj
  ·rw[ag hj];by_cases QX:j<l+r
   ·rw[af QX]
    have:=h2 (j-l) (by lia)
    rwa[show l+(j-l)=j by lia]at this
   ·rw[ag QX]
    have:=abx h (show l+r≤j by lia) z
    unfold cs at this;rw[this];exact .refl _ _
noncomputable def oz(l:Nat)(q:List Int):List Int:=q.drop l++q.take l
noncomputable def i5(l l' r':Nat)(q:List Int):List Int:=q.take l++List.replicate l' 0++q.drop l++List.replicate r' 0
noncomputable def jJ(l r l':Nat)(q:List Int):List Int:=List.replicate l 0++q.take l'++List.replicate r 0++q.drop l'
noncomputable def nE(r:Nat)(q:List Int):List Int:=q++List.replicate r 0
noncomputable def oC(l m:Nat)(q:List Int):List Int:=List.replicate l 0++(q.take m).map (λx=>0-x)++q.drop m
noncomputable def wM(l m:Nat)(q:List Int):List Int:=q.take l++q.drop (l+m)
noncomputable def jn(l m r:Nat)(A B:LL):LL:=A.map (nE r)++B.map (oC l m)
noncomputable def nG(p:Int)(l m r:Nat)(A B:LL):LL:=(eM p l (jn l m r A B) m).2.map (wM l m)
noncomputable def zB(p:Int)(l m r:Nat)(A B:LL):LL:=(eM p 0 (nG p l m r A B) (l+r)).1
namespace Dr
noncomputable def aO(p:Int):Dr→LL
 |id=>[[1,1]] | swap=>[[1,0,0,1],[0,1,1,0]] | copy=>[[1,1,1]] | fin=>[[1]] | add=>[[1,0,1],[0,1,1]] | none=>[] | kh=>[[1,1]] | empty=>[]
 |times n=>[[1,n]]
 |back d=>(d.aO p).map (oz d.l)
 |cK a b=>(a.aO p).map (i5 a.l b.l b.r)++(b.aO p).map (jJ a.l a.r b.l)
 |aZ a b=>zB p a.l a.r b.r (a.aO p) (b.aO p)
end Dr
section
variable{p:Int}
theorem iP{b:List Int}:(a++b).getD j 0=if j<a.length then a.getD j 0 else b.getD (j-a.length) 0:=by
 rw[cW,List.getElem?_append];split<;>rw[cW]
theorem zC{k:Nat}:(a.take k).getD j 0=if j<k then a.getD j 0 else 0:=by
 rw[cW,List.getElem?_take];split
 ·rw[cW]
 ·rfl
theorem uC{k:Nat}:(a.drop k).getD j 0=a.getD (k+j) 0:=by
 rw[cW,uX,cW]
theorem oD{k:Nat}:(List.replicate k (0:Int)).getD j 0=0:=by
 rw[cW,E9];split<;>rfl
theorem QY{l r:Nat}(h:∀q∈A,q.length=l+r)(x y:Fn):i0 p (A.map (oz l)) r l x y↔i0 p A l r y x:=by
 have c1:∀j,j<r→∀z,cs (A.map (oz l)) j z=cs A (l+j) z:=λj hj z=>pB (λq hq=>by
  unfold oz;rw[iP,af (by rw[dH,h q hq];lia),uC]) z
 have c2:∀j,j<l→∀z,cs (A.map (oz l)) (r+j) z=cs A j z:=λj hj z=>pB (λq hq=>by
  unfold oz;rw[iP,ag (by rw[dH,h q hq];lia),zC,dH,h q hq,show r+j-(l+r-l)=j by lia,af hj]) z
 constructor
 ·rintro⟨z,h1,h2⟩;exact⟨z,λj hj=>c2 j hj z▸h2 j hj,λj hj=>c1 j hj z▸h1 j hj⟩
 ·rintro⟨z,h1,h2⟩;exact⟨z,λj hj=>(c1 j hj z).symm▸h2 j hj,λj hj=>(c2 j hj z).symm▸h1 j hj⟩
theorem QZ{l r l' r':Nat}(h:∀q∈A,q.length=l+r)(h':∀q∈B,q.length=l'+r')(x y:Fn) :
  i0 p (A.map (i5 l l' r')++B.map (jJ l r l')) (l+l') (r+r') x y↔i0 p A l r x y∧i0 p B l' r' (sh l x) (sh r y):=by
 have a1:∀j,j<l→∀z,cs (A.map (i5 l l' r')) j z=cs A j z:=λj hj z=>pB (λq hq=>by
  have:=h q hq
  unfold i5;simp only[iP,zC,bK,cH,dq,dH];rw[af (by lia),af (by lia),af (by lia),af hj]) z
 have a2:∀j,j<l'→∀z,cs (A.map (i5 l l' r')) (l+j) z=0:=λj hj z=>wL (λq hq=>by
  have:=h q hq
  unfold i5;simp only[iP,oD,bK,cH,dq,dH];rw[af (by lia),af (by lia),ag (by lia)]) z
 have a3:∀j,j<r→∀z,cs (A.map (i5 l l' r')) (l+l'+j) z=cs A (l+j) z:=λj hj z=>pB (λq hq=>by
  have:=h q hq
  unfold i5;simp only[iP,oD,uC,bK,cH,dq,dH];rw[af (by lia),ag (by lia)]
  congr 1
  lia) z
 have a4:∀j,j<r'→∀z,cs (A.map (i5 l l' r')) (l+l'+(r+j)) z=0:=λj hj z=>wL (λq hq=>by
  have:=h q hq
  unfold i5;simp only[iP,oD,uC,bK,cH,dq,dH];rw[ag (by lia)]) z
 have b1:∀j,j<l→∀z,cs (B.map (jJ l r l')) j z=0:=λj hj z=>wL (λq hq=>by
  have:=h' q hq
  unfold jJ;simp only[iP,oD,bK,cH,dq,dH];rw[af (by lia),af (by lia),af (by lia)]) z
 have b2:∀j,j<l'→∀z,cs (B.map (jJ l r l')) (l+j) z=cs B j z:=λj hj z=>pB (λq hq=>by
  have:=h' q hq
  unfold jJ;simp only[iP,oD,zC,bK,cH,dq,dH];rw[af (by lia),af (by lia),ag (by lia),show l+j-l=j by lia,af hj]) z
 have b3:∀j,j<r→∀z,cs (B.map (jJ l r l')) (l+l'+j) z=0:=λj hj z=>wL (λq hq=>by
  have:=h' q hq
  unfold jJ;simp only[iP,oD,zC,bK,cH,dq,dH];rw[af (by lia),ag (by lia)]) z
 have b4:∀j,j<r'→∀z,cs (B.map (jJ l r l')) (l+l'+(r+j)) z=cs B (l'+j) z:=λj hj z=>pB (λq hq=>by
  have:=h' q hq
  unfold jJ;simp only[iP,oD,uC,bK,cH,dq,dH];rw[ag (by lia)]
  congr 1
  lia) z
 constructor
 ·rintro⟨z,h1,h2⟩;refine⟨⟨z,λj hj=>?_,λj hj=>?_⟩,⟨sh A.length z,λj hj=>?_,λj hj=>?_⟩⟩
  ·have:=h1 j (by lia)
   rwa[me,a1 j hj,b1 j hj,pX]at this
  ·have:=h2 j (by lia)
   rwa[me,a3 j hj,b3 j hj,pX]at this
  ·have:=h1 (l+j) (by lia)
   rwa[me,a2 j hj,b2 j hj,kl,ba]at this
  ·have:=h2 (r+j) (by lia)
   rwa[me,a4 j hj,b4 j hj,kl,ba]at this
 ·rintro⟨⟨z,h1,h2⟩,⟨z',h3,h4⟩⟩;refine⟨jm A.length z z',λj hj=>?_,λj hj=>?_⟩
  ·by_cases uD:j<l
   ·rw[me,a1 j uD,b1 j uD,pX,DH];exact h1 j uD
   ·have:=h3 (j-l) (by lia)
    rw[show j=l+(j-l) by lia,me,a2 _ (by lia),b2 _ (by lia),kl,ba,DI];exact this
  ·by_cases uD:j<r
   ·rw[me,a3 j uD,b3 j uD,pX,DH];exact h2 j uD
   ·have:=h4 (j-r) (by lia)
    rw[show j=r+(j-r) by lia,me,a4 _ (by lia),b4 _ (by lia),kl,ba,DI];exact this
theorem DJ{l r:Nat}(p0:0<p)(h:Bw.bw p (l+m) A)(h':Bw.bw p (m+r) B):ox p (l+m+r) l (l+m) 0 (jn l m r A B) (jn l m r A B):=by
 refine .start (λq hq=>?_) (λq hq x hx=>?_) (λq hq j hj=>?_);all_goals rcases(c9.mp hq)with(qm|qm)
 all_goals clear hq
 all_goals obtain⟨q,hq,rfl⟩:=cY.mp qm
 all_goals clear qm
 ·have:=(h q hq).1
  simp only[nE,bK,dq];lia
 ·have:=(h' q hq).1
  simp only[oC,bK,dq,ba,cH,dH];lia
 ·unfold nE at hx;rcases(c9.mp hx)with(hx|hx)
  ·have:=(h q hq).2 x hx
   lia
  ·have:=(tG.mp hx).2
   lia
 ·unfold oC at hx;rcases(c9.mp hx)with(hx|hx)
  ·rcases(c9.mp hx)with(hx|hx)
   ·have:=(tG.mp hx).2
    lia
   ·obtain⟨u,hu,rfl⟩:=cY.mp hx
    have:=(h' q hq).2 u (nQ hu)
    lia
  ·have:=(h' q hq).2 x (oP hx)
   lia
 ·unfold nE;rw[iP,oD];split
  ·exact((h q hq).at p0 j).1
  ·lia
 ·have hl:=(h' q hq).1;unfold oC;simp only[iP,oD,uC,bK,ba,cH,dq];rcases hj with hj|hj
  ·rw[af (by lia),af (by lia)];lia
  ·rw[ag (by lia)];exact((h' q hq).at p0 _).1
theorem wN{l r:Nat}(pp:p∈cb)(h:Bw.bw p (l+m) A)(h':Bw.bw p (m+r) B):Bw.bw p (l+r) (nG p l m r A B):=by
 have p0:0<p:=by have:=eI p pp;lia
 have S:=DF pp (DJ p0 h h') m;intro q0 qm;obtain⟨q,hq,rfl⟩:=cY.mp qm;clear qm;have hl:=S.len q hq;refine⟨by simp only[wM,bK,cH,dH];lia,λx hx=>?_⟩;unfold wM at hx;rcases(c9.mp hx)with(hx|hx)
 ·obtain⟨i,hi,rfl⟩:=mz.mp hx;rw[cH]at hi;rw[List.getElem_take];have h1:=S.near q hq _ (nP (show i<q.length by lia));have h2:=S.pos q hq i (.inl (by lia));rw[cW,cg (show i<q.length by lia)]at h2;exact⟨h2,h1.2⟩
 ·obtain⟨i,hi,rfl⟩:=mz.mp hx;rw[dH]at hi;rw[List.getElem_drop];have h1:=S.near q hq _ (nP (show l+m+i<q.length by lia));have h2:=S.pos q hq (l+m+i) (.inr (by lia));rw[cW,cg (show l+m+i<q.length by lia)]at h2;exact⟨h2,h1.2⟩
theorem Q0{l r:Nat}(pp:p∈cb)(h:Bw.bw p (l+m) A)(h':Bw.bw p (m+r) B):zB p l m r A B=cz p (nG p l m r A B):=zy pp (wN pp h h')
theorem abA{l r:Nat}(pp:p∈cb)(h:Bw.bw p (l+m) A)(h':Bw.bw p (m+r) B)(x y:Fn) :
  i0 p (zB p l m r A B) l r x y↔∃z,i0 p A l m x z∧i0 p B m r z y:=by
 have p0:0<p:=by have:=eI p pp;lia
 have hT:=wN pp h h';have R:=gP pp hT;have S:=DF pp (DJ p0 h h') m;rw[Q0 pp h h',← nC (λq hq=>(R.rws q hq).1),(⟨o9 R.sub,o9 R.sup⟩:Sp p (RS (cz p (nG p l m r A B))) (jI l r x y)↔Sp p (RS (nG p l m r A B)) (jI l r x y)),nC (λq hq=>(hT q hq).1)];have t1:∀j,j<l→∀z,cs (nG p l m r A B) j z=cs (eM p l (jn l m r A B) m).2 j z:=λj hj z=>pB (λq hq=>by
  have:=S.len q hq
  unfold wM;rw[iP,zC,af (by rw[cH];lia),af hj]) z
 have t2:∀j,j<r→∀z,cs (nG p l m r A B) (l+j) z=cs (eM p l (jn l m r A B) m).2 (l+m+j) z:=λj hj z=>pB (λq hq=>by
  have:=S.len q hq
  unfold wM;rw[iP,uC,ag (by rw[cH];lia),cH]
  congr 1
  lia) z
 have t3:∀j,j<m→∀z,p∣cs (eM p l (jn l m r A B) m).2 (l+j) z:=λj hj z=>abz (λq hq=>((S.sp (fn q)).mp (.mem ⟨q,hq,rfl⟩)).2 (l+j) (by lia) (by lia)) z;have a1:∀j,j<l→∀z,cs (A.map (nE r)) j z=cs A j z:=λj hj z=>pB (λq hq=>by
  have:=(h q hq).1
  unfold nE;rw[iP,af (by lia)]) z
 have a2:∀j,j<m→∀z,cs (A.map (nE r)) (l+j) z=cs A (l+j) z:=λj hj z=>pB (λq hq=>by
  have:=(h q hq).1
  unfold nE;rw[iP,af (by lia)]) z
 have a3:∀j,j<r→∀z,cs (A.map (nE r)) (l+m+j) z=0:=λj hj z=>wL (λq hq=>by
  have:=(h q hq).1
  unfold nE;rw[iP,ag (by lia),oD]) z
 have b1:∀j,j<l→∀z,cs (B.map (oC l m)) j z=0:=λj hj z=>wL (λq hq=>by
  unfold oC;simp only[iP,oD,bK,ba,cH,dq];rw[af (by lia),af (by lia)]) z
 have b2:∀j,j<m→∀z,cs (B.map (oC l m)) (l+j) z=-cs B j z:=λj hj z=>aby (λq hq=>by
  have hl:=(h' q hq).1;unfold oC;simp only[iP,oD,bK,ba,cH,dq];rw[af (by lia),ag (by lia),show l+j-l=j by lia,cW,eE,List.getElem?_take,af hj,cg (by lia),cW,cg (by lia)];exact Int.zero_sub _) z
 have b3:∀j,j<r→∀z,cs (B.map (oC l m)) (l+m+j) z=cs B (m+j) z:=λj hj z=>pB (λq hq=>by
  have hl:=(h' q hq).1;unfold oC;simp only[iP,uC,bK,ba,cH,dq];rw[ag (by lia)]
  congr 1
  lia) z
 have CO:∀q∈jn l m r A B,q.length=l+m+r:=(DJ p0 h h').len
 let f:Fn:=jI l (m+r) x (jm m (λ_=>0) y)
 have fz:∀j,l≤j→j<l+m→p∣f j:=λj h1 h2=>⟨0,by
  show jI l (m+r) x (jm m (λ_=>0) y) j=_;unfold jI jm;rw[ag (by lia),af (by lia),af (by lia)];simp⟩
 have e1:i0 p (nG p l m r A B) l r x y↔Sp p (RS (eM p l (jn l m r A B) m).2) f:=by
  rw[nC (λq hq=>by rw[S.len q hq];lia)];constructor
  ·rintro⟨z,h1,h2⟩;refine⟨z,λj hj=>t1 j hj z▸h1 j hj,λj hj=>?_⟩;unfold jm;by_cases hm:j<m
   ·rw[af hm];exact eq.symm (show p∣_-0 by rw[Int.sub_zero];exact t3 j hm z)
   ·rw[ag hm]
    have:=h2 (j-m) (by lia)
    rwa[t2 _ (by lia),show l+m+(j-m)=l+j by lia]at this
  ·rintro⟨z,h1,h2⟩;refine⟨z,λj hj=>(t1 j hj z).symm▸h1 j hj,λj hj=>?_⟩
   have:=h2 (m+j) (by lia)
   unfold jm at this;rw[ag (by lia),show m+j-m=j by lia,show l+(m+j)=l+m+j by lia]at this;rw[t2 j hj];exact this
 rw[e1,S.sp f,nC (λq hq=>by rw[CO q hq];lia)];constructor
 ·rintro⟨⟨z,h1,h2⟩,_⟩;have two:∀j,j<m→eq p (cs A (l+j) z) (cs B j (sh A.length z)):=λj hj=>by
   have:=h2 j (by lia)
   unfold jm at this;rw[af hj,show cs (jn l m r A B) (l+j) z=_ from me _ _ _ _,a2 j hj,b2 j hj,ba]at this
   obtain⟨c,hc⟩:=this;have gZ:(0:Int)-(cs A (l+j) z + -cs B j (sh A.length z))=p*c:=hc;exact⟨-c,by rw[Int.mul_neg,← gZ];lia⟩
  refine⟨λj=>cs A (l+j) z,⟨z,λj hj=>?_,λj hj=>.refl _ _⟩,⟨sh A.length z,λj hj=>two j hj,λj hj=>?_⟩⟩
  ·have:=h1 j hj
   rwa[show cs (jn l m r A B) j z=_ from me _ _ _ _,a1 j hj,b1 j hj,pX]at this
  ·have:=h2 (m+j) (by lia)
   unfold jm at this;rwa[ag (by lia),show m+j-m=j by lia,show l+(m+j)=l+m+j by lia,show cs (jn l m r A B) (l+m+j) z=_ from me _ _ _ _,a3 j hj,b3 j hj,kl,ba]at this
 ·rintro⟨w,⟨z,h1,h2⟩,⟨z',h3,h4⟩⟩;refine⟨⟨jm A.length z z',λj hj=>?_,λj hj=>?_⟩,fz⟩
  ·rw[show cs (jn l m r A B) j (jm A.length z z')=_ from me _ _ _ _,a1 j hj,b1 j hj,pX,DH]
   exact h1 j hj
  ·by_cases hm:j<m
   ·rw[show cs (jn l m r A B) (l+j) (jm A.length z z')=_ from me _ _ _ _,a2 j hm,b2 j hm,DH,ba,DI]
    unfold jm;rw[af hm];obtain⟨c,hc⟩:=(h2 j hm).symm.trans (h3 j hm);refine⟨-c,?_⟩;show(0:Int)-(cs A (l+j) z + -cs B j z')=_;rw[Int.mul_neg,← hc];lia
   ·have:=h4 (j-m) (by lia)
    rw[show l+j=l+m+(j-m) by lia,show cs (jn l m r A B) (l+m+(j-m)) (jm A.length z z')=_ from me _ _ _ _,a3 _ (by lia),b3 _ (by lia),kl,ba,DI]
    unfold jm;rw[ag hm];exact this
theorem Q3{n:Int}{x y:Fn}:i0 p [[1,n]] 1 1 x y↔eq p (y 0) (n*x 0):=by
 constructor
 ·rintro⟨z,h1,h2⟩;obtain⟨a,ha⟩:=h1 0 (by lia);obtain⟨b,hb⟩:=h2 0 (by lia);have rp:x 0-(1*z 0+0)=p*a:=ha;have gN:y 0-(n*z 0+0)=p*b:=hb;exact⟨b-n*a,by grind⟩
 ·rintro⟨a,ha⟩;refine⟨x,λj hj=>?_,λj hj=>?_⟩
  ·obtain rfl:j=0:=by lia
   exact⟨0,by show x 0-(1*x 0+0)=_;lia⟩
  ·obtain rfl:j=0:=by lia
   exact⟨a,by show y 0-(n*x 0+0)=_;lia⟩
theorem zD(h:j<2):j=0∨j=1:=by lia
theorem DK(pp:p∈cb):∀{d:Dr},d.wf p→Bw.bw p (d.l+d.r) (d.aO p)∧(d.aO p).length≤d.l+d.r∧∀x y:Fn,oy p d x y↔i0 p (d.aO p) d.l d.r x y:=by
 have p2:2≤p:=(eI p pp).1;have box:∀{q:List Int},(∀x∈q,x=0∨x=1)→∀x∈q,0≤x∧x<p:=λh x hx=>by rcases h x hx with h|h<;>lia
 intro d;induction d with
 |id=>
  intro _;refine⟨λq hq=>?_,(by show 1≤2;decide),λx y=>(Iff.trans ?_ Q3.symm)⟩
  ·obtain rfl:=cR.mp hq;exact⟨rfl,box (by simp)⟩
  ·show eq p (y 0) (x 0)↔_;rw[qz]
 |times n=>
  intro h;refine⟨λq hq=>?_,(by show 1≤2;decide),λx y=>Q3.symm⟩;obtain rfl:=cR.mp hq;refine⟨rfl,λx hx=>?_⟩;have h0:0≤n∧n<p:=h;rcases(dP.mp hx)with(rfl|hx)
  ·lia
  ·obtain rfl:=cR.mp hx;exact h0
 |swap=>
  intro _;refine⟨λq hq=>?_,by show 2≤4;decide,λx y=>⟨?_,?_⟩⟩
  ·rcases(dP.mp hq)with(rfl|hq)
   ·exact⟨rfl,box (by simp)⟩
   ·obtain rfl:=cR.mp hq;exact⟨rfl,box (by simp)⟩
  ·rintro⟨⟨a,ha⟩,⟨b,hb⟩⟩;refine⟨x,λj hj=>?_,λj hj=>?_⟩
   ·rcases zD hj with rfl|rfl
    ·exact⟨0,by show x 0-(1*x 0+(0*x (1+0)+0))=_;simp⟩
    ·exact⟨0,by show x 1-(0*x 0+(1*x (1+0)+0))=_;simp⟩
   ·rcases zD hj with rfl|rfl
    ·exact⟨a,by show y 0-(0*x 0+(1*x (1+0)+0))=_;rw[show(1+0)=1 from rfl];lia⟩
    ·exact⟨b,by show y 1-(1*x 0+(0*x (1+0)+0))=_;lia⟩
  ·rintro⟨z,h1,h2⟩;obtain⟨a,ha⟩:=h1 0 (by decide);obtain⟨b,hb⟩:=h1 1 (by decide);obtain⟨c,hc⟩:=h2 0 (by decide);obtain⟨e,he⟩:=h2 1 (by decide);have rp:x 0-(1*z 0+(0*z (1+0)+0))=p*a:=ha;have gN:x 1-(0*z 0+(1*z (1+0)+0))=p*b:=hb;have gZ:y 0-(0*z 0+(1*z (1+0)+0))=p*c:=hc;have Q4:y 1-(1*z 0+(0*z (1+0)+0))=p*e:=he;exact⟨⟨c-b,by rw[pW];lia⟩,⟨e-a,by rw[pW];lia⟩⟩
 |copy=>
  intro _;refine⟨λq hq=>?_,by show 1≤3;decide,λx y=>⟨?_,?_⟩⟩
  ·obtain rfl:=cR.mp hq;exact⟨rfl,box (by simp)⟩
  ·rintro⟨⟨a,ha⟩,⟨b,hb⟩⟩;refine⟨x,λj hj=>?_,λj hj=>?_⟩
   ·obtain rfl:j=0:=by have:j<1:=hj;lia
    exact⟨0,by show x 0-(1*x 0+0)=_;lia⟩
   ·rcases zD hj with rfl|rfl
    ·exact⟨a,by show y 0-(1*x 0+0)=_;lia⟩
    ·exact⟨b,by show y 1-(1*x 0+0)=_;lia⟩
  ·rintro⟨z,h1,h2⟩;obtain⟨a,ha⟩:=h1 0 (by decide);obtain⟨c,hc⟩:=h2 0 (by decide);obtain⟨e,he⟩:=h2 1 (by decide);have rp:x 0-(1*z 0+0)=p*a:=ha;have gZ:y 0-(1*z 0+0)=p*c:=hc;have Q4:y 1-(1*z 0+0)=p*e:=he;exact⟨⟨c-a,by rw[pW];lia⟩,⟨e-a,by rw[pW];lia⟩⟩
 |fin=>
  intro _;refine⟨λq hq=>?_,by show 1≤1;decide,λx y=>⟨λ_=>⟨x,λj hj=>?_,λj hj=>absurd hj (by show ¬j<0;lia)⟩,λ_=>trivial⟩⟩
  ·obtain rfl:=cR.mp hq;exact⟨rfl,box (by simp)⟩
  ·obtain rfl:j=0:=by have:j<1:=hj;lia
   exact⟨0,by show x 0-(1*x 0+0)=_;lia⟩
 |add=>
  intro _;refine⟨λq hq=>?_,by show 2≤3;decide,λx y=>⟨?_,?_⟩⟩
  ·rcases(dP.mp hq)with(rfl|hq)
   ·exact⟨rfl,box (by simp)⟩
   ·obtain rfl:=cR.mp hq;exact⟨rfl,box (by simp)⟩
  ·rintro⟨a,ha⟩;refine⟨x,λj hj=>?_,λj hj=>?_⟩
   ·rcases zD hj with rfl|rfl
    ·exact⟨0,by show x 0-(1*x 0+(0*x (1+0)+0))=_;simp⟩
    ·exact⟨0,by show x 1-(0*x 0+(1*x (1+0)+0))=_;simp⟩
   ·obtain rfl:j=0:=by have:j<1:=hj;lia
    exact⟨a,by show y 0-(1*x 0+(1*x (1+0)+0))=_;rw[show(1+0)=1 from rfl];lia⟩
  ·rintro⟨z,h1,h2⟩;obtain⟨a,ha⟩:=h1 0 (by decide);obtain⟨b,hb⟩:=h1 1 (by decide);obtain⟨c,hc⟩:=h2 0 (by decide);have rp:x 0-(1*z 0+(0*z (1+0)+0))=p*a:=ha;have gN:x 1-(0*z 0+(1*z (1+0)+0))=p*b:=hb;have gZ:y 0-(1*z 0+(1*z (1+0)+0))=p*c:=hc;exact⟨c-a-b,by rw[pW,pW];lia⟩
 |none=>
  intro _;refine⟨λq hq=>(nomatch hq),by show 0≤1;decide,λx y=>⟨λh=>⟨x,λj hj=>absurd hj (by show ¬j<0;lia),λj hj=>?_⟩,λ⟨z,_,h2⟩=>h2 0 (by decide)⟩⟩;obtain rfl:j=0:=by have:j<1:=hj;lia
  exact h
 |kh=>
  intro _;refine⟨λq hq=>?_,by show 1≤2;decide,λx y=>⟨?_,?_⟩⟩
  ·obtain rfl:=cR.mp hq;exact⟨rfl,box (by simp)⟩
  ·rintro⟨a,ha⟩;refine⟨y,λj hj=>absurd hj (by show ¬j<0;lia),λj hj=>?_⟩;rcases zD hj with rfl|rfl
   ·exact⟨0,by show y 0-(1*y 0+0)=_;lia⟩
   ·exact⟨a,by show y 1-(1*y 0+0)=_;lia⟩
  ·rintro⟨z,_,h2⟩;obtain⟨c,hc⟩:=h2 0 (by decide);obtain⟨e,he⟩:=h2 1 (by decide);have gZ:y 0-(1*z 0+0)=p*c:=hc;have Q4:y 1-(1*z 0+0)=p*e:=he;exact⟨e-c,by rw[pW];lia⟩
 |empty=>
  intro _;exact⟨λq hq=>(nomatch hq),by show 0≤0;decide,λx y=>⟨λh=>⟨x,λj hj=>absurd hj (by show ¬j<0;lia),λj hj=>absurd hj (by show ¬j<0;lia)⟩,λ_=>trivial⟩⟩
 |back d ih=>
  intro h;obtain⟨i1,i2,i3⟩:=ih h;refine⟨λq0 qm=>?_,?_,λx y=>?_⟩
  ·obtain⟨q,hq,rfl⟩:=cY.mp qm;obtain⟨j1,j2⟩:=i1 q hq;refine⟨?_,λx hx=>?_⟩
   ·show(oz d.l q).length=d.r+d.l;simp only[oz,bK,dH,cH];lia
   ·rcases(c9.mp hx)with(hx|hx)
    ·exact j2 x (oP hx)
    ·exact j2 x (nQ hx)
  ·show((d.aO p).map _).length≤d.r+d.l;rw[ba];lia
  ·exact(i3 y x).trans (QY (λq hq=>(i1 q hq).1) x y).symm
 |cK a b rq rA=>
  intro h;obtain⟨i1,i2,i3⟩:=rq h.1;obtain⟨j1,j2,j3⟩:=rA h.2;refine⟨λq0 qm=>?_,?_,λx y=>?_⟩
  ·rcases(c9.mp qm)with(jA|jA)
   ·obtain⟨q,hq,rfl⟩:=cY.mp jA;obtain⟨k1,k2⟩:=i1 q hq;refine⟨?_,λx hx=>?_⟩
    ·show(i5 a.l b.l b.r q).length=a.l+b.l+(a.r+b.r);simp only[i5,bK,dH,cH,dq];lia
    ·unfold i5 at hx;simp only[c9,tG]at hx;rcases hx with((hx|hx)|hx)|hx
     ·exact k2 x (nQ hx)
     ·lia
     ·exact k2 x (oP hx)
     ·lia
   ·obtain⟨q,hq,rfl⟩:=cY.mp jA;obtain⟨k1,k2⟩:=j1 q hq;refine⟨?_,λx hx=>?_⟩
    ·show(jJ a.l a.r b.l q).length=a.l+b.l+(a.r+b.r);simp only[jJ,bK,dH,cH,dq];lia
    ·unfold jJ at hx;simp only[c9,tG]at hx;rcases hx with((hx|hx)|hx)|hx
     ·lia
     ·exact k2 x (nQ hx)
     ·lia
     ·exact k2 x (oP hx)
  ·show(((a.aO p).map _)++((b.aO p).map _)).length≤a.l+b.l+(a.r+b.r);rw[bK,ba,ba];lia
  ·show oy p a x y∧oy p b (sh a.l x) (sh a.r y)↔_;rw[i3,j3];exact(QZ (λq hq=>(i1 q hq).1) (λq hq=>(j1 q hq).1) x y).symm
 |aZ a b rq rA=>
  intro h;obtain⟨i1,i2,i3⟩:=rq h.1;obtain⟨j1,j2,j3⟩:=rA h.2.1;have e:b.l=a.r:=h.2.2.symm;rw[e]at j1 j3;have R:=gP pp (wN pp i1 j1);have er:Dr.aO p (.aZ a b)=cz p (nG p a.l a.r b.r (a.aO p) (b.aO p)):=Q0 pp i1 j1;refine⟨?_,?_,λx y=>?_⟩
  ·rw[er];exact R.rws
  ·rw[er,← zy pp (wN pp i1 j1)];exact(zx pp (wN pp i1 j1) (a.l+b.r) (bX _)).len (bX _)
  ·show(∃z,oy p a x z∧oy p b z y)↔_;simp only[i3,j3];exact(abA pp i1 j1 x y).symm
end
end D1
namespace D1
open Bw
namespace Dr
def cP(B:Nat):Dr→Prop
 |back d=>d.cP B
 |cK a b=>a.cP B∧b.cP B∧a.l+b.l+(a.r+b.r)≤B
 |aZ a b=>a.cP B∧b.cP B∧a.l+b.r≤B
 |_=>True
end Dr
theorem Q5{B:Nat}(h4:4≤B):∀{d:Dr},d.cP B→d.l+d.r≤B
 | .id,_=>by show 1+1≤B;lia
 | .swap,_=>by show 2+2≤B;lia
 | .copy,_=>by show 1+2≤B;lia
 | .fin,_=>by show 1+0≤B;lia
 | .add,_=>by show 2+1≤B;lia
 | .none,_=>by show 0+1≤B;lia
 | .kh,_=>by show 0+2≤B;lia
 | .empty,_=>by show 0+0≤B;lia
 | .times _,_=>by show 1+1≤B;lia
 | .back d,h=>by have:d.l+d.r≤B:=Q5 h4 (d:=d) h;show d.r+d.l≤B;lia
 | .cK _ _,h=>h.2.2
 | .aZ _ _,h=>h.2.2
section
variable{B:Nat}
end
abbrev pC:=Option Int×List Dr
noncomputable def DM:Option Int→List Wd
 |some m=>[.n m]
 |none=>[]
noncomputable def mf(s:pC):List Wd:=DM s.1++s.2.flatMap Dr.aN
noncomputable def uE:pC→pC
 |(some _,ds)=>(none,ds)
 |(none,[])=>(none,[])
 |(none,.times n::ds)=>(some n,ds)
 |(none,.back d::ds)=>(none,d::ds)
 |(none,.cK a b::ds)=>(none,a::b::ds)
 |(none,.aZ a b::ds)=>(none,a::b::ds)
 |(none,_::ds)=>(none,ds)
noncomputable def gW(s:pC):Nat→pC
 |0=>s
 |i+1=>uE (gW s i)
theorem abB:∀s:pC,mf (uE s)=(mf s).drop 1
 |(some m,ds)=>rfl
 |(none,[])=>rfl
 |(none,.times n::ds)=>rfl
 |(none,.back d::ds)=>rfl
 |(none,.cK a b::ds)=>by simp[uE,mf,DM,Dr.aN]
 |(none,.aZ a b::ds)=>by simp[uE,mf,DM,Dr.aN]
 |(none,.id::ds)=>rfl
 |(none,.swap::ds)=>rfl
 |(none,.copy::ds)=>rfl
 |(none,.fin::ds)=>rfl
 |(none,.add::ds)=>rfl
 |(none,.none::ds)=>rfl
 |(none,.kh::ds)=>rfl
 |(none,.empty::ds)=>rfl
theorem DN(s:pC):∀i,mf (gW s i)=(mf s).drop i
 |0=>by rw[List.drop_zero];rfl
 |i+1=>by
  show mf (uE (gW s i))=_;rw[abB,DN s i,List.drop_drop]
theorem words_pos:∀d:Dr,1≤d.aN.length:=λd=>by cases d<;>simp[Dr.aN]
theorem JG:∀ds:List Dr,ds.length≤(ds.flatMap Dr.aN).length
 | []=>bX 0
 |d::ds=>by
  have:=JG ds
  have:=words_pos d
  rw[List.flatMap_cons,bK,eO];lia
theorem abC{s:pC}(h:mf s=[]):s=(none,[]):=by
 obtain⟨m,ds⟩:=s;unfold mf at h;obtain⟨h1,h2⟩:=List.append_eq_nil_iff.mp h;cases m with
 |some m=>cases h1
 |none=>
  have:=JG ds
  dsimp only at h2;rw[h2]at this;rw[List.length_eq_zero_iff.mp (Nat.le_zero.mp this)]
def lZ(p:Int)(B:Nat)(s:pC):Prop:=(∀m,s.1=some m→0≤m∧m<p)∧∀d∈s.2,d.wf p∧d.cP B
theorem abD{p:Int}{B:Nat}:∀s:pC,lZ p B s→lZ p B (uE s):=by
 intro s h;obtain⟨m,ds⟩:=s;have tl:∀{d:Dr}{ds:List Dr},lZ p B (none,d::ds)→lZ p B (none,ds):=λh=>⟨λm e=>(nomatch e),λd hd=>h.2 d (gp _ hd)⟩;have hd:∀{d:Dr}{ds:List Dr},lZ p B (none,d::ds)→d.wf p∧d.cP B:=λh=>h.2 _ dN;have cn:∀{d:Dr}{ds:List Dr},d.wf p∧d.cP B→lZ p B (none,ds)→lZ p B (none,d::ds):=λa h=>⟨λm e=>(nomatch e),λd hd=>by
  rcases(dP.mp hd)with(rfl|hd)
  ·exact a
  ·exact h.2 d hd⟩
 cases m with
 |some m=>exact⟨λm e=>(nomatch e),h.2⟩
 |none=>
  cases ds with
  |nil=>exact h
  |cons d ds=>
   cases d with
   |times n=>exact⟨λm e=>by cases e;exact(hd h).1,(tl h).2⟩
   |back d=>exact cn (d:=d) ⟨(hd h).1,(hd h).2⟩ (tl h)
   |cK a b=>exact cn ⟨(hd h).1.1,(hd h).2.1⟩ (cn ⟨(hd h).1.2,(hd h).2.2.1⟩ (tl h))
   |aZ a b=>exact cn ⟨(hd h).1.1,(hd h).2.1⟩ (cn ⟨(hd h).1.2.1,(hd h).2.2.1⟩ (tl h))
   |_=>exact tl h
theorem Q6{p:Int}{B:Nat}{s:pC}(h:lZ p B s):∀i,lZ p B (gW s i)
 |0=>h
 |i+1=>abD _ (Q6 h i)
theorem JH(d:Dr):mf (none,[d])=d.aN:=by simp[mf,DM]
theorem abE{d:Dr}{i:Nat}:d.aN[i]?=(mf (gW (none,[d]) i))[0]?:=by
 rw[DN,JH,uX,Nat.add_zero]
theorem Q7(d:Dr):gW (none,[d]) d.aN.length=(none,[]):=abC (by rw[DN,JH,List.drop_length])
theorem abF(d:Dr)(i:Nat):(gW (none,[d]) i).2.length≤d.aN.length:=by
 have h:=DN (none,[d]) i;rw[JH]at h;have e:=aj List.length h;have f:=JG (gW (none,[d]) i).2;unfold mf at e;rw[bK,dH]at e;lia
end D1
namespace S21
open PySem L2 Bw
variable{Pt f:Addr}{fd:FuncData}{j m:Nat}{u x y:Fn}
noncomputable def cG:D1.Wd→V
 | .w x=>.str x
 | .n i=>.int i
def IE(te:TE)(σ:St)(H:Hp)(k:Int):Prop:=∀H',aL H H'→∀R:VK,R (.int k) H'→te σ H' R
section
variable{K:Frag}{σ:St}{H:Hp}
theorem jK{i:Nat}{k:Int}(h:σ[i]?=some (some (.int k))):IE (aW i) σ H k:=λ_ _ _ q=>⟨_,h,q⟩
theorem zE{α:Type}(v:α):∀n:Nat,(List.replicate n [v]).flatten=List.replicate n v
 |0=>rfl
 |n+1=>by rw[qy,uV,zE v n];rfl
end
noncomputable def conv:D1.Dr→Drw
 | .id=>.box "id" 1 1 [[1,1]] | .swap=>.box "swap" 2 2 [[1,0,0,1],[0,1,1,0]] | .copy=>.box "copy" 1 2 [[1,1,1]] | .fin=>.box "end" 1 0 [[1]] | .add=>.box "add" 2 1 [[1,0,1],[0,1,1]]
 | .none=>.box "none" 0 1 [] | .kh=>.box "cup" 0 2 [[1,1]] | .empty=>.box "empty" 0 0 []
 | .times n=>.times n
 | .back d=>.back (conv d)
 | .cK a b=>.cK (conv a) (conv b)
 | .aZ a b=>.aZ (conv a) (conv b)
theorem pE:∀d,(conv d).bz=d.bz
 | .id=>rfl | .swap=>rfl | .copy=>rfl | .fin=>rfl | .add=>rfl | .none=>rfl | .kh=>rfl | .empty=>rfl | .times _=>rfl
 | .back d=>by show((conv d).bz.2,(conv d).bz.1)=_;rw[pE d];rfl
 | .cK a b=>by show((conv a).bz.1+(conv b).bz.1,(conv a).bz.2+(conv b).bz.2)=_;rw[pE a,pE b];rfl
 | .aZ a b=>by show((conv a).bz.1,(conv b).bz.2)=_;rw[pE a,pE b];rfl
theorem mh(d:D1.Dr):(conv d).cU=d.l:=aj Prod.fst (pE d)
theorem lE(d:D1.Dr):(conv d).cL=d.r:=aj Prod.snd (pE d)
theorem lF:∀d,(conv d).aN=d.aN.map cG
 | .id=>rfl | .swap=>rfl | .copy=>rfl | .fin=>rfl | .add=>rfl | .none=>rfl | .kh=>rfl | .empty=>rfl | .times _=>rfl
 | .back d=>by show V.str "back"::(conv d).aN=_;rw[lF d];rfl
 | .cK a b=>by show V.str "beside"::((conv a).aN++(conv b).aN)=_;rw[lF a,lF b,← dE];rfl
 | .aZ a b=>by show V.str "then"::((conv a).aN++(conv b).aN)=_;rw[lF a,lF b,← dE];rfl
theorem mi{p:Int}:∀{d:D1.Dr},d.wf p→(conv d).wf p
 | .id,_=>by show _∈gT;decide
 | .swap,_=>by show _∈gT;decide
 | .copy,_=>by show _∈gT;decide
 | .fin,_=>by show _∈gT;decide
 | .add,_=>by show _∈gT;decide
 | .none,_=>by show _∈gT;decide
 | .kh,_=>by show _∈gT;decide
 | .empty,_=>by show _∈gT;decide
 | .times _,h=>h
 | .back d,h=>mi (d:=d) h
 | .cK _ _,h=>⟨mi h.1,mi h.2⟩
 | .aZ a b,h=>⟨mi h.1,mi h.2.1,by rw[lE,mh];exact h.2.2⟩
theorem uF:∀{d:D1.Dr},d.cP 64→(conv d).sm
 | .id,_=>trivial | .swap,_=>trivial | .copy,_=>trivial | .fin,_=>trivial | .add,_=>trivial | .none,_=>trivial | .kh,_=>trivial | .empty,_=>trivial | .times _,_=>trivial
 | .back d,h=>uF (d:=d) h
 | .cK a b,h=>⟨uF h.1,uF h.2.1,by have:=h.2.2;rw[mh,mh];lia,by have:=h.2.2;rw[lE,lE];lia⟩
 | .aZ a b,h=>⟨uF h.1,uF h.2.1⟩
theorem DO{p:Int}{d:D1.Dr}(h:d.wf p)(n:d.cP 64):Ok p (conv d):=⟨mi h,uF n⟩
theorem abG{q:List Int}{l r:Nat}(h:q.length=l+r):fn q=D1.jI l r (fn q) (D1.sh l (fn q)):=funext λj=>by
 unfold D1.jI D1.sh;by_cases h1:j<l
 ·rw[af h1]
 ·rw[ag h1];by_cases h2:j<l+r
  ·rw[af h2];show fn q j=fn q (l+(j-l));rw[show l+(j-l)=j by lia]
  ·rw[ag h2];show q.getD j 0=0;rw[cW,lI (by lia)];rfl
section
variable{p:Int}
theorem Q8{n l r:Nat}{L:LL}(pp:p∈cb)(hn:n=l+r)(h:Bw.bw p n L)(x y:Fn):D1.i0 p (cz p L) l r x y↔D1.i0 p L l r x y:=by
 have R:=gP pp h;rw[← D1.nC (λq hq=>by rw[(R.rws q hq).1,hn]),← D1.nC (λq hq=>by rw[(h q hq).1,hn])];exact⟨o9 R.sub,o9 R.sup⟩
theorem Q9{l r:Nat}{L:LL}(h:Bw.bw p (l+r) L):L.map (jH l r)=L.map (D1.oz l):=uY λq hq=>by
 have hl:=(h q hq).1;unfold jH D1.oz;rw[lH (by rw[dH];lia),List.drop_eq_nil_of_le (as:=q) (i:=l+r) (by lia),iB]
theorem abH{l r l' r':Nat}{A B:LL}(h:Bw.bw p (l+r) A):pj l r l' r' A B=A.map (D1.i5 l l' r')++B.map (D1.jJ l r l'):=by
 unfold pj
 congr 1
 refine uY λq hq=>?_;have hl:=(h q hq).1;unfold uo D1.i5;rw[lH (l:=q.drop l) (by rw[dH];lia),List.drop_eq_nil_of_le (as:=q) (i:=l+r) (by lia),iB]
theorem zF{l r:Nat}(h:l+r≤j):D1.jI l r x y j=0:=by
 unfold D1.jI;rw[ag (by lia),ag (by lia)]
theorem zG{l r:Nat}(h:j<l):D1.jI l r x y j=x j:=by
 unfold D1.jI;rw[af h]
theorem zH{l r:Nat}(h:j<r):D1.jI l r x y (l+j)=y j:=by
 unfold D1.jI;rw[ag (by lia),af (by lia),show l+j-l=j by lia]
theorem Ra{l r:Nat}(h:j<l):cV (iM l m r) u (m+j)=u j:=by
 unfold cV iM;rw[ag (by lia),af (by lia)];show 1*u (m+j-m)=_;rw[show m+j-m=j by lia,qz]
theorem Rb{l r:Nat}(h:j<r):cV (iM l m r) u (m+(l+j))=0:=by
 unfold cV iM;rw[ag (by lia),ag (by lia),af (by lia)]
theorem abI{l r:Nat}(h:l+r≤j):cV (iM l m r) u (m+j)=u (m+j-r):=by
 unfold cV iM;rw[ag (by lia),ag (by lia),ag (by lia)];exact qz _
theorem Rc{l:Nat}{v:Fn}(h:j<l):cV (jl l m) v (m+j)=0:=by
 unfold cV jl;rw[ag (by lia),af (by lia)]
theorem JI{l:Nat}{v:Fn}(h:l≤j):cV (jl l m) v (m+j)=v (m+j-l):=by
 unfold cV jl;rw[ag (by lia),ag (by lia)];exact qz _
theorem abJ{A B:LL}{l r:Nat}(pp:p∈cb)(h:Bw.bw p (l+m) A)(h':Bw.bw p (m+r) B)(x y:Fn):D1.i0 p (ou p l m r A B) l r x y↔∃z,D1.i0 p A l m x z∧D1.i0 p B m r z y:=by
 have p0:0<p:=by have:=eI p pp;lia
 have tl:∀q∈ou p l m r A B,q.length=l+r:=λq hq=>(P5 (x:=0) pp h h' q hq).1;rw[← D1.nC tl,abg (x:=0) (x':=0) pp h h' (zk (x:=0) p0 h h')];have oA:∀{u:Fn}{j:Nat},Bw.Sp p (RS A) u→l+m≤j→p∣u j:=λhu hj=>Jq (λq hq=>(h q hq).out hj) hu;have oB:∀{v:Fn}{j:Nat},Bw.Sp p (RS B) v→m+r≤j→p∣v j:=λhv hj=>Jq (λq hq=>(h' q hq).out hj) hv;constructor
 ·rintro⟨u,v,hu,hv,hm,e⟩;refine⟨λj=>u (l+j),?_,?_⟩
  ·rw[← D1.nC (λq hq=>(h q hq).1)];refine .eC hu λj=>?_;by_cases h1:j<l
   ·have:=e j
    rw[zG h1]at this ⊢;simpa only[Ra h1,Rc h1,pX]using this
   ·by_cases h2:j<l+m
    ·obtain⟨i,rfl⟩:∃i,j=l+i:=⟨j-l,by lia⟩;rw[zH (by lia)];exact⟨0,by simp⟩
    ·rw[zF (by lia),Int.sub_zero];exact oA hu (by lia)
  ·rw[← D1.nC (λq hq=>(h' q hq).1)];refine .eC hv λj=>?_;by_cases h1:j<m
   ·rw[zG h1];obtain⟨c,hc⟩:=hm j h1;exact⟨-c,by rw[Int.mul_neg,← hc];lia⟩
   ·by_cases h2:j<m+r
    ·obtain⟨i,rfl⟩:∃i,j=m+i:=⟨j-m,by lia⟩
     have:=e (l+i)
     rw[zH (by lia)]at this ⊢;dsimp only at this;rwa[Rb (by lia),JI (by lia),kl,show m+(l+i)-l=m+i by lia]at this
    ·rw[zF (by lia),Int.sub_zero];exact oB hv (by lia)
 ·rintro⟨z,h1,h2⟩;rw[← D1.nC (λq hq=>(h q hq).1)]at h1;rw[← D1.nC (λq hq=>(h' q hq).1)]at h2;refine⟨_,_,h1,h2,λj hj=>?_,λj=>?_⟩
  ·rw[zH hj,zG hj];exact⟨0,by simp⟩
  ·dsimp only;by_cases c1:j<l
   ·rw[Ra c1,Rc c1,zG c1,zG c1];exact⟨0,by simp⟩
   ·by_cases c2:j<l+r
    ·obtain⟨i,rfl⟩:∃i,j=l+i:=⟨j-l,by lia⟩;rw[Rb (by lia),JI (by lia),show m+(l+i)-l=m+i by lia,zH (by lia),zH (by lia)];exact⟨0,by simp⟩
    ·rw[abI (by lia),JI (by lia),zF (by lia),zF (by lia),zF (by lia)];exact⟨0,by simp⟩
theorem abK(pp:p∈cb):∀{d:D1.Dr},d.wf p→d.cP 64→∀x y:Fn,D1.i0 p ((conv d).aO p) d.l d.r x y↔D1.oy p d x y:=by
 have p0:0<p:=by have:=eI p pp;lia
 have gd:∀{d:D1.Dr},d.wf p→d.cP 64→Bw.bw p (d.l+d.r) ((conv d).aO p):=λ{d} h n=>by
  have:=(Drw.good pp (mi h) (uF n)).2.2.2
  rwa[mh,lE]at this
 have same:∀{d:D1.Dr},d.wf p→(conv d).aO p=d.aO p→∀x y:Fn,D1.i0 p ((conv d).aO p) d.l d.r x y↔D1.oy p d x y:=λ{d} h e x y=>by
  rw[e];exact((D1.DK pp h).2.2 x y).symm
 intro d;induction d with
 |back d ih=>
  intro h n x y;have hR:=gd (d:=d) h n;have e:(conv (.back d)).aO p=cz p (((conv d).aO p).map (jH (conv d).cU (conv d).cL)):=rfl;rw[e,mh,lE,Q9 hR];have hS:Bw.bw p (d.r+d.l) (((conv d).aO p).map (D1.oz d.l)):=by
   rw[← Q9 hR];intro q hq;obtain⟨q',hq',rfl⟩:=cY.mp hq;exact C6 (x:=0) (hR q' hq')
  refine(Q8 (l:=d.r) (r:=d.l) pp rfl hS x y).trans ((D1.QY (λq hq=>(hR q hq).1) x y).trans (ih h n y x))
 |cK a b rq rA=>
  intro h n x y;have hA:=gd h.1 n.1;have hB:=gd h.2 n.2.1;have e:(conv (.cK a b)).aO p=cz p (pj (conv a).cU (conv a).cL (conv b).cU (conv b).cL ((conv a).aO p) ((conv b).aO p)):=rfl;have hS:=Dh (x:=0) p0 hA hB;rw[e,mh,lE,mh,lE];refine(Q8 (l:=a.l+b.l) (r:=a.r+b.r) pp rfl hS x y).trans ?_;rw[abH hA];refine(D1.QZ (λq hq=>(hA q hq).1) (λq hq=>(hB q hq).1) x y).trans ?_;rw[rq h.1 n.1,rA h.2 n.2.1];exact Iff.rfl
 |aZ a b rq rA=>
  intro h n x y;have hA:=gd h.1 n.1;have hB:=gd h.2.1 n.2.1;have DA:b.l=a.r:=h.2.2.symm;have Rf:=rA h.2.1 n.2.1;rw[DA]at hB Rf;have e:(conv (.aZ a b)).aO p=ou p (conv a).cU (conv a).cL (conv b).cL ((conv a).aO p) ((conv b).aO p):=rfl;rw[e,mh,lE,lE];refine(abJ pp hA hB x y).trans ?_;simp only[rq h.1 n.1,Rf];exact Iff.rfl
 |times n=>intro h _;exact same h rfl
 |_=>intro h _;exact same h rfl
theorem Rg(pp:p∈cb){d:D1.Dr}(h:d.wf p)(n:d.cP 64):(conv d).aO p=cz p (d.aO p):=by
 have o:=DO h n;obtain⟨r1,_,r3⟩:=D1.DK pp h;have hR:=(Drw.good pp o.1 o.2).2.2.2;rw[mh,lE]at hR;rw[← Drw.one pp o];have key:∀{q:List Int},q.length=d.l+d.r→(Bw.Sp p (RS ((conv d).aO p)) (fn q)↔Bw.Sp p (RS (d.aO p)) (fn q)):=λ{q} hq=>by
  rw[abG hq,D1.nC (λq hq=>(hR q hq).1),D1.nC (λq hq=>(r1 q hq).1),abK pp h n,r3]
 exact vU.red pp hR r1 ⟨λq hq=>(key (hR q hq).1).mp (qf hq),λq hq=>(key (r1 q hq).1).mpr (qf hq)⟩
end
theorem Rh(g:Nat→Int):∀n,Sg g (n+1)=g 0+Sg (λi=>g (i+1)) n
 |0=>by show Sg g 0+g 0=g 0+Sg _ 0;rw[show Sg g 0=0 from rfl,show Sg (λi=>g (i+1)) 0=0 from rfl];lia
 |n+1=>by
  show Sg g (n+1)+g (n+1)=g 0+(Sg (λi=>g (i+1)) n+g (n+1));rw[Rh g n];lia
theorem JJ:∀(l:List Int)(z:Fn),D1.dX l z=dot z (fn l) l.length
 | [],_=>rfl
 |a::l,z=>by
  show a*z 0+D1.dX l (D1.sh 1 z)=Sg (λi=>z i*fn (a::l) i) (l.length+1);rw[Rh,JJ l];show a*z 0+Sg (λi=>D1.sh 1 z i*fn l i) l.length=z 0*a+Sg (λi=>z (i+1)*fn (a::l) (i+1)) l.length;rw[rM a]
  congr 1
  refine aj (λg=>Sg g l.length) (funext λi=>?_);show z (1+i)*l.getD i 0=z (i+1)*(a::l).getD (i+1) 0;rw[Nat.add_comm 1 i];rfl
theorem Ri{p:Int}{n:Nat}{rs:LL}{r:List Int}(hR:Bw.bw p n rs)(hr:Rw p n r):(∃f:Fn,∀j,j<n→p∣dot f (fn (rs.map λq=>q.getD j 0)) rs.length-r.getD j 0)↔Bw.Sp p (RS rs) (fn r):=by
 rw[D1.QT];constructor
 ·rintro⟨f,h⟩;refine⟨f,λj=>?_⟩;by_cases hj:j<n
  ·have e:=JJ (rs.map λq=>q.getD j 0) f;rw[ba]at e;rw[e];exact D1.eq.symm (h j hj)
  ·have e0:fn r j=0:=hr.out (by lia);rw[e0,D1.DG _ _ λa ha=>?_]
   ·exact .refl _ _
   ·obtain⟨q,hq,rfl⟩:=cY.mp ha;exact(hR q hq).out (by lia)
 ·rintro⟨z,h⟩;refine⟨z,λj hj=>?_⟩;have e:=JJ (rs.map λq=>q.getD j 0) z;rw[ba]at e;rw[← e];exact D1.eq.symm (h j)
def Rj(K:Frag):Sp:=λvs H Q _=>∃(p:Int)(a b:Addr)(AS BS:List V)(rs os:LL)(n:Nat),vs=[.int p,.ref a,.ref b]∧p∈cb∧bc K H a AS∧bI K H AS (rs.map cJ)∧bc K H b BS∧bI K H BS (os.map cJ)∧Bw.bw p n rs∧Bw.bw p n os∧rs.length≤900∧os.length≤900∧n≤900∧
 (∀H',aL H H'→(∀r∈rs,Bw.Sp p (RS os) (fn r))→Q .cm H')∧∀t r H',aL H H'→r∈rs→¬Bw.Sp p (RS os) (fn r)→bc K H' t (r.map V.int)→Q (.ref t) H'
theorem Rk:c8 ["p","rows","others","row"] ["p","rows","others"] (bq HX):=dv rfl rfl rfl (by decide +kernel) rfl
theorem abL{fF:Addr}{lC:FuncData}(F:bZ K "row_outside" "row_outside" HX f fd)
  (GF:bf P w K mg base bj 4 fF lC ["p","rows","row"] (QP K)) (kF:Kp K fF) (bF:Binds K lC ["p","rows","row"] []) (mF:Mg mg "factors_of" fF):bf P w K mg base bj 5 f fd ["p","rows","others"] (Rj K):=by
 refine F.ok Rk (λvs H Q E h=>?_) (λbt A outer s H vs Q E hr h=>?_)
 ·obtain⟨p,a,b,AS,BS,rs,os,n,rfl,_⟩:=h;rfl
 ·obtain⟨p,a,b,AS,BS,rs,os,n,rfl,pp,ha,hA,hb,hB,hR,hO,lr,lo,hn,q1,q2⟩:=h;refine⟨_,aX (jw jR rfl (n6 K rfl (pv 1)) (cj (i:=3) Rk.nd rfl (.inl rfl)) (bg (cN (cC Mp (ck GF hr rfl mF kF bF .nil cu (aK (pv 0) (aK (pv 2) (aK (pv 3) aM)))) oT (cx _)) (bg (bY (pv 3))) df))) (bg (bY oT)),?_⟩;have eA:=fj hA;refine⟨_,rfl,a,rfl,⟨_,ha⟩,Bi (xs:=AS) (λi σ H'=>aL H H'∧(∃s3,σ=[some (.int p),some (.ref a),some (.ref b),s3])∧∀r∈rs.take i,Bw.Sp p (RS os) (fn r)) ⟨.refl _,⟨none,rfl⟩,λr hr=>by simp at hr⟩ (λi σ H' _ ⟨sm,_⟩=>sm.bo ha) ?_ ?_⟩
  ·rintro i x σ H1 hx ⟨sm,⟨s3,rfl⟩,jD⟩;obtain⟨r,ra,gH,rfl,fe⟩:=ni hA hx;have DP:=da gH;refine⟨_,rfl,_,rfl,_,rfl,p,b,ra,false,BS,os,r,n,rfl,pp,sm.bo hb,hB.mono sm,hO,lo,hn,sm.bo fe,hR r DP,λH2 s2 lR=>?_,λt fs H2 s2 ht _ hfs=>?_⟩
   ·refine⟨rfl,_,rfl,?_⟩;rw[aE rfl];exact dy ⟨_,rfl,q2 ra r H2 (sm.trans s2) DP (λh=>by obtain⟨f,hf⟩:=(Ri hO (hR r DP)).mpr h;exact lR f hf) ((sm.trans s2).bo fe)⟩
   ·refine⟨rfl,_,rfl,?_⟩;rw[ae (show ¬V.ref t=V.cm from λz=>nomatch z)]
    refine cD ⟨sm.trans s2,⟨_,rfl⟩,λr' eU=>?_⟩;rw[gq,gH]at eU;rcases c9.mp eU with h|h
    ·exact jD r' h
    ·obtain rfl:r'=r:=by simpa using h
     exact(Ri hO (hR _ DP)).mp ⟨_,hfs⟩
  ·rintro σ H1 ⟨sm,⟨s3,rfl⟩,jD⟩;rw[eA,km]at jD;exact q1 H1 sm jD
def JK(K:Frag):Sp:=λvs H Q _=>∃(a b:Addr)(l r:Int),vs=[.ref a,.ref b]∧bc K H a [.int l,.int r]∧bc K H b [.int l,.int r]∧Q .cm H
theorem Rl:c8 ["one","other"] ["one","other"] (bq CC):=dv rfl rfl rfl (by decide +kernel) rfl
theorem Rm(F:bZ K "refuse_sides" "refuse_sides" CC f fd):bf P w K mg base bj 1 f fd ["one","other"] (JK K):=by
 refine F.ok Rl (λvs H Q E h=>?_) (λbt A outer s H vs Q E hr h=>?_)
 ·obtain⟨a,b,l,r,rfl,_⟩:=h;rfl
 ·obtain⟨a,b,l,r,rfl,ha,hb,q⟩:=h;have hu:=hr.units;refine⟨_,bg (cN (cC (BV K rfl hu) (pv 0) (pv 1) (cx _)) vi df),?_⟩;exact⟨_,rfl,_,rfl,_,_,.tuple ha (.cons (.int l) (.cons (.int r) .nil)),.tuple hb (.cons (.int l) (.cons (.int r) .nil)),rfl,rfl,_,rfl,He rfl q⟩
theorem wO{H H1 H2:Hp}(h1:aL (S21.del Pt H) H1)(h2:aL (S21.del Pt H1) H2):aL (S21.del Pt H) H2:=λb o e=>h2 b o (by rw[wk (C9 e).1];exact h1 b o e)
theorem pF{H H1 H2:Hp}(h1:aL (S21.del Pt H) H1)(h2:aL H1 H2):aL (S21.del Pt H) H2:=λb o e=>h2 b o (h1 b o e)
theorem Ro{rs os:LL}(h:rs.map cJ=os.map cJ):rs=os:=(List.map_inj_right λ_ _ e=>Yo e).mp h
def abM(K:Frag)(Pt:Addr)(p:Int)(d e:Drw)(H:Hp)(Q:VK):Prop:=
 (d.aO p=e.aO p→∀t H',aL (S21.del Pt H) H'→fi H' Pt (ig fX) ij→bc K H' t [.str (Str.ofString "same")]→Q (.ref t) H')∧
 (d.aO p≠e.aO p→∀t v row (i:Int) H',aL (S21.del Pt H) H'→fi H' Pt (ig fX) ij→bc K H' t [.str (Str.ofString "parted"),.ref v,.int i]→bc K H' v (row.map V.int)→Rw p (d.cU+d.cL) row→((i=0∧Bw.Sp p (RS (d.aO p)) (fn row)∧¬Bw.Sp p (RS (e.aO p)) (fn row))∨(i=1∧Bw.Sp p (RS (e.aO p)) (fn row)∧¬Bw.Sp p (RS (d.aO p)) (fn row)))→Q (.ref t) H')
def Rp(K:Frag)(Pt:Addr):Sp:=λvs H Q _=>∃(p:Int)(a b:Addr)(d e:Drw),vs=[.int p,.ref a,.ref b]∧p∈cb∧Ok p d∧Ok p e∧d.bz=e.bz∧d.aN.length≤900000∧e.aN.length≤900000∧bc K H a d.aN∧bc K H b e.aN∧fi H Pt (ig fX) ij∧abM K Pt p d e H Q
theorem rB:c8 ["p","one","other","first","second","row"] ["p","one","other"] (bq y3):=dv rfl rfl rfl (by decide +kernel) rfl
theorem abN{fR fW fP fO:Addr}{mj ow rC zI:FuncData}(F:bZ K "compared" "compared" y3 f fd)
  (GR:bf P w K mg base bj 1 fR mj ["one","other"] (JK K)) (kR:Kp K fR) (bR:Binds K mj ["one","other"] []) (mR:Mg mg "refuse_sides" fR)
  (GW:bf P w K mg base bj 6 fW ow ["words"] (DB K)) (kW:Kp K fW) (bW:Binds K ow ["words"] []) (mW:Mg mg "wires" fW)
  (GP:bf P w K mg base bj 10 fP rC ["p","words"] (Jp K Pt)) (kP:Kp K fP) (bP:Binds K rC ["p","words"] []) (mP:Mg mg "plain" fP)
  (GO:bf P w K mg base bj 5 fO zI ["p","rows","others"] (Rj K)) (kO:Kp K fO) (bO:Binds K zI ["p","rows","others"] []) (mO:Mg mg "row_outside" fO) :
  bf P w K mg base bj 11 f fd ["p","one","other"] (Rp K Pt):=by
 refine F.ok rB (λvs H Q E h=>?_) (λbt A outer s H vs Q E hr h=>?_)
 ·obtain⟨p,a,b,d,e,rfl,_⟩:=h;rfl
 ·obtain⟨p,a,b,d,e,rfl,pp,od,oe,rE,ld,le,hd,he,kg,q1,q2⟩:=h;have hu:=hr.units;have r1:dk 1 _:=hr.mono (by lia);have r5:dk 5 _:=hr.mono (by lia);have r6:dk 6 _:=hr.mono (by lia);refine⟨_,aX (jv (ck GR r1 rfl mR kR bR .nil cu (aK (ck GW r6 rfl mW kW bW .nil cu (aK (pv 1) aM)) (aK (ck GW r6 rfl mW kW bW .nil cu (aK (pv 2) aM)) aM)))) (aX (bH (i:=3) rB.nd rfl (.inl rfl) (ck GP hr rfl mP kP bP .nil cu (aK (pv 0) (aK (pv 1) aM)))) (aX (bH (i:=4) rB.nd rfl (.inl rfl) (ck GP hr rfl mP kP bP .nil cu (aK (pv 0) (aK (pv 2) aM)))) (aX (cN (cC (yr K rfl hu) (pv 3) (pv 4) (cx _)) (bg (bY (fu (aK cq aM)))) df) (aX (bH (i:=5) rB.nd rfl (.inl rfl) (ck GO r5 rfl mO kO bO .nil cu (aK (pv 0) (aK (pv 3) (aK (pv 4) aM))))) (aX (cN (cC Mq (pv 5) oT (cx _)) (bg (bY (fu (aK cq (aK (pv 5) (aK aR aM)))))) df) (bg (bY (fu (aK cq (aK (ck GO r5 rfl mO kO bO .nil cu (aK (pv 0) (aK (pv 4) (aK (pv 3) aM)))) (aK aR aM))))))))))),?_⟩;obtain⟨gd1,gd2,JL,uG⟩:=Drw.good pp od.1 od.2;obtain⟨ge1,ge2,ge3,zJ⟩:=Drw.good pp oe.1 oe.2;have hs1:e.cU=d.cU:=aj Prod.fst rE.symm;have jC:e.cL=d.cL:=aj Prod.snd rE.symm;rw[hs1,jC]at zJ;refine⟨_,rfl,p,a,d,rfl,Drw.md od.1,ld,hd,λv1 H1 s1 oE=>⟨_,rfl,p,b,e,rfl,Drw.md oe.1,le,s1.bo he,λv2 H2 s2 ml=>?_⟩⟩;rw[hs1,jC]at ml;refine⟨v1,v2,_,_,rfl,s2.bo oE,ml,?_⟩;have s12:=s1.trans s2;have pG:=kg.mono s12;refine⟨_,rfl,_,rfl,p,a,d,rfl,pp,od.1,od.2,ld,s12.bo hd,pG,λf1 FS H3 s3 pH uf Rq=>?_⟩;obtain⟨ps2,DQ⟩:=pG.tab;have he3:=s3.bo (bc.del DQ (s12.bo he));refine⟨_,rfl,_,rfl,p,b,e,rfl,pp,oe.1,oe.2,le,he3,pH,λf2 GS H4 s4 zK jk zL=>?_⟩;obtain⟨ps3,JM⟩:=pH.tab;have JN:=s4.bo (bc.del JM uf);have JO:=(bI.del JM Rq).mono s4;have sD:aL (S21.del Pt H) H4:=wO (wO (aL.sE s12) s3) s4;clear s4 s3 s12 s1 s2 Rq uf pH pG JM DQ;refine⟨_,rfl,_,rfl,_,_,.tuple JN JO,.tuple jk zL,vY _,vY _,_,rfl,?_⟩;by_cases same:d.aO p=e.aO p
  ·refine Iu (by rw[same]) ?_;exact⟨by show 1≤sizeLine;decide,λt ht=>q1 same t _ (pF sD (.upd ht)) (zK.mono (.upd ht)) (.of aQ)⟩
  refine Iq (λz=>same (Ro (Dat.tuple.inj z))) ?_;have q2:=q2 same;refine⟨_,rfl,_,rfl,_,rfl,p,f1,f2,FS,GS,d.aO p,e.aO p,d.cU+d.cL,rfl,pp,JN,JO,jk,zL,uG,zJ,by lia,by lia,by lia,λH5 s5 jD=>?_,λt r H5 s5 Rr lR ht=>?_⟩
  ·refine⟨_,rfl,rfl,_,rfl,oh (λz=>absurd rfl z) (λ_=>?_)⟩;refine⟨_,rfl,_,rfl,_,rfl,p,f2,f1,GS,FS,e.aO p,d.aO p,d.cU+d.cL,rfl,pp,s5.bo jk,zL.mono s5,s5.bo JN,JO.mono s5,zJ,uG,by lia,by lia,by lia,λH6 s6 abO=>?_,λt r H6 s6 Rt lR ht=>?_⟩
   ·refine absurd ?_ same;rw[← Drw.one pp od,← Drw.one pp oe];exact vU.red pp uG zJ ⟨jD,abO⟩
   ·refine⟨by show 3≤sizeLine;decide,λu jL=>?_⟩;exact q2 u t r 1 _ (pF sD ((s5.trans s6).trans (.upd jL))) (zK.mono ((s5.trans s6).trans (.upd jL))) (.of aQ) ((aL.upd jL).bo ht) (zJ r Rt) (.inr ⟨rfl,qf Rt,lR⟩)
  ·refine⟨_,rfl,rfl,_,rfl,oh (λ_=>?_) (λz=>nomatch z)⟩;refine⟨_,rfl,by show 3≤sizeLine;decide,λu jL=>?_⟩;exact q2 u t r 0 _ (pF sD (s5.trans (.upd jL))) (zK.mono (s5.trans (.upd jL))) (.of aQ) ((aL.upd jL).bo ht) (uG r Rr) (.inl ⟨rfl,qf Rr,lR⟩)
end S21
namespace L2
open PySem PySem.Spec PyProof.Rows
end L2
namespace S21
open PySem L2 Bw
theorem wQ{c:TT}{t u:TS}{D:Ends}{σ:St}{H:Hp}(d:Bool)(h:∀R:Bool→Hp→Prop,R d H→c σ H R)(ht:d=true→t { D with nx:=u D } σ H)(hf:d=false→u D σ H):cI (eG c t ik) u D σ H:=by
 refine h _ ?_;cases d with
 |true=>exact dy (ht rfl)
 |false=>exact cD (hf rfl)
theorem nl1:(["k","head","p","place","row"]:List Str).Nodup:=by decide +kernel
def DR(_K:Frag):Sp:=λvs H Q _=>∃(p:Int)(a b:Addr)(x h:List Int)(n j:Nat)(i:Int),vs=[.int p,.ref a,.ref b,.int i]∧i=j∧2≤p∧p≤97∧n≤900∧j<n∧H a=some (.lst (x.map V.int))∧H b=some (.lst (h.map V.int))∧x.length=n∧h.length=n∧-100000≤x.getD j 0∧x.getD j 0≤100000∧
 ∀l H',aL H H'→H l=none→H' l=some (.lst ((gk p j h x).map V.int))→Q (.ref l) H'
theorem abP:c8 ["p","row","head","place"] ["p","row","head","place"] (bq CF):=dv rfl rfl rfl (by decide +kernel) rfl
theorem JP{f:Addr}{fd:FuncData}(F:bZ K "_law_less" "_law_less" CF f fd)(T:Txt mg):bf P w K mg base bj 1 f fd ["p","row","head","place"] (DR K):=by
 refine F.ok abP (λvs H Q E h=>?_) (λbt A outer s H vs Q E hr h=>?_)
 ·obtain⟨p,a,b,x,h,n,j,i,rfl,_⟩:=h;rfl
 ·obtain⟨p,a,b,x,h,n,j,i,rfl,rfl,p2,iI,hn,hj,ga,gb,hx,hh,ad0,ad1,k⟩:=h;have jj:(1000:Nat)≤sizeLine:=by decide
  refine⟨_,bg (bY (mY (N:=["k","head","p","place","row"]) (own:=1) (caps:=[2,0,3,1]) rfl (vk rfl T.range (aK (dO (iX K rfl) rfl T.len iY (aK (pv 1) aM)) aM)) (show dR ["p","row","head","place"] (bq CF) ["k","head","p","place","row"] 1 [2,0,3,1] _ from .mk' (by decide +kernel)) (λ_ _ _ _ _=>cj (i:=0) nl1 rfl (.inl rfl)) (λ_ _ _ _ _=>gz) (λ_ _ _ _ _=>aV ft (aV jU (bh (cA K rfl) (pv 4) (pv 0) (λ_ _=>rfl)) (aV xP (bh (cA K rfl) (pv 4) (pv 3) (λ_ _=>rfl)) (bh (cA K rfl) (pv 1) (pv 0) (λ_ _=>rfl)))) (pv 2)))),?_⟩
  have ex:(x.map V.int).length=n:=by rw[ba,hx]
  refine⟨_,rfl,a,_,rfl,.inl (.of ga),(((x.map V.int).length:Nat):Int),rfl,by lia,by rw[ex];lia,Yw (n:=(x.map V.int).length) (lo:=0) (cp:=[some (.ref b),some (.int p),some (.int (j:Int)),some (.ref a)]) (λi H' zs=>zs=((gk p j h x).take i).map V.int) (by rw[ex];lia) rfl (λi H' zs e=>by rw[e,ba];exact uZ _ _) ?_ ?_⟩
  ·rintro i H1 zs hi sm rfl;rw[ex]at hi;rw[kl];have BF:i<x.length:=by rw[hx];exact hi
   have Ru:i<h.length:=by rw[hh];exact hi
   refine jZ ⟨_,rfl,_,rfl,a,_,(i:Int),_,rfl,rfl,.of (sm _ _ ga),bu (kc BF),_,rfl,_,rfl,a,_,(j:Int),_,rfl,rfl,.of (sm _ _ ga),bu (kc (by rw[hx];exact hj)),_,rfl,_,rfl,b,_,(i:Int),_,rfl,rfl,.of (sm _ _ gb),bu (kc Ru),_,_,rfl,rfl,.inl ⟨by lia,by lia⟩,_,_,rfl,rfl,_,rfl,_,_,rfl,rfl,(by show(0:Int)<p;lia),⟨[_],rfl,rfl⟩,sm,?_⟩;have e3:(gk p j h x)[i]?=some ((x.getD i 0-x.getD j 0*h.getD i 0)%p):=by
    unfold gk fN;rw[List.getElem?_zipWith,y4 BF,y4 Ru];show some ((x.getD i 0 + -(x.getD j 0)*h.getD i 0)%p)=_;rw[Int.neg_mul,← Int.sub_eq_add_neg]
   rw[gq,e3];simp
  ·rintro H1 zs sm rfl lq wI;rw[ex,lH (by unfold gk fN;rw[List.length_zipWith,hx,hh];lia)];exact k lq _ (sm.trans (.upd wI)) (fo sm wI) aQ
theorem Rx(d:Int)(h0:0≤d)(h1:d<25):∃q,q∈cb∧o5 (cb.map V.int) d=some (.int q):=by
 obtain⟨q,hq⟩:∃q,cb[d.toNat]?=some q:=⟨_,cg (show d.toNat<25 by lia)⟩;refine⟨q,da hq,?_⟩;rw[show d=((d.toNat:Nat):Int) by lia];exact bu (by rw[eE,hq];rfl)
def Ry:Sp:=λvs H Q _=>∃c:Int,vs=[.int c]∧∀p H',p∈cb→aL H H'→Q (.int p) H'
theorem Rz:c8 ["cell","primes"] ["cell"] (bq HY):=dv rfl rfl rfl (by decide +kernel) rfl
theorem abQ{f:Addr}{fd:FuncData}(F:bZ K "_law_prime" "_law_prime" HY f fd):bf P w K mg base bj 1 f fd ["cell"] Ry:=by
 refine F.ok Rz (λvs H Q E h=>?_) (λbt A outer s H vs Q E hr h=>?_)
 ·obtain⟨c,rfl,_⟩:=h;rfl
 ·obtain⟨c,rfl,q⟩:=h;refine⟨cI (dj (Hg cb) (bN 1)) (fK (bp (jV K) (cS (aY (bp (jV K) (aW 1) (bp (rI (λ_ j=>0<j) λi j=>.int (i%j)) (bp (rI qK λi j=>.int (i/j)) (aW 0) (tC (.int 2))) (tC (.int 4)))) (aY (bp (jV K) (aW 1) (bp (rI (λ_ j=>0<j) λi j=>.int (i%j)) (bp (rI qK λi j=>.int (i/j)) (aW 0) (tC (.int 2))) (tC (.int 25)))) bV))) (bp (rI (λ_ j=>0<j) λi j=>.int (i%j)) (aW 0) (tC (.int 2))))),aX ?_ ?_,?_⟩
  ·refine bH ?_ ?_ ?_ ?_ ?_ ?_
   ·exact Rz.nd
   ·rfl
   ·exact Or.inl rfl
   ·refine NO ?_;exact NM (by kernel_rfl)
   ·rfl
   ·exact .inl rfl
  ·refine bg ?_;refine bY ?_;refine bh ?_ ?_ ?_ ?_
   ·exact cA K rfl
   ·refine bE ?_;refine aK ?_ ?_
    ·exact bh (cA K rfl) (pv 1) (aV ft (aV iU (pv 0) aR) aR) (λ_ _=>rfl)
    ·refine aK ?_ aM;exact bh (cA K rfl) (pv 1) (aV ft (aV iU (pv 0) aR) aR) (λ_ _=>rfl)
   ·exact aV ft (pv 0) aR
   ·exact λ_ _=>rfl
  obtain⟨q1,m1,e1⟩:=Rx (c/2%4) (by lia) (by lia);obtain⟨q2,m2,e2⟩:=Rx (c/2%25) (by lia) (by lia);refine⟨(by show 25≤sizeLine;decide),λl hl=>?_⟩;dsimp only[bN];refine⟨_,rfl,_,rfl,_,_,rfl,rfl,⟨by decide,by decide⟩,_,_,rfl,rfl,(show(0:Int)<4 by decide),l,_,_,_,rfl,rfl,.of aQ,e1,?_⟩;refine⟨_,rfl,_,rfl,_,_,rfl,rfl,⟨by decide,by decide⟩,_,_,rfl,rfl,(show(0:Int)<25 by decide),l,_,_,_,rfl,rfl,.of aQ,e2,?_⟩;refine⟨(by show 2≤sizeLine;decide),λl2 Bv=>⟨_,rfl,_,_,rfl,rfl,(show(0:Int)<2 by decide),?_⟩⟩;have hc:c%2=0∨c%2=1:=by lia
  rcases hc with hc|hc
  ·exact⟨l2,_,_,.int q1,rfl,rfl,.of aQ,by rw[hc];exact bu (j:=0) rfl,q q1 _ m1 ((aL.upd hl).trans (.upd Bv))⟩
  ·exact⟨l2,_,_,.int q2,rfl,rfl,.of aQ,by rw[hc];exact bu (j:=1) rfl,q q2 _ m2 ((aL.upd hl).trans (.upd Bv))⟩
end S21
namespace PySem.SeqAt
open MeetsSeq AutoSeq1 SeqRoads2
def abR(s:Shared)(l:Addr)(its:Array Value)(n:Nat):Prop:=s.heap.get? l=some { cls:=.type "list",data:=.seq its n }
def RC(l:Addr)(its:Array Value)(n:Nat)(x:Value)(e:Value→Bool)(j:Nat):Spec:=λA R s=>
 abR s l its n∧(∀m (hm:m<its.size),m≤j→EqAt A.in1 s its[m] x (e its[m]))∧R (.ok (.ret .none)) { s with heap:=s.heap.update l (Obj.mapSeq λxs=>xs.eraseIdxIfInBounds j) }
theorem RD{l:Addr}{its:Array Value}{n:Nat}{x:Value}{e:Value→Bool}{j:Nat}(hj:j<its.size)(DT:e its[j]=true)(hs:its.size≤sizeLine) :
  ∀k i:Nat,i+k=j→(∀m (hm:m<its.size),i≤m→m<j→e its[m]=false)→Meets (Builtin.«list.remove.loop» ⟨[.ref l,x,rawInt i],[]⟩) (RC l its n x e j)
 |0,i,hk,_=>λprog w A R s z=>by
  obtain⟨h,gs,dn,tk,st⟩:=s;obtain⟨at_,eq,fin⟩:=z;obtain rfl:i=j:=by lia
  have at_:Heap.get? h l=some { cls:=.type "list",data:=.seq its n }:=at_
  (wp_walk using az at_)
  rw[show its[((i:Nat):Int).toNat]?=some its[i] by simp[hj]];refine ao (eq i hj (bX _) prog w _ _ ?_);have small:(its.eraseIdxIfInBounds i).size≤sizeLine+1:=fg (size_erased its _) (Nat.le_succ_of_le hs);rw[DT];wp_walk using(wpAny_updateSeq at_ rfl (hz:=hs) (_hz':=small)),az at_
  simpa using fin
 |k+1,i,hk,lR=>λprog w A R s z=>by
  obtain⟨h,gs,dn,tk,st⟩:=s;obtain⟨at_,eq,fin⟩:=z;have hm:i<its.size:=by lia
  have JQ:Heap.get? h l=some { cls:=.type "list",data:=.seq its n }:=at_
  (wp_walk using az JQ)
  rw[show its[((i:Nat):Int).toNat]?=some its[i] by simp[hm]];refine ao (eq i hm (by lia) prog w _ _ ?_);rw[lR i hm (bX _) (by lia)];wp_walk
  rw[show((i:Int)+1)=((i+1:Nat):Int) by push_cast;rfl];have du:=RD (l:=l) (n:=n) (x:=x) hj DT hs k (i+1) (by lia) (λm hm a b=>lR m hm (by lia) b) prog w A R _ ⟨at_,eq,fin⟩;refine⟨plainId_quiet plain_remove_loop _,codeAny_builtin entry_remove_loop ?_⟩;rw[Around.under_plainId plain_remove_loop _];exact du
theorem abS(l:Addr)(its:Array Value)(n:Nat)(x:Value)(e:Value→Bool){j:Nat}(hj:j<its.size)(DT:e its[j]=true)(lR:∀m (hm:m<its.size),m<j→e its[m]=false)(hs1:its.size≤sizeLine):Meets (Builtin.«list.remove» ⟨[.ref l,x],[]⟩) (RC l its n x e j):=λprog w A R s z=>by
 obtain⟨h,gs,dn,tk,st⟩:=s;obtain⟨at_,eq,fin⟩:=z;have JQ:Heap.get? h l=some { cls:=.type "list",data:=.seq its n }:=at_;have qG:=RD (l:=l) (n:=n) (x:=x) hj DT hs1 j 0 (tF _) (λm hm _ b=>lR m hm b) prog w A R _ ⟨at_,eq,fin⟩
 (wp_walk using az JQ)
 refine⟨plainId_quiet plain_remove_loop _,codeAny_builtin entry_remove_loop ?_⟩;rw[Around.under_plainId plain_remove_loop _];exact qG
end PySem.SeqAt
namespace L2
open PySem PySem.Spec PyProof.Rows Bw PySem.SeqAt
theorem abT{A:Around}{s:Shared}{a b:Addr}{xs ys:List Value}{r h:List Int}(hu:A.units<cLine)(ha:s.heap.IsList a xs.toArray)(hb:s.heap.IsList b ys.toArray)(ra:Vals (r.map V.int) xs)(rb:Vals (h.map V.int) ys)(hl:r.length=h.length)(cM:r≠h) :
  EqAt A s (.ref a) (.ref b) false:=by
 have l1:=ra.length;have l2:=rb.length;rw[ba]at l1 l2;have nab:a≠b:=λz=>by
  subst z;have e:xs=ys:=by
   obtain⟨o,g,_,n,d⟩:=ha;obtain⟨o',g',_,n',d'⟩:=hb;rw[g]at g';cases g';rw[d]at d';injection d' with d1;simpa using d1
  subst e;refine cM (List.ext_getElem? λi=>?_);by_cases hi:i<r.length
  ·obtain⟨u,lj,uH⟩:=ra.get (show(r.map V.int)[i]?=some (.int r[i]) by rw[eE,cg hi];rfl);obtain⟨v,oE,ml⟩:=rb.get (show(h.map V.int)[i]?=some (.int (h[i]'(hl▸hi))) by rw[eE,cg (hl▸hi)];rfl);rw[lj]at oE;cases oE;obtain⟨t,rfl⟩:=uH;obtain⟨t',e⟩:=ml;rw[cg hi,cg (hl▸hi)];injection e with e1;exact aj some e1
  ·rw[lI (by lia),lI (by lia)]
 have key:=RcAt.lists (A:=A) (s:=s) (e:=λj=>decide (r.getD j 0=h.getD j 0)) ha hb (by simp only[dG];lia) hu (λj h1 h2=>by
  simp only[dG]at h1 h2;obtain⟨u,lj,uH⟩:=ra.get (show(r.map V.int)[j]?=some (.int (r.getD j 0)) by rw[eE,cW,cg (show j<r.length by lia)];rfl);obtain⟨v,oE,ml⟩:=rb.get (show(h.map V.int)[j]?=some (.int (h.getD j 0)) by rw[eE,cW,cg (show j<h.length by lia)];rfl);obtain⟨t,rfl⟩:=uH;obtain⟨t',rfl⟩:=ml;have e1:xs.toArray[j]=.int (r.getD j 0) t:=by
   have:=(dz.mp lj).2
   simpa using this
  have e2:ys.toArray[j]=.int (h.getD j 0) t':=by
   have:=(dz.mp oE).2
   simpa using this
  rw[e1,e2];exact(MeetsSeq.EqGives.int _ _ _ _).at _ _)
 have z:((List.range xs.toArray.size).all λj=>decide (r.getD j 0=h.getD j 0))=false:=by
  cases hq:(List.range xs.toArray.size).all λj=>decide (r.getD j 0=h.getD j 0) with
  |false=>rfl
  |true=>
   refine absurd (List.ext_getElem? λi=>?_) cM;rw[oO]at hq;by_cases hi:i<r.length
   ·have:=aI (hq i (oJ.mpr (by simp only[dG];lia)))
    rw[cW,cW,cg hi,cg (hl▸hi)]at this;rw[cg hi,cg (hl▸hi)];exact aj some this
   ·rw[lI (by lia),lI (by lia)]
 rw[z]at key;exact .of_refs nab key
def abU:V→List V→Hp→VK→Prop:=λx vs H Q=>∃l xs L j a h,x=.ref l∧vs=[.ref a]∧H l=some (.lst xs)∧LR (λ_=>True) H xs L∧xs[j]?=some (.ref a)∧H a=some (.lst (h.map V.int))∧
 (∀i r,i<j→L[i]?=some r→r.length=h.length∧r≠h)∧Q .cm (upd H l (.lst (xs.eraseIdx j)))
open Classical in
theorem abV{X:Cx}(hu:X.A.units+2<cLine):Bs X "list.remove" abU:=by
 intro aJ s σ H x vs v us Q I rx rv h;obtain⟨l,xs,L,j,a,hd,rfl,rfl,hH,hL,hj,ga,cM,q⟩:=h;cases rx;obtain⟨u,rfl,ru⟩:=rv.one;cases ru;obtain⟨z,its,n,r,hl,e⟩:=I.tT hH;obtain⟨u',lj,uH⟩:=r.get hj;cases uH;have hjl:=(dz.mp lj).1;obtain⟨ys,rb,pb,_⟩:=I.list (.of ga);have at_:∀{m:Nat}(hm:m<its.toArray.size),its.toArray[m]=its[m]'(by simpa using hm):=λhm=>by simp
 refine aD F.slot_list_remove ⟨_,e,rfl⟩ F.entry_list_remove (F.args_list_remove_2 _ _)
  (abS l its.toArray n (.ref a) (λw=>decide (w=.ref a)) (j:=j) (by simpa using hjl) ?_ ?_ (by rw[dG];lia)) ⟨e,?_,?_⟩
 ·refine aE ?_;rw[at_];exact(dz.mp lj).2
 ·intro m hm JR;have zA:m<its.length:=by simpa using hm
  have sN:m<xs.length:=by lia
  obtain⟨r',eU⟩:∃r',L[m]?=some r':=⟨_,cg (by rw[← hL.1];exact sN)⟩;obtain⟨b,eb,_,gb⟩:=hL.2 m _ r' (cg sN) eU;obtain⟨w',zM,DU⟩:=r.get ((cg sN).trans (aj some eb));cases DU;refine ae ?_;rw[at_ hm,(dz.mp zM).2];intro z;injection z with z;subst z;rw[ga]at gb
  have:=(cM m r' JR eU).2
  injection gb with gb;injection gb with gb;exact this ((List.map_inj_right λx y e=>V.int.inj e).mp gb).symm
 ·intro m hm JR;have zA:m<its.length:=by simpa using hm
  have sN:m<xs.length:=by lia
  obtain⟨r',eU⟩:∃r',L[m]?=some r':=⟨_,cg (by rw[← hL.1];exact sN)⟩;obtain⟨b,eb,_,gb⟩:=hL.2 m _ r' (cg sN) eU;obtain⟨w',zM,DU⟩:=r.get ((cg sN).trans (aj some eb));cases DU;rw[at_ hm,(dz.mp zM).2];by_cases JS:b=a
  ·subst JS;dsimp only;rw[aE rfl];exact EqAt.same _
  ·dsimp only;rw[ae λz=>JS (by injection z)];have abW:m<j:=by
    rcases Nat.lt_or_eq_of_le JR with h|rfl
    ·exact h
    ·rw[cg sN,eb]at hj;injection hj with hj;injection hj with hj;exact absurd hj JS
   obtain⟨zs,rz,pz,_⟩:=I.list (.of gb);obtain⟨l1,l2⟩:=cM m r' abW eU;exact abT (by show X.A.units+1<cLine;lia) pz.isList pb.isList rz rb l1 l2
 ·refine⟨.cm,_,I.Bt (its':=its.eraseIdx j) hH e ?_ (r.eraseIdx j) ?_,rfl,q⟩
  ·show its.toArray.eraseIdxIfInBounds j=(its.eraseIdx j).toArray;rw[List.eraseIdxIfInBounds_toArray]
  ·have:=MK xs j
   lia
end L2
namespace S21
open PySem L2 Bw
variable{H:Hp}{L:LL}{LS:List V}{N:Addr→Prop}{n:Nat}{p:Int}
theorem RE:(["row"]:List Str).Nodup:=by decide +kernel
theorem nv1:(["row","p","place"]:List Str).Nodup:=by decide +kernel
theorem nv2:(["number","by","p"]:List Str).Nodup:=by decide +kernel
theorem RF:(["row","head","p","place"]:List Str).Nodup:=by decide +kernel
def Rn(p:Int)(n:Nat)(r:List Int):Prop:=r.length=n∧∀x∈r,-p<x∧x<p
theorem Rn.at{r:List Int}(p0:0<p)(h:Rn p n r)(j:Nat):-p<r.getD j 0∧r.getD j 0<p:=by
 rw[cW];cases e:r[j]? with
 |none=>exact⟨by show -p<0;lia,by show 0<p;lia⟩
 |some x=>exact h.2 x (da e)
theorem Rn.of{r:List Int}(h:Rw p n r):Rn p n r:=⟨h.1,λx hx=>by have:=h.2 x hx;lia⟩
theorem _root_.L2.LR.weak{N':Addr→Prop}(h:LR N H LS L)(k:∀a,N a→N' a):LR N' H LS L:=⟨h.1,λi v r e1 e2=>by
 obtain⟨a,e,n,g⟩:=h.2 i v r e1 e2;exact⟨a,e,k a n,g⟩⟩
theorem _root_.L2.LR.get'{i:Nat}{v:V}(h:LR N H LS L)(e:LS[i]?=some v):∃a r,v=.ref a∧L[i]?=some r∧N a∧H a=some (.lst (r.map V.int)):=by
 have hi:i<L.length:=by rw[← h.1];exact(dz.mp e).1
 obtain⟨a,e2,n,g⟩:=h.2 i v _ e (cg hi);exact⟨a,_,e2,cg hi,n,g⟩
theorem _root_.L2.LR.del(h:LR N H LS L)(i:Nat):LR N H (LS.eraseIdx i) (L.eraseIdx i):=⟨by rw[List.length_eraseIdx,List.length_eraseIdx,h.1],λj v r e1 e2=>by
 rw[List.getElem?_eraseIdx]at e1 e2;split at e1
 ·rename_i hj
  rw[af hj]at e2;exact h.2 j v r e1 e2
 ·rename_i hj
  rw[ag hj]at e2;exact h.2 (j+1) v r e1 e2⟩
theorem RG{la lh:Addr}{k:Nat}{h:List Int}{Q:VK}{te:TE}(p2:2≤p)(iI:p≤97)(hn:n≤900)(hk:k<n)(g:H la=some (.lst LS))(hL:LR N H LS L)(hR:∀r∈L,Rn p n r)(gh:H lh=some (.lst (h.map V.int)))(hh:h.length=n)(hz:LS.length≤1000)
  (za:∀(x:Addr)(H1:Hp)(R:VK),DR K [.int p,.ref x,.ref lh,.int (k:Int)] H1 R (λ_ _ _=>False)→te [some (.ref x),some (.ref lh),some (.int p),some (.int (k:Int))] H1 R)
  (done:∀H' MS,aL H H'→LR (λa=>H a=none) H' MS (L.map (gk p k h))→∀l,H' l=none→Q (.ref l) (upd H' l (.lst MS))) :
  ∃W:Nat→Nat→St→Hp→List V→Prop,(∃m,W 0 m (List.replicate 1 none++[some (.ref lh),some (.int p),some (.int (k:Int))]) H [])∧kI (qI K la) (bN 0) kH te Q W:=by
 have jj:(1000:Nat)≤sizeLine:=by decide
 refine o6 (xs:=LS) (cp:=[some (.ref lh),some (.int p),some (.int (k:Int))]) (λi H' zs=>LR (λa=>H a=none) H' zs ((L.take i).map (gk p k h))) (.of g) (by lia) LR.nil
  (λi H' zs h=>by rw[h.1,ba];exact uZ _ _) ?_ ?_
 ·rintro i x H' zs fb sm h';obtain⟨a,r,rfl,hr,_,ga⟩:=hL.get' fb;have CS:=hR r (da hr);have hb:=CS.at (show 0<p by lia) k;refine jZ (za a H' _ ⟨p,a,lh,r,h,n,k,(k:Int),rfl,rfl,p2,iI,hn,hk,sm _ _ ga,sm _ _ gh,CS.1,hh,by lia,by lia,λl H2 s2 wF gl=>?_⟩);refine⟨⟨[_],rfl,rfl⟩,sm.trans s2,?_⟩;rw[gq,hr];show LR _ H2 _ ((L.take i++[r]).map (gk p k h));rw[dE];exact(h'.mono s2).snoc (fo sm wF) gl
 ·rintro H' zs sm h' l hl;rw[hL.1,km]at h';exact done H' zs sm h' l hl
theorem abX{lo c k:Nat}{x:V}(h:((List.range c).map λ(i:Nat)=>V.int ((lo+i:Nat):Int))[k]?=some x):k<c∧x=V.int ((lo+k:Nat):Int):=by
 rw[eE]at h;by_cases hk:k<c
 ·rw[List.getElem?_range hk]at h;exact⟨hk,(c7 h).symm⟩
 ·rw[lI (by rw[tD];lia)]at h;cases h
def LA(K:Frag)(H:Hp)(XS:List V)(rs:LL):Prop:=XS.length=rs.length∧∀(i:Nat)(v:V)(r:List Int),XS[i]?=some v→rs[i]?=some r→∃a,v=.ref a∧(di K H a (r.map V.int)∨bc K H a (r.map V.int))
theorem LA.get{K:Frag}{XS:List V}{rs:LL}{i:Nat}{v:V}(h:LA K H XS rs)(e:XS[i]?=some v):∃a r,v=.ref a∧rs[i]?=some r∧(di K H a (r.map V.int)∨bc K H a (r.map V.int)):=by
 have hi:i<rs.length:=by rw[← h.1];exact(dz.mp e).1
 obtain⟨a,e2,g⟩:=h.2 i v _ e (cg hi);exact⟨a,_,e2,cg hi,g⟩
theorem LA.of{K:Frag}{N:Addr→Prop}{H:Hp}{XS:List V}{rs:LL}(h:LR N H XS rs):LA K H XS rs:=⟨h.1,λi v r e1 e2=>by
 obtain⟨a,e,_,g⟩:=h.2 i v r e1 e2;exact⟨a,e,.inl (.of g)⟩⟩
def RH(K:Frag):Sp:=λvs H Q _=>∃(p:Int)(a b:Addr)(XS:List V)(rs:LL)(n lo c:Nat),vs=[.int p,.ref a,.ref b]∧p∈cb∧H a=some (.lst XS)∧LA K H XS rs∧rs.length≤900∧n≤900∧(∀r∈rs,Rn p n r)∧lo+c≤n∧H b=some (.lst ((List.range c).map λ(i:Nat)=>V.int ((lo+i:Nat):Int)))∧
 ∀l f g FS GS H',aL H H'→H l=none→H' l=some (.lst [.ref f,.ref g])→H f=none→H' f=some (.lst FS)→LR (λa=>H a=none) H' FS (D1.eM p lo rs c).1→H g=none→H' g=some (.lst GS)→LR (λa=>H a=none) H' GS (D1.eM p lo rs c).2→Q (.ref l) H'
def JT(_K:Frag):Sp:=λvs H Q _=>∃(p:Int)(a b:Addr)(XS:List V)(rs:LL)(n lo c:Nat),vs=[.int p,.ref a,.ref b]∧p∈cb∧H a=some (.lst XS)∧LR (λ_=>True) H XS rs∧rs.length≤900∧n≤900∧(∀r∈rs,Rn p n r)∧lo+c≤n∧H b=some (.lst ((List.range c).map λ(i:Nat)=>V.int ((lo+i:Nat):Int)))∧
 ∀l f g FS GS H',aL H H'→H l=none→H' l=some (.lst [.ref f,.ref g])→H f=none→H' f=some (.lst FS)→LR (λa=>H a=none) H' FS (D1.eM p lo rs c).1→H g=none→H' g=some (.lst GS)→LR (λa=>H a=none) H' GS (D1.eM p lo rs c).2→Q (.ref l) H'
noncomputable abbrev zN:List Str:=["p","rows","places","left","found","place","some","head","by"]
theorem pI:c8 ["p","rows","places","left","found","place","some","head","by"] ["p","rows","places"] (bq rf):=dv rfl rfl rfl (by decide +kernel) rfl
theorem JU{p:Int}(pp:p∈cb){n lo:Nat}{rs:LL}(h:∀r∈rs,Rn p n r):∀c,(∀r∈(D1.eM p lo rs c).1,Rn p n r)∧(∀r∈(D1.eM p lo rs c).2,Rn p n r)∧(D1.eM p lo rs c).1.length≤c∧(D1.eM p lo rs c).2.length≤rs.length
 |0=>⟨λr hr=>(nomatch hr),h,bX _,bX _⟩
 |c+1=>by
  have p0:0<p:=by have:=eI p pp;lia
  obtain⟨i1,i2,i3,i4⟩:=JU pp (lo:=lo) h c;show(∀r∈(D1.jf p (lo+c) (D1.eM p lo rs c)).1,_)∧(∀r∈(D1.jf p (lo+c) (D1.eM p lo rs c)).2,_)∧(D1.jf p (lo+c) (D1.eM p lo rs c)).1.length≤_∧(D1.jf p (lo+c) (D1.eM p lo rs c)).2.length≤_;generalize D1.eM p lo rs c=s at i1 i2 i3 i4;obtain⟨D,T⟩:=s;unfold D1.jf;split
  ·exact⟨i1,i2,by lia,i4⟩
  ·rename_i i e
   obtain⟨hd,hi,h1,h2⟩:=D1.find_some e;dsimp only at hi i1 i2 i3 i4;dsimp only;rw[D1.DD hi];have sl:(D1.iO p (lo+c) hd).length=n:=by rw[D1.uA];exact(i2 hd (da hi)).1
   refine⟨λr hr=>?_,λr hr=>?_,by simp;lia,?_⟩
   ·rcases(c9.mp hr)with(hr|hr)
    ·obtain⟨q,hq,rfl⟩:=cY.mp hr;exact .of (yB _ p0 (i1 q hq).1 sl)
    ·rw[cR.mp hr];exact .of (D1.abt p0 ((D1.uA (p:=p) (k:=lo+c)).symm.trans sl))
   ·obtain⟨q,hq,rfl⟩:=cY.mp hr;exact .of (yB _ p0 (i2 q (xw hq)).1 sl)
   ·have:=D1.uA (p:=p) (k:=0) (h:=[])
    rw[ba,List.length_eraseIdx];split<;>lia
theorem RI{f fL:Addr}{fd kZ:FuncData}(F:bZ K "_law_cleared" "_law_cleared" rf f fd)(T:Txt mg)
  (GL:bf P w K mg base bj 1 fL kZ ["p","row","head","place"] (DR K)) (kL:Kp K fL) (bL:Binds K kZ ["p","row","head","place"] []) (mL:Mg mg "_law_less" fL) :
  bf P w K mg base bj 2 f fd ["p","rows","places"] (RH K):=by
 refine F.ok pI (λvs H Q E h=>?_) (λbt A outer s H vs Q E hr h=>?_)
 ·obtain⟨p,a,b,XS,rs,n,lo,c,rfl,_⟩:=h;rfl
 ·obtain⟨p,a,b,XS,rs,n,lo,c,rfl,pp,ga,hX,hz,hn,hR,mZ,gb,q⟩:=h;obtain⟨p2,iI⟩:=eI p pp;have p0:0<p:=by lia
  have jj:(1000:Nat)≤sizeLine:=by decide
  have hu:=hr.units;have uH:=Nat.lt_of_le_of_lt (Nat.add_le_add_left (show 2≤64 by decide) _) hu;have hXl:=hX.1;refine⟨_,aX (jX (i:=3) (N:=["row"]) (own:=1) (caps:=[]) rfl pI.nd rfl rfl (ir K rfl (pv 1)) (show dR zN (bq rf) ["row"] 1 [] _ from .mk' (by decide +kernel)) (λ_ _ _ _ _=>cj (i:=0) RE rfl (.inl rfl)) (λ_ _ _ _ _=>gz) (λ_ _ _ _ _=>fw (yo K rfl) rfl T.list qU (aK (pv 0) aM))) (aX (bH (i:=4) pI.nd rfl (.inl rfl) (bE aM)) (aX (jw jR rfl (ir K rfl (pv 2)) (cj (i:=5) pI.nd rfl (Or.inr rfl)) (aX (jX (i:=6) (N:=["row","p","place"]) (own:=1) (caps:=[0,5]) rfl pI.nd rfl rfl (ir K rfl (pv 3)) (show dR zN (bq rf) ["row","p","place"] 1 [0,5] _ from .mk' (by decide +kernel)) (λ_ _ _ _ _=>cj (i:=0) nv1 rfl (.inl rfl)) (λ_ _ _ _ _=>ya (cC oZ (aV ft (bh (cA K rfl) (pv 0) (pv 2) (λ_ _=>rfl)) (pv 1)) aR (cx _))) (λ_ _ _ _ _=>pv 0)) (bg (cN (cC (BV K rfl hu) (pv 6) (bE aM) (cx _)) (aX (bH (i:=7) pI.nd rfl (Or.inr rfl) (bh (cA K rfl) (pv 6) aR (λ_ _=>rfl))) (aX (jv (p8 pY PySem.F.slot_list_remove PySem.F.type_list_remove (abV uH) (pv 3) (aK (pv 7) aM))) (aX (bH (i:=8) pI.nd rfl (Or.inr rfl) aR) (aX (VN jR (cC oZ (aV ft (aV xP (pv 8) (bh (cA K rfl) (pv 7) (pv 5) (λ_ _=>rfl))) (pv 0)) aR (cx _)) (bg (bH (i:=8) pI.nd rfl (Or.inr rfl) (aV eB (pv 8) aR)))) (aX (bH (i:=7) pI.nd rfl (Or.inr rfl) (mY (N:=["number","by","p"]) (own:=1) (caps:=[8,0]) rfl (ir K rfl (pv 7)) (show dR zN (bq rf) ["number","by","p"] 1 [8,0] _ from .mk' (by decide +kernel)) (λ_ _ _ _ _=>cj (i:=0) nv2 rfl (.inl rfl)) (λ_ _ _ _ _=>gz) (λ_ _ _ _ _=>aV ft (aV xP (pv 0) (pv 1)) (pv 2)))) (aX (jX (i:=3) (N:=["row","head","p","place"]) (own:=1) (caps:=[7,0,5]) rfl pI.nd rfl rfl (ir K rfl (pv 3)) (show dR zN (bq rf) ["row","head","p","place"] 1 [7,0,5] _ from .mk' (by decide +kernel)) (λ_ _ _ _ _=>cj (i:=0) RF rfl (.inl rfl)) (λ_ _ _ _ _=>gz) (λ_ _ _ _ _=>ck GL hr rfl mL kL bL .nil cu (aK (pv 2) (aK (pv 0) (aK (pv 1) (aK (pv 3) aM)))))) (bg (bH (i:=4) pI.nd rfl (.inl rfl) (aV dh (mY (N:=["row","head","p","place"]) (own:=1) (caps:=[7,0,5]) rfl (ir K rfl (pv 4)) (show dR zN (bq rf) ["row","head","p","place"] 1 [7,0,5] _ from .mk' (by decide +kernel)) (λ_ _ _ _ _=>cj (i:=0) RF rfl (.inl rfl)) (λ_ _ _ _ _=>gz) (λ_ _ _ _ _=>ck GL hr rfl mL kL bL .nil cu (aK (pv 2) (aK (pv 0) (aK (pv 1) (aK (pv 3) aM)))))) (bE (aK (pv 7) aM)))))))))))
     df)))) (bg (bY (bE (aK (pv 4) (aK (pv 3) aM))))))),?_⟩
  refine⟨_,rfl,a,rfl,⟨_,.of ga⟩,o6 (cp:=[]) (λi H' zs=>LR (λa=>H a=none) H' zs (rs.take i)) (.of ga) (by lia) LR.nil (λi H' zs h=>by rw[h.1];exact uZ _ _) ?_ ?_⟩
  ·rintro i x H1 zs hx sm h1;obtain⟨ra,r,rfl,gH,gr⟩:=hX.get hx;refine jZ ⟨_,rfl,ra,_,rfl,gr.elim (λz=>.inl (sm.seq z)) (λz=>.inr (sm.bo z)),λl hl=>⟨⟨[_],rfl,rfl⟩,sm.trans (.upd hl),?_⟩⟩;rw[gq,gH];exact(h1.mono (.upd hl)).snoc (fo sm hl) aQ
  rintro H1 LS j9 vJ ll nc;rw[hXl,km]at vJ;refine⟨by decide,λld ke=>?_⟩;have zO:ld≠ll:=λz=>by rw[z,aQ]at ke;cases ke
  have gu:aL H (upd (upd H1 ll (.lst LS)) ld (.lst [])):=(j9.trans (.upd nc)).trans (.upd ke);have zP:H ld=none:=fo (j9.trans (.upd nc)) ke;refine⟨_,rfl,b,rfl,⟨_,.of (gu _ _ gb)⟩,vm (xs:=(List.range c).map λ(i:Nat)=>V.int ((lo+i:Nat):Int)) (λk σ H'=>aL H H'∧∃(ll ld:Addr)(LS DS:List V)(s5 s6 s7 s8:Option V),σ=[some (.int p),some (.ref a),some (.ref b),some (.ref ll),some (.ref ld),s5,s6,s7,s8]∧H ll=none∧H ld=none∧ld≠ll∧H' ll=some (.lst LS)∧LR (λa=>a≠ll∧H a=none) H' LS (D1.eM p lo rs k).2∧H' ld=some (.lst DS)∧LR (λa=>a≠ll∧H a=none) H' DS (D1.eM p lo rs k).1) ⟨gu,ll,ld,LS,[],_,_,_,_,rfl,fo j9 nc,zP,zO,aL.upd ke _ _ aQ,?_,aQ,LR.nil⟩ (λi σ H' _ ⟨sm,_⟩=>.of (sm _ _ gb)) ?_ ?_⟩
  ·refine((?_:LR (λa=>a≠ll∧H a=none) H1 LS rs).mono (.upd nc)).mono (.upd ke);exact⟨vJ.1,λi v r e1 e2=>by
    obtain⟨x,e,hx,gx⟩:=vJ.2 i v r e1 e2;exact⟨x,e,⟨λz=>(by rw[z,nc]at gx;cases gx),hx⟩,gx⟩⟩
  ·rintro k x σ H2 hx ⟨sm,ll,ld,LS,DS,s5,s6,s7,s8,rfl,DV,zP,zO,gL,hL,gD,hD⟩;obtain⟨hk,rfl⟩:=abX hx;obtain⟨n1,n2,n3,n4⟩:=JU pp (lo:=lo) hR k;have RJ:D1.eM p lo rs (k+1)=D1.jf p (lo+k) (D1.eM p lo rs k):=rfl;rw[RJ];generalize D1.eM p lo rs k=st at hL hD n1 n2 n3 n4;obtain⟨D,L⟩:=st;dsimp only at hL hD n1 n2 n3 n4;have hLS:=hL.1;have hDS:=hD.1;have zQ:lo+k<n:=by lia
   generalize hkk:lo+k=kk at zQ ⊢;refine⟨_,rfl,ll,rfl,⟨_,.of gL⟩,o6 (cp:=[some (.int p),some (.int (kk:Int))]) (λj H' zs=>zs.length≤j∧((zs=[]∧∀m q,m<j→L[m]?=some q→(q.getD kk 0%p != 0)=false)∨∃i h v t M,i<j∧L[i]?=some h∧(h.getD kk 0%p != 0)=true∧(∀m q,m<i→L[m]?=some q→(q.getD kk 0%p != 0)=false)∧LS[i]?=some v∧zs=v::t∧LR (λ_=>True) H' zs M)) (.of gL) (by lia) ⟨bX _,.inl ⟨rfl,λm q hm=>absurd hm (by lia)⟩⟩ (λj H' zs h=>h.1) ?_ ?_⟩
   ·rintro j x H' zs hx gR ⟨hzl,hP⟩;obtain⟨ra,r,rfl,eU,_,gr⟩:=hL.get' hx;have hkr:kk<r.length:=by rw[(n2 r (da eU)).1];exact zQ
    refine⟨_,rfl,_,rfl,ra,_,(kk:Int),_,rfl,rfl,.of (gR _ _ gr),bu (kc hkr),_,rfl,_,_,rfl,rfl,p0,rfl,_,rfl,oh (λcM=>?_) (λheq=>?_)⟩
    ·have hf:(r.getD kk 0%p != 0)=true:=by
      have:¬r.getD kk 0%p=0:=λz=>cM (aj V.int z)
      simpa using this
     refine⟨_,rfl,⟨[_],rfl,rfl⟩,gR,by rw[bK];show zs.length+1≤_;lia,.inr ?_⟩;rcases hP with⟨rfl,h0⟩|⟨i,h,v,t,M,hi,e1,e2,e3,e4,rfl,e6⟩
     ·exact⟨j,r,.ref ra,[],[r],by lia,eU,hf,h0,hx,rfl,LR.nil.snoc trivial (gR _ _ gr)⟩
     ·exact⟨i,h,v,t++[.ref ra],M++[r],by lia,e1,e2,e3,e4,rfl,e6.snoc trivial (gR _ _ gr)⟩
    ·have hf:(r.getD kk 0%p != 0)=false:=by
      have:r.getD kk 0%p=0:=V.int.inj heq
      simpa using this
     refine⟨⟨[_],rfl,rfl⟩,gR,by lia,?_⟩;rcases hP with⟨rfl,h0⟩|⟨i,h,v,t,M,hi,e1,e2,e3,e4,rfl,e6⟩
     ·refine .inl ⟨rfl,λm q hm hq=>?_⟩;by_cases e:m=j
      ·subst e;rw[eU]at hq;cases hq;exact hf
      ·exact h0 m q (by lia) hq
     ·exact .inr ⟨i,h,v,t,M,by lia,e1,e2,e3,e4,rfl,e6⟩
   rintro H3 zs gS ⟨_,hP⟩ ls iQ;have ji:aL H2 (upd H3 ls (.lst zs)):=gS.trans (.upd iQ);have g4:(upd H3 ls (.lst zs)) ls=some (.lst zs):=aQ;have RK:H2 ls=none:=fo gS iQ;have ad2:ls≠ll:=λz=>by rw[z,gL]at RK;cases RK
   rcases hP with⟨rfl,h0⟩|⟨i,h,v,t,M,hi,e1,e2,e3,e4,rfl,e6⟩
   ·
    generalize upd H3 ls (.lst [])=H4 at ji g4 ⊢;have ef:L.findIdx? (λr=>r.getD kk 0%p != 0)=none:=by
     rw[List.findIdx?_eq_none_iff];intro r hr;obtain⟨m,hm⟩:=List.getElem?_of_mem hr;exact h0 m r (by rw[hLS];exact(dz.mp hm).1) hm
    have zR:D1.jf p kk (D,L)=(D,L):=by
     unfold D1.jf;dsimp only;rw[ef]
    rw[zR];refine⟨_,rfl,by decide,λle kN=>⟨.list [],.list [],.list (.of (aL.upd kN _ _ g4)) .nil,.list (.of aQ) .nil,rfl,rfl,_,rfl,He rfl ?_⟩⟩;have ff:=ji.trans (aL.upd kN (o:=.lst []));exact⟨sm.trans ff,ll,ld,LS,DS,_,_,_,_,rfl,DV,zP,zO,ff _ _ gL,hL.mono ff,ff _ _ gD,hD.mono ff⟩
   ·
    have RN:LR (λ_=>True) (upd H3 ls (.lst (v::t))) (v::t) M:=e6.mono (.upd iQ);generalize upd H3 ls (.lst (v::t))=H4 at ji g4 RN ⊢;have ef:L.findIdx? (λr=>r.getD kk 0%p != 0)=some i:=by
     rw[List.findIdx?_eq_some_iff_getElem];obtain⟨hiL,rfl⟩:=dz.mp e1;exact⟨hiL,e2,λj hj=>by rw[e3 j _ hj (cg (by lia))];decide⟩
    have zR:D1.jf p kk (D,L)=(D.map (gk p kk (D1.iO p kk h))++[D1.iO p kk h],(L.eraseIdx i).map (gk p kk (D1.iO p kk h))):=by
     unfold D1.jf;dsimp only;rw[ef];dsimp only;rw[D1.DD e1]
    rw[zR];refine⟨_,rfl,by decide,λle kN=>⟨.list (M.map B7),.list [],.list (.of (aL.upd kN _ _ g4)) (RN.mono (.upd kN)).has,.list (.of aQ) .nil,Y9 M,rfl,_,rfl,Ip ?_ ?_⟩⟩
    ·intro z;injection z with z
     have:=e6.1
     rw[List.length_eq_zero_iff.mpr (List.map_eq_nil_iff.mp z)]at this;cases this
    have ff:=ji.trans (aL.upd kN (o:=.lst []));have g5:=aL.upd kN (o:=.lst []) _ _ g4;generalize upd H4 le (.lst [])=H5 at ff g5 ⊢;obtain⟨ha,h',rfl,BG,⟨nha,nhH⟩,RP⟩:=hL.get' e4;rw[e1]at BG;cases BG;have pd:=n2 h (da e1);have hkh:kk<h.length:=by rw[pd.1];exact zQ
    refine⟨_,rfl,ls,_,0,.ref ha,rfl,rfl,.of g5,bu (j:=0) rfl,?_⟩;refine⟨_,rfl,.inl ⟨rfl,_,di.of (ff _ _ gL)⟩,_,rfl,ll,LS,L,i,ha,h,rfl,rfl,ff _ _ gL,(hL.mono ff).weak λ_ _=>trivial,e4,ff _ _ RP,λm r hm eU=>⟨?_,?_⟩,?_⟩
    ·rw[pd.1,(n2 r (da eU)).1]
    ·rintro rfl
     have:=e3 m _ hm eU
     rw[e2]at this;cases this
    have oi:aL H (upd H5 ll (.lst (LS.eraseIdx i))):=(sm.trans ff).write DV;have gA:(upd H5 ll (.lst (LS.eraseIdx i))) ll=some (.lst (LS.eraseIdx i)):=aQ;have DW:(upd H5 ll (.lst (LS.eraseIdx i))) ha=some (.lst (h.map V.int)):=by rw[cy nha];exact ff _ _ RP
    have RQ:LR (λa=>a≠ll∧H a=none) (upd H5 ll (.lst (LS.eraseIdx i))) (LS.eraseIdx i) (L.eraseIdx i):=⟨(hL.del i).1,λj v r z1 z2=>by
     obtain⟨x,e,nx,gx⟩:=(hL.del i).2 j v r z1 z2;exact⟨x,e,nx,by rw[cy nx.1];exact ff _ _ gx⟩⟩
    have RR:LR (λa=>a≠ll∧H a=none) (upd H5 ll (.lst (LS.eraseIdx i))) DS D:=⟨hDS,λj v r z1 z2=>by
     obtain⟨x,e,nx,gx⟩:=hD.2 j v r z1 z2;exact⟨x,e,nx,by rw[cy nx.1];exact ff _ _ gx⟩⟩
    have JV:(upd H5 ll (.lst (LS.eraseIdx i))) ld=some (.lst DS):=by rw[cy zO];exact ff _ _ gD
    generalize upd H5 ll (.lst (LS.eraseIdx i))=H6 at oi gA DW RQ RR JV ⊢;have h0:h.getD kk 0%p≠0:=by simpa using e2
    have rW:=D1.JC pp h0;have RT:D1.iO p kk h=h.map λx=>x*dC p (h.getD kk 0%p)%p:=rfl;have hbx:=pd.at p0 kk;have JW:(D1.iO p kk h).length=n:=by rw[D1.uA];exact pd.1
    generalize dC p (h.getD kk 0%p)=u at rW RT;refine⟨λm σ H'=>∃bb:Int,H'=H6∧σ=[some (.int p),some (.ref a),some (.ref b),some (.ref ll),some (.ref ld),some (.int (kk:Int)),some (.ref ls),some (.ref ha),some (.int bb)]∧1≤bb∧bb≤u∧m=(u-bb).toNat,⟨_,1,rfl,rfl,by lia,by lia,rfl⟩,?_⟩;rintro m σ H' ⟨bb,rfl,rfl,b1,b2,rfl⟩;refine⟨_,rfl,_,rfl,_,rfl,ha,_,(kk:Int),_,rfl,rfl,.of DW,bu (kc hkh),_,_,rfl,rfl,.inl ⟨by lia,by lia⟩,_,rfl,_,_,rfl,rfl,p0,rfl,_,rfl,oh (λcM=>?_) (λheq=>?_)⟩
    ·have hbu:bb≠u:=λz=>cM (aj V.int (by rw[z];exact rW.2.2));refine⟨λσ' eV=>eV=H'∧σ'=[some (.int p),some (.ref a),some (.ref b),some (.ref ll),some (.ref ld),some (.int (kk:Int)),some (.ref ls),some (.ref ha),some (.int (bb+1))],?_,?_⟩
     ·rintro σ' eV ⟨rfl,rfl⟩;exact⟨(u-(bb+1)).toNat,by lia,bb+1,rfl,rfl,by lia,by lia,rfl⟩
     ·exact⟨_,rfl,_,_,rfl,rfl,rfl,rfl⟩
    obtain rfl:bb=u:=OU p0 (V.int.inj heq) rW.2.2 (by lia) (by lia) (by lia) rW.2.1;refine⟨_,rfl,ha,rfl,⟨_,.of DW⟩,o6 (cp:=[some (.int bb),some (.int p)]) (λj H' zs=>zs=((h.take j).map λy=>y*bb%p).map V.int) (.of DW) (by rw[ba,pd.1];lia) rfl (λj H' zs e=>by rw[e,ba,ba];exact uZ _ _) ?_ ?_⟩
    ·rintro j y eV zs hy gR rfl;rw[eE]at hy;cases f1:h[j]? with
     |none=>rw[f1]at hy;cases hy
     |some y'=>
      rw[f1]at hy;cases hy;refine jZ ⟨_,rfl,_,rfl,_,_,rfl,rfl,.inr ⟨by lia,by lia⟩,_,rfl,_,_,rfl,rfl,p0,⟨[_],rfl,rfl⟩,gR,?_⟩;rw[gq,f1];simp
    rintro HA zs RU rfl lh sr;rw[ba,km,← RT];generalize D1.iO p kk h=hd at JW ⊢;have oj:aL H' (upd HA lh (.lst (hd.map V.int))):=RU.trans (.upd sr);have gC:(upd HA lh (.lst (hd.map V.int))) lh=some (.lst (hd.map V.int)):=aQ;have lhH:H lh=none:=fo (oi.trans RU) sr;generalize upd HA lh (.lst (hd.map V.int))=HC at oj gC ⊢;have hRE:∀r∈L.eraseIdx i,Rn p n r:=λr hr=>n2 r (xw hr);refine⟨_,rfl,ll,rfl,⟨_,.of (oj _ _ gA)⟩,RG p2 iI hn zQ (oj _ _ gA) (RQ.mono oj) hRE gC JW (by rw[List.length_eraseIdx];split<;>lia) (λx H1 R z=>⟨_,rfl,_,rfl,_,rfl,_,rfl,z⟩) ?_⟩
    rintro HD MS DX hM lm qW;have uI:aL H' (upd HD lm (.lst MS)):=(oj.trans DX).trans (.upd qW);have gE:(upd HD lm (.lst MS)) lm=some (.lst MS):=aQ;have JX:(upd HD lm (.lst MS)) lh=some (.lst (hd.map V.int)):=aL.upd qW _ _ (DX _ _ gC);have RV:LR (λa=>a≠lm∧H a=none) (upd HD lm (.lst MS)) MS ((L.eraseIdx i).map (gk p kk hd)):=⟨hM.1,λj v r z1 z2=>by
     obtain⟨x,e,nx,gx⟩:=hM.2 j v r z1 z2
     have:x≠lm:=λz=>by rw[z,qW]at gx;cases gx
     exact⟨x,e,⟨this,fo (oi.trans oj) nx⟩,by rw[cy this];exact gx⟩⟩
    have lmH:H lm=none:=fo ((oi.trans oj).trans DX) qW;have abY:lh≠lm:=λz=>by
     have:=DX _ _ gC
     rw[z,qW]at this;cases this
    generalize upd HD lm (.lst MS)=HE at uI gE JX RV ⊢;refine⟨_,rfl,ld,rfl,⟨_,.of (uI _ _ JV)⟩,RG p2 iI hn zQ (uI _ _ JV) (RR.mono uI) n1 JX JW (by lia) (λx H1 R z=>⟨_,rfl,_,rfl,_,rfl,_,rfl,z⟩) ?_⟩;rintro HF NS RW hN l1 h1;have hNl:=hN.1;rw[ba]at hNl;refine⟨_,rfl,(by show 1≤sizeLine;lia),λl2 h2=>⟨l1,l2,NS,[.ref lh],rfl,rfl,aL.upd h2 _ _ aQ,aQ,by show NS.length+1≤sizeLine;lia,λl3 h3=>?_⟩⟩;have DY:aL HE (upd (upd (upd HF l1 (.lst NS)) l2 (.lst [.ref lh])) l3 (.lst (NS++[.ref lh]))):=(RW.trans (.upd h1)).trans ((aL.upd h2).trans (.upd h3));have smH:=uI.trans DY;have JY:HE l3=none:=fo (RW.trans ((aL.upd h1).trans (aL.upd h2))) h3;have ne3:l3≠lm:=λz=>by rw[z,gE]at JY;cases JY
    have hN2:LR (λa=>a≠lm∧H a=none) HF NS (D.map (gk p kk hd)):=⟨hN.1,λi v r e1 e2=>by
     obtain⟨x,e,hx,gx⟩:=hN.2 i v r e1 e2;have nx:x≠lm:=λz=>by rw[z,gE]at hx;cases hx
     exact⟨x,e,⟨nx,fo (oi.trans uI) hx⟩,gx⟩⟩
    refine⟨oi.trans smH,lm,l3,MS,NS++[.ref lh],_,_,_,_,rfl,lmH,fo (oi.trans uI) JY,ne3,DY _ _ gE,RV.mono DY,aQ,?_⟩;exact(hN2.mono ((aL.upd h1).trans ((aL.upd h2).trans (.upd h3)))).snoc ⟨abY,lhH⟩ (DY _ _ JX)
  ·rintro σ H2 ⟨sm,ll,ld,LS,DS,s5,s6,s7,s8,rfl,DV,zP,zO,gL,hL,gD,hD⟩;rw[ba,tD]at hL hD;refine⟨_,rfl,_,rfl,by show 2≤sizeLine;decide,λl hl=>?_⟩;exact q l ld ll DS LS _ (sm.trans (.upd hl)) (fo sm hl) aQ zP (aL.upd hl _ _ gD) ((hD.mono (.upd hl)).weak λ_ z=>z.2) DV (aL.upd hl _ _ gL) ((hL.mono (.upd hl)).weak λ_ z=>z.2)
theorem RX{f fL:Addr}{fd kZ:FuncData}(F:bZ K "_law_cleared" "_law_cleared" rf f fd)(T:Txt mg)
  (GL:bf P w K mg base bj 1 fL kZ ["p","row","head","place"] (DR K)) (kL:Kp K fL) (bL:Binds K kZ ["p","row","head","place"] []) (mL:Mg mg "_law_less" fL) :
  bf P w K mg base bj 2 f fd ["p","rows","places"] (JT K):=(RI F T GL kL bL mL).imp λvs H Q E h=>by
 obtain⟨p,a,b,XS,rs,n,lo,c,e,pp,ga,hX,r⟩:=h;exact⟨p,a,b,XS,rs,n,lo,c,e,pp,ga,.of hX,r⟩
end S21
namespace L2
open PySem PySem.Spec PyProof.Rows
namespace Rv
end Rv
section
variable{prog:Program}{w:World}{A:Around}{E:QV}{s:Shared}
end
section
variable{prog:Program}{w:World}{A:Around}{E:QV}{s:Shared}{R:Result→Shared→Prop}
end
end L2
namespace L2
open PySem PySem.Spec PyProof.Rows
end L2
namespace S21
open PySem L2 Bw
variable{H:Hp}{Q:VK}{a b f fC:Addr}{fd gQ:FuncData}{i:Nat}{ns:List Int}{tb tk:TE}
theorem JZ{X:Cx}:fq X (.type "range") (λxs H Q=>∃j:Int,xs=[.int j]∧∀p,H p=none→Q (.ref p) (upd H p (.lJ 0 j))):=by
 intro aJ s σ H vs us Q I r h;obtain⟨j,rfl,q⟩:=h;obtain⟨u,rfl,ru⟩:=vals1 r;obtain⟨t,rfl⟩:=ru;refine call_range_1 ?_;exact⟨.ref _,_,I.laid (t':=_) (o:=.lJ 0 j) (λb o e=>dD _ e) (bX _) ⟨_,_,_,gK _ rfl⟩,rfl,q _ I.fresh⟩
theorem DZ(lo c:Nat):((List.range (((lo+c:Nat):Int)-(lo:Int)).toNat).map λ(k:Nat)=>V.int ((lo:Int)+k))=(List.range c).map λ(i:Nat)=>V.int ((lo+i:Nat):Int):=by
 rw[show(((lo+c:Nat):Int)-(lo:Int)).toNat=c by lia];exact uY λk _=>by rw[tJ]
def RY(K:Frag):Sp:=λvs H Q _=>∃(p:Int)(a:Addr)(XS:List V)(rs:LL)(n:Nat),vs=[.int p,.ref a,.int (n:Int)]∧p∈cb∧H a=some (.lst XS)∧LR (λ_=>True) H XS rs∧rs.length≤900∧n≤900∧Bw.bw p n rs∧
 ∀t H' DS,aL H H'→bc K H' t DS→bI K H' DS ((cz p rs).map cJ)→Q (.ref t) H'
theorem abZ:c8 ["p","rows","size"] ["p","rows","size"] (bq CG):=dv rfl rfl rfl (by decide +kernel) rfl
theorem ab0(F:bZ K "_law_reduced" "_law_reduced" CG f fd)(T:Txt mg)
  (GC:bf P w K mg base bj 2 fC gQ ["p","rows","places"] (JT K)) (kC:Kp K fC) (bC:Binds K gQ ["p","rows","places"] []) (mC:Mg mg "_law_cleared" fC) :
  bf P w K mg base bj 3 f fd ["p","rows","size"] (RY K):=by
 refine F.ok abZ (λvs H Q E h=>?_) (λbt A outer s H vs Q E hr h=>?_)
 ·obtain⟨p,a,XS,rs,n,rfl,_⟩:=h;rfl
 ·obtain⟨p,a,XS,rs,n,rfl,pp,ga,hX,hz,hn,hR,q⟩:=h;have jj:(1000:Nat)≤sizeLine:=by decide
  refine⟨_,bg (bY (fw (lV K rfl) rfl T.tuple jY (aK (mY (N:=["row"]) (own:=1) (caps:=[]) rfl (ir K rfl (bh (cA K rfl) (ck GC hr rfl mC kC bC .nil cu (aK (pv 0) (aK (pv 1) (aK (fw (BL rfl) rfl T.list qU (aK (fw JZ rfl T.range BW (aK (pv 2) aM)) aM)) aM)))) aR (λ_ _=>rfl))) (show dR ["p","rows","size"] (bq CG) ["row"] 1 [] _ from .mk' (by decide +kernel)) (λ_ _ _ _ _=>cj (i:=0) RE rfl (.inl rfl)) (λ_ _ _ _ _=>gz) (λ_ _ _ _ _=>fw (lV K rfl) rfl T.tuple jY (aK (pv 0) aM))) aM))),?_⟩
  refine⟨_,rfl,_,rfl,_,rfl,(n:Int),rfl,λpr uJ=>⟨pr,0,(n:Int),rfl,aQ,⟨by decide,by decide,by lia,by lia⟩,by lia,λll nc=>?_⟩⟩;have sm:=(aL.upd uJ (o:=.lJ 0 (n:Int))).trans (aL.upd nc (o:=.lst ((List.range ((n:Int)-0).toNat).map λ(k:Nat)=>V.int (0+k))));refine⟨p,a,ll,XS,rs,n,0,n,rfl,pp,sm _ _ ga,hX.mono sm,hz,hn,λr hr=>.of (hR r hr),by lia,?_,?_⟩
  ·rw[aQ]
   have:=DZ 0 n
   rw[tF]at this;exact aj (λz=>some (HO.lst z)) this
  intro l fa ga' FS GS H1 s1 hl gl hf gf hF _ _ _;rw[D1.zy pp hR]at hF;have RZ:=hF.1;have ad3:(cz p rs).length≤n:=by
   rw[← D1.zy pp hR];exact(D1.zx pp hR n (bX _)).len (bX _)
  refine⟨l,_,0,.ref fa,rfl,rfl,.of gl,bu (j:=0) rfl,fa,rfl,⟨_,.of gf⟩,o6 (cp:=[]) (λi H' zs=>bI K H' zs (((cz p rs).take i).map cJ)) (.of gf) (by lia) .nil (λi H' zs h=>by rw[fj h];exact uZ _ _) ?_ ?_⟩
  ·rintro i x H3 zs hx gS h3;obtain⟨ra,r,rfl,eU,_,gr⟩:=hF.get' hx;refine jZ ⟨_,rfl,ra,_,rfl,.inl ⟨.of (gS _ _ gr),λt ht=>⟨⟨[_],rfl,rfl⟩,gS.trans (.upd ht),?_⟩⟩⟩;rw[gq,eU];show bI K _ _ (((cz p rs).take i++[r]).map cJ);rw[dE];exact(h3.mono (.upd ht)).append (.cons (lU (.of aQ)) .nil)
  ·rintro H3 TS gS h3 lt cX;rw[RZ,km]at h3;refine⟨lt,_,rfl,.inl ⟨.of aQ,λt ht=>q t _ TS (((sm.trans s1).trans gS).trans ((aL.upd cX).trans (.upd ht))) (.of aQ) (h3.mono ((aL.upd cX).trans (.upd ht)))⟩⟩
open Classical in
def R0(K:Frag):Sp:=λvs H Q _=>∃(p:Int)(a b:Addr)(AS:List V)(rs:LL)(r:List Int)(n:Nat),vs=[.int p,.ref a,.ref b]∧p∈cb∧bc K H a AS∧bI K H AS (rs.map cJ)∧bc K H b (r.map V.int)∧Bw.bw p n rs∧Rw p n r∧cz p rs=rs∧rs.length≤400∧n≤400∧
 ∀H',aL H H'→Q (.bl (decide (Bw.Sp p (RS rs) (fn r)))) H'
theorem R4:c8 ["p","rows","row","size"] ["p","rows","row"] (bq Ik):=dv rfl rfl rfl (by decide +kernel) rfl
theorem R5{p:Int}{n:Nat}{rs:LL}{r:List Int}(pp:p∈cb)(hR:Bw.bw p n rs)(hr:Rw p n r)(one:cz p rs=rs):(cz p (rs++[r])).length=rs.length↔Bw.Sp p (RS rs) (fn r):=by
 constructor
 ·intro h;refine Fc λhn=>?_
  have:=Z7 pp hR hr hn
  rw[one]at this;lia
 ·intro h;have e:cz p (rs++[r])=cz p rs:=vU.red pp (bw.snoc hR hr) hR ⟨λq hq=>by
   rcases(c9.mp hq)with(z|z)
   ·exact qf z
   ·rw[cR.mp z];exact h,λq hq=>qf (lG _ hq)⟩
  rw[e,one]
theorem ab1(F:bZ K "_law_spans" "_law_spans" Ik f fd)(T:Txt mg)
  (GC:bf P w K mg base bj 2 fC gQ ["p","rows","places"] (RH K)) (kC:Kp K fC) (bC:Binds K gQ ["p","rows","places"] []) (mC:Mg mg "_law_cleared" fC) :
  bf P w K mg base bj 3 f fd ["p","rows","row"] (R0 K):=by
 refine F.ok R4 (λvs H Q E h=>?_) (λbt A outer s H vs Q E hr h=>?_)
 ·obtain⟨p,a,b,AS,rs,r,n,rfl,_⟩:=h;rfl
 ·obtain⟨p,a,b,AS,rs,r,n,rfl,pp,ha,hA,hb,hR,pw,one,lr,ln,q⟩:=h;have jj:(1000:Nat)≤sizeLine:=by decide
  have eA:=fj hA;have er:(r.map V.int).length=n:=by rw[ba];exact pw.1
  refine⟨_,aX (bH (i:=3) R4.nd rfl (.inl rfl) (dO (iX K rfl) rfl T.len iY (aK (pv 2) aM))) (bg (bY (nV dM (dO (iX K rfl) rfl T.len iY (aK (bh (cA K rfl) (ck GC hr rfl mC kC bC .nil cu (aK (pv 0) (aK (aV dh (fw (yo K rfl) rfl T.list qU (aK (pv 1) aM)) (bE (aK (fw (yo K rfl) rfl T.list qU (aK (pv 2) aM)) aM))) (aK (fw (BL rfl) rfl T.list qU (aK (fw JZ rfl T.range BW (aK (pv 3) aM)) aM)) aM)))) aR (λ_ _=>rfl)) aM)) (dO (iX K rfl) rfl T.len iY (aK (pv 1) aM)) (cx _)))),?_⟩;refine⟨_,rfl,b,_,rfl,.inr hb,?_⟩;rw[er];refine⟨_,rfl,_,rfl,a,_,rfl,.inr ha,λl1 h1=>⟨_,rfl,b,_,rfl,.inr ((aL.upd h1).bo hb),λl2 h2=>⟨by show 1≤sizeLine;lia,λl3 h3=>⟨l1,l3,AS,[.ref l2],rfl,rfl,aL.upd h3 _ _ (aL.upd h2 _ _ aQ),aQ,by show AS.length+1≤sizeLine;lia,λl4 h4=>?_⟩⟩⟩⟩;have s4:=(aL.upd h1 (o:=.lst AS)).trans ((aL.upd h2 (o:=.lst (r.map V.int))).trans ((aL.upd h3 (o:=.lst [.ref l2])).trans (aL.upd h4 (o:=.lst (AS++[.ref l2])))));have g4:(upd (upd (upd (upd H l1 (.lst AS)) l2 (.lst (r.map V.int))) l3 (.lst [.ref l2])) l4 (.lst (AS++[.ref l2]))) l4=some (.lst (AS++[.ref l2])):=aQ;have R6:(upd (upd (upd (upd H l1 (.lst AS)) l2 (.lst (r.map V.int))) l3 (.lst [.ref l2])) l4 (.lst (AS++[.ref l2]))) l2=some (.lst (r.map V.int)):=aL.upd h4 _ _ (aL.upd h3 _ _ aQ);generalize upd (upd (upd (upd H l1 (.lst AS)) l2 (.lst (r.map V.int))) l3 (.lst [.ref l2])) l4 (.lst (AS++[.ref l2]))=H4 at s4 g4 R6 ⊢;refine⟨_,rfl,(n:Int),rfl,λpr uJ=>⟨pr,0,(n:Int),rfl,aQ,⟨by decide,by decide,by lia,by lia⟩,by lia,λlp uj=>?_⟩⟩;have s5:=(aL.upd uJ (o:=.lJ 0 (n:Int))).trans (aL.upd uj (o:=.lst ((List.range ((n:Int)-0).toNat).map λ(k:Nat)=>V.int (0+k))));have J0:=s4.trans s5;have hL:LA K (upd (upd H4 pr (.lJ 0 (n:Int))) lp (.lst ((List.range ((n:Int)-0).toNat).map λ(k:Nat)=>V.int (0+k)))) (AS++[.ref l2]) (rs++[r]):=by
   refine⟨by rw[bK,bK,eA];rfl,λi v r' e1 e2=>?_⟩;by_cases hi:i<AS.length
   ·rw[gy hi]at e1;rw[gy (by lia)]at e2;obtain⟨r0,ra,gH,rfl,fe⟩:=ni hA e1;rw[gH]at e2;cases e2;exact⟨ra,rfl,.inr (J0.bo fe)⟩
   ·rw[iC (by lia)]at e1;rw[iC (by lia),← eA]at e2;cases hk:i-AS.length with
    |zero=>
     rw[hk]at e1 e2;cases e1;cases e2;exact⟨l2,rfl,.inl (.of (s5 _ _ R6))⟩
    |succ k=>rw[hk]at e1;cases e1
  have R7:Bw.bw p n (rs++[r]):=bw.snoc hR pw;refine⟨p,l4,lp,AS++[.ref l2],rs++[r],n,0,n,rfl,pp,s5 _ _ g4,hL,by rw[bK];show rs.length+1≤900;lia,by lia,λq hq=>.of (R7 q hq),by lia,?_,?_⟩
  ·rw[aQ]
   have:=DZ 0 n
   rw[tF]at this;exact aj (λz=>some (HO.lst z)) this
  intro l fa ga' FS GS H6 s6 hl gl hf gf hF _ _ _;rw[D1.zy pp R7]at hF;have RZ:=hF.1;refine⟨l,_,0,.ref fa,rfl,rfl,.of gl,bu (j:=0) rfl,fa,_,rfl,.inl (.of gf),_,rfl,a,_,rfl,.inr ((J0.trans s6).bo ha),rfl,?_⟩;have e:decide (V.int (FS.length:Int)=V.int (AS.length:Int))=@decide (Bw.Sp p (RS rs) (fn r)) (Classical.propDecidable _):=by
   by_cases hs:Bw.Sp p (RS rs) (fn r)
   ·rw[@aE _ (Classical.propDecidable _) hs];refine aE (aj V.int ?_)
    have:=(R5 pp hR pw one).mpr hs
    lia
   ·rw[@ae _ (Classical.propDecidable _) hs];refine ae λz=>hs ((R5 pp hR pw one).mp ?_)
    have:=V.int.inj z
    lia
  rw[e];exact q H6 (J0.trans s6)
def fI(N:Addr→Prop)(H:Hp)(a:Addr)(l r:Nat)(aO:LL):Prop:=N a∧∃(b:Addr)(XS:List V),H a=some (.lst [.int (l:Int),.int (r:Int),.ref b])∧N b∧H b=some (.lst XS)∧LR N H XS aO
theorem fI.mono{N:Addr→Prop}{H H':Hp}{a:Addr}{l r:Nat}{aO:LL}(h:fI N H a l r aO)(e:aL H H'):fI N H' a l r aO:=by
 obtain⟨n,b,XS,g,nb,gb,hL⟩:=h;exact⟨n,b,XS,e _ _ g,nb,e _ _ gb,hL.mono e⟩
theorem fI.weak{N N':Addr→Prop}{H:Hp}{a:Addr}{l r:Nat}{aO:LL}(h:fI N H a l r aO)(k:∀x,N x→N' x):fI N' H a l r aO:=by
 obtain⟨n,b,XS,g,nb,gb,hL⟩:=h;exact⟨k _ n,b,XS,g,k _ nb,gb,hL.weak k⟩
theorem fI.wr{H:Hp}{a x:Addr}{l r:Nat}{aO:LL}{o:HO}(h:fI (·≠x) H a l r aO):fI (·≠x) (upd H x o) a l r aO:=by
 obtain⟨n,b,XS,g,nb,gb,hL⟩:=h;exact⟨n,b,XS,by rw[cy n];exact g,nb,by rw[cy nb];exact gb,hL.wr⟩
theorem fI.new{H1:Hp}{XS:List V}{l r:Nat}{aO:LL}(s:aL H H1)(hL:LR (λx=>H x=none) H1 XS aO)(hb:H1 b=none)(ha:(upd H1 b (.lst XS)) a=none) :
  aL H (upd (upd H1 b (.lst XS)) a (.lst [.int (l:Int),.int (r:Int),.ref b]))∧fI (λx=>H x=none) (upd (upd H1 b (.lst XS)) a (.lst [.int (l:Int),.int (r:Int),.ref b])) a l r aO:=
 ⟨s.trans ((aL.upd hb).trans (.upd ha)),fo (s.trans (.upd hb)) ha,b,XS,aQ,fo s hb,aL.upd ha _ _ aQ,hL.mono ((aL.upd hb).trans (.upd ha))⟩
def wR(H:Hp)(l r:Nat)(aO:LL)(Q:VK):Prop:=∀a H',aL H H'→fI (λx=>H x=none) H' a l r aO→Q (.ref a) H'
noncomputable def zS(w:Str)(n:Int):Nat×Nat×LL:=
 if w="id"∨w="times" then(1,1,[[1,n]])else if w="swap" then(2,2,[[1,0,0,1],[0,1,1,0]])else if w="copy" then(1,2,[[1,1,1]])else if w="end" then(1,0,[[1]])
 else if w="add" then(2,1,[[1,0,1],[0,1,1]])else if w="none" then(0,1,[])else if w="cup" then(0,2,[[1,1]])else(0,0,[])
def D0:Sp:=λvs H Q _=>∃(p:Int)(w:Str)(n:Int),vs=[.int p,.str w,.int n]∧wR H (zS w n).1 (zS w n).2.1 (zS w n).2.2 Q
theorem ab2:c8 ["p","word","number"] ["p","word","number"] (bq HZ):=dv rfl rfl rfl (by decide +kernel) rfl
theorem R8{l r:Nat}(q:wR H l r [] Q)(hb:H b=none)(ha:(upd H b (.lst [])) a=none):Q (.ref a) (upd (upd H b (.lst [])) a (.lst [.int (l:Int),.int (r:Int),.ref b])):=by
 obtain⟨s,t⟩:=fI.new (l:=l) (r:=r) (.refl H) LR.nil hb ha;exact q a _ s t
theorem D3{l r:Nat}{r1:List Int}(q:wR H l r [r1] Q){x:Addr}(hx:H x=none)(hb:(upd H x (.lst (r1.map V.int))) b=none)(ha:(upd (upd H x (.lst (r1.map V.int))) b (.lst [.ref x])) a=none) :
  Q (.ref a) (upd (upd (upd H x (.lst (r1.map V.int))) b (.lst [.ref x])) a (.lst [.int (l:Int),.int (r:Int),.ref b])):=by
 obtain⟨s,t⟩:=fI.new (l:=l) (r:=r) (aL.upd hx) (LR.nil.snoc (r:=r1) hx aQ) hb ha;exact q a _ s t
theorem R9{l r:Nat}{r1 r2:List Int}(q:wR H l r [r1,r2] Q){x:Addr}(hx:H x=none){y:Addr}(hy:(upd H x (.lst (r1.map V.int))) y=none)(hb:(upd (upd H x (.lst (r1.map V.int))) y (.lst (r2.map V.int))) b=none)
  {a:Addr} (ha:(upd (upd (upd H x (.lst (r1.map V.int))) y (.lst (r2.map V.int))) b (.lst [.ref x,.ref y])) a=none) :
  Q (.ref a) (upd (upd (upd (upd H x (.lst (r1.map V.int))) y (.lst (r2.map V.int))) b (.lst [.ref x,.ref y])) a (.lst [.int (l:Int),.int (r:Int),.ref b])):=by
 obtain⟨s,t⟩:=fI.new (l:=l) (r:=r) ((aL.upd hx).trans (aL.upd hy)) (((LR.nil.snoc (r:=r1) hx aQ).mono (.upd hy)).snoc (r:=r2) (fo (.upd hx) hy) aQ) hb ha;exact q a _ s t
noncomputable def D4:List Expr→Option (LL)
 | []=>some []
 | .List es _::du=>match vG es,D4 du with
  |some ns,some R=>some (ns::R)
  |_,_=>none
 |_=>none
noncomputable def Sa:Expr→Option (Int×Int×LL)
 | .List [.Constant (.int l) _ _,.Constant (.int r) _ _,.List aO _] _=>match D4 aO with
  |some R=>some (l,r,R)
  |none=>none
 |_=>none
def qo:LL→TA
 | []=>bV
 |ns::R=>aY (Hg ns) (qo R)
def sO(l r:Int)(t:TE):TE:=cS (aY (tC (.int l)) (aY (tC (.int r)) (aY t bV)))
theorem Sb{X:Cx}:∀(es:List Expr)(R:LL),D4 es=some R→PA X es (qo R)
 | [],R,h=>by cases h;exact aM
 |e::du,R,h=>by
  unfold D4 at h;split at h
  case h_1=>exact absurd h (by rename_i h1;cases h1)
  case h_3=>exact nomatch h
  case h_2 es pos rest' heq=>
   cases heq;split at h
   case h_2=>exact nomatch h
   case h_1 ns R' h1 h2=>
    cases h;exact aK (NO (NM h1)) (Sb du R' h2)
theorem uK{X:Cx}{e:Expr}{l r:Int}{R:LL}(h:Sa e=some (l,r,R)):PE X e (sO l r (cS (qo R))):=by
 unfold Sa at h;split at h
 case h_2=>exact nomatch h
 case h_1 l' i1 p1 r' i2 p2 aO p3 pos=>
  split at h
  case h_2=>exact nomatch h
  case h_1 R' h1=>
   cases h;exact bE (aK aR (aK aR (aK (bE (Sb aO _ h1)) aM)))
def rF(x:String):TT:=jx (bp oY (aW 1) (tC (.str x)))
def ab3:TS:=fK (sO 0 0 (cS (qo [])))
def ab4:TS:=cI (eG (rF "cup") (fK (sO 0 2 (cS (qo [[1,1]])))) ik) ab3
def ab5:TS:=cI (eG (rF "none") (fK (sO 0 1 (cS (qo [])))) ik) ab4
def ab6:TS:=cI (eG (rF "add") (fK (sO 2 1 (cS (qo [[1,0,1],[0,1,1]])))) ik) ab5
def ab7:TS:=cI (eG (rF "end") (fK (sO 1 0 (cS (qo [[1]])))) ik) ab6
def ab8:TS:=cI (eG (rF "copy") (fK (sO 1 2 (cS (qo [[1,1,1]])))) ik) ab7
def Sd:TS:=cI (eG (rF "swap") (fK (sO 2 2 (cS (qo [[1,0,0,1],[0,1,1,0]])))) ik) ab8
def Se:TS:=fK (cS (aY (tC (.int 1)) (aY (tC (.int 1)) (aY (cS (aY (cS (aY (tC (.int 1)) (aY (aW 2) bV))) bV)) bV))))
def Sf:TS:=cI (eG (Bc (rF "id") (rF "times")) Se ik) Sd
theorem ab9(F:bZ K "_law_box" "_law_box" HZ f fd):bf P w K mg base bj 1 f fd ["p","word","number"] D0:=by
 refine F.ok ab2 (λvs H Q E h=>?_) (λbt A outer s H vs Q E hr h=>?_)
 ·obtain⟨p,x,n,rfl,_⟩:=h;rfl
 ·obtain⟨p,x,n,rfl,q⟩:=h;refine⟨Sf,?_,?_⟩
  ·unfold Sf;refine aX ?_ ?_
   ·refine cN ?_ ?_ df
    ·refine PW.pt (nT ?_ (tM ?_))
     ·exact cC dM (pv 1) cq (cx _)
     ·exact cC dM (pv 1) cq (cx _)
    ·exact bg (bY (bE (aK aR (aK aR (aK (bE (aK (bE (aK aR (aK (pv 2) aM))) aM)) aM)))))
   refine aX ?_ ?_
   ·refine cN ?_ ?_ df
    ·exact cC dM (pv 1) cq (cx _)
    ·refine bg ?_;refine bY ?_;refine uK ?_
     kernel_rfl
   refine aX ?_ ?_
   ·refine cN ?_ ?_ df
    ·exact cC dM (pv 1) cq (cx _)
    ·refine bg ?_;refine bY ?_;refine uK ?_
     kernel_rfl
   refine aX ?_ ?_
   ·refine cN ?_ ?_ df
    ·exact cC dM (pv 1) cq (cx _)
    ·refine bg ?_;refine bY ?_;refine uK ?_
     kernel_rfl
   refine aX ?_ ?_
   ·refine cN ?_ ?_ df
    ·exact cC dM (pv 1) cq (cx _)
    ·refine bg ?_;refine bY ?_;refine uK ?_
     kernel_rfl
   refine aX ?_ ?_
   ·refine cN ?_ ?_ df
    ·exact cC dM (pv 1) cq (cx _)
    ·refine bg ?_;refine bY ?_;refine uK ?_
     kernel_rfl
   refine aX ?_ ?_
   ·refine cN ?_ ?_ df
    ·exact cC dM (pv 1) cq (cx _)
    ·refine bg ?_;refine bY ?_;refine uK ?_
     kernel_rfl
   refine bg ?_;refine bY ?_;refine uK ?_
   kernel_rfl
  have J1:∀{y:String},decide (V.str x=V.str (Str.ofString y))=decide (x=Str.ofString y):=λ{y}=>by
   by_cases h:x=Str.ofString y
   ·rw[aE h,aE (aj V.str h)]
   ·rw[ae h,ae λz=>h (V.str.inj z)]
  have step:∀{y:String}{t u:TS}{D:Ends},(x=Str.ofString y→t { D with nx:=u D } [some (.int p),some (.str x),some (.int n)] H)→(x≠Str.ofString y→u D [some (.int p),some (.str x),some (.int n)] H)→cI (eG (rF y) t ik) u D [some (.int p),some (.str x),some (.int n)] H:=λ{y t u D} h1 h2=>by
   refine⟨_,rfl,rfl,_,rfl,?_⟩;rw[J1];exact tU (λc=>h1 (aI c)) (λc=>h2 λz=>c (aE z))
  have z:∀n:Nat,n≤10→n≤sizeLine:=λn h=>fg h (by decide);unfold zS at q;refine⟨_,rfl,rfl,_,rfl,?_⟩;rw[J1];have Sh:x=Str.ofString "id"∨x=Str.ofString "times"→Se { nx:=λ_ H'=>Q .cm H',rt:=Q } [some (.int p),some (.str x),some (.int n)] H:=λc=>by
   rw[af c]at q;refine⟨_,rfl,z _ (by simp),λr1 h1=>⟨z _ (by simp),λb hb=>⟨z _ (by simp),λa ha=>?_⟩⟩⟩;exact D3 (r1:=[1,n]) q h1 hb ha
  have du:¬(x=Str.ofString "id"∨x=Str.ofString "times")→Sd { nx:=λ_ H'=>Q .cm H',rt:=Q } [some (.int p),some (.str x),some (.int n)] H:=λc0=>by
   rw[ag c0]at q;refine step (λc=>?_) (λc=>?_)
   ·rw[af c]at q;exact⟨z _ (by simp),λx hx=>⟨z _ (by simp),λy hy=>⟨z _ (by simp),λb hb=>⟨z _ (by simp),λa ha=>R9 (r1:=[1,0,0,1]) (r2:=[0,1,1,0]) q hx hy hb ha⟩⟩⟩⟩
   rw[ag c]at q;refine step (λc=>?_) (λc=>?_)
   ·rw[af c]at q;exact⟨z _ (by simp),λx hx=>⟨z _ (by simp),λb hb=>⟨z _ (by simp),λa ha=>D3 (r1:=[1,1,1]) q hx hb ha⟩⟩⟩
   rw[ag c]at q;refine step (λc=>?_) (λc=>?_)
   ·rw[af c]at q;exact⟨z _ (by simp),λx hx=>⟨z _ (by simp),λb hb=>⟨z _ (by simp),λa ha=>D3 (r1:=[1]) q hx hb ha⟩⟩⟩
   rw[ag c]at q;refine step (λc=>?_) (λc=>?_)
   ·rw[af c]at q;exact⟨z _ (by simp),λx hx=>⟨z _ (by simp),λy hy=>⟨z _ (by simp),λb hb=>⟨z _ (by simp),λa ha=>R9 (r1:=[1,0,1]) (r2:=[0,1,1]) q hx hy hb ha⟩⟩⟩⟩
   rw[ag c]at q;refine step (λc=>?_) (λc=>?_)
   ·rw[af c]at q;exact⟨z _ (by simp),λb hb=>⟨z _ (by simp),λa ha=>R8 q hb ha⟩⟩
   rw[ag c]at q;refine step (λc=>?_) (λc=>?_)
   ·rw[af c]at q;exact⟨z _ (by simp),λx hx=>⟨z _ (by simp),λb hb=>⟨z _ (by simp),λa ha=>D3 (r1:=[1,1]) q hx hb ha⟩⟩⟩
   rw[ag c]at q;exact⟨z _ (by simp),λb hb=>⟨z _ (by simp),λa ha=>R8 q hb ha⟩⟩
  refine tU (λc=>dy (Sh (.inl (aI c)))) (λc=>?_);refine⟨_,rfl,rfl,_,rfl,?_⟩;rw[J1];exact tU (λc2=>Sh (.inr (aI c2))) (λc2=>du λz=>z.elim (λy=>c (aE y)) λy=>c2 (aE y))
def oF(te:TE)(σ:St)(H:Hp)(ns:List Int):Prop:=∀H',aL H H'→∀R:VK,(∀a eV,aL H' eV→H' a=none→eV a=some (.lst (ns.map V.int))→R (.ref a) eV)→te σ H' R
theorem qp{K:Frag}{j k:Nat}{v:Addr}{x y z:V}{σ:St}{R:St→Hp→Prop}(h:di K H v [x,y,z])(q:R (((σ.set i (some x)).set j (some y)).set k (some z)) H):tX K 3 (iE (bN i) (iE (bN j) (iE (bN k) rQ))) (.ref v) σ H R:=
 ⟨v,_,rfl,h,rfl,_,_,rfl,_,_,rfl,_,_,rfl,rfl,q⟩
theorem D5{xs:List V}{k:Nat}(h:k≤xs.length):fh xs none (some (k:Int))=xs.take k:=by
 unfold fh;rw[HT.vo,HT.xU,List.drop_zero,Nat.sub_zero,Nat.min_eq_left h]
theorem J2{xs:List V}{k:Nat}(h:k≤xs.length):fh xs (some (k:Int)) none=xs.drop k:=by
 unfold fh;rw[HT.vo,HT.xU,Nat.min_eq_left h,lH (by simp)]
section
variable{K:Frag}{σ:St}{H:Hp}
theorem aca{ta:TE}{i j:Int}(h1:IE ta σ H i)(h2:IE tb σ H j):IE (bp (eS λi j=>.int (i+j)) ta tb) σ H (i+j):=λH' s _ q=>h1 H' s _ (h2 H' s _ ⟨i,j,rfl,rfl,q⟩)
theorem qq{ta:TE}{ms:List Int}(h1:oF ta σ H ns)(h2:oF tb σ H ms)(hl:ns.length+ms.length≤10000):oF (bp eh ta tb) σ H (ns++ms):=λH' s R q=>by
 have z:(10000:Nat)≤sizeLine:=by decide
 refine h1 H' s _ λa H1 s1 ha ga=>h2 H1 (s.trans s1) _ λb H2 s2 hb gb=>?_;refine⟨a,b,_,_,rfl,rfl,s2 _ _ ga,gb,by simp only[ba];lia,λc hc=>?_⟩;refine q c _ (s1.trans (s2.trans (.upd hc))) (fo (s1.trans s2) hc) ?_;rw[aQ,dE]
theorem wU{k:Nat}(h:IE tk σ H (k:Int))(hk:k≤10000):oF (bp vt (cS (aY (tC (.int 0)) bV)) tk) σ H (List.replicate k 0):=λH' s R q=>by
 have z:(10000:Nat)≤sizeLine:=by decide
 refine⟨by show 1≤sizeLine;decide,λa ha=>?_⟩;have sa:=aL.upd (o:=.lst [.int 0]) ha;refine h _ (s.trans sa) _ ⟨a,(k:Int),[.int 0],rfl,rfl,aQ,by lia,by lia,by show 1*(k:Int).toNat≤sizeLine;lia,λc hc=>q c _ (sa.trans (.upd hc)) (fo sa hc) ?_⟩;rw[aQ,show(k:Int).toNat=k by lia,zE,xv]
theorem zT{k:Nat}(h:σ[i]?=some (some (.ref a)))(g:H a=some (.lst (ns.map V.int)))(hk:IE tk σ H (k:Int))(hl:k≤ns.length):oF (iG (rY K) (aW i) jd (hU tk)) σ H (ns.take k):=λH' s R q=>by
 refine⟨_,h,hk _ s _ ⟨(k:Int),rfl,a,_,rfl,.of (s _ _ g),λp hp=>q p _ (.upd hp) hp ?_⟩⟩;rw[aQ,D5 (by rw[ba];exact hl),List.map_take]
theorem zU{k:Nat}(h:σ[i]?=some (some (.ref a)))(g:H a=some (.lst (ns.map V.int)))(hk:IE tk σ H (k:Int))(hl:k≤ns.length):oF (iG (rY K) (aW i) (hU tk) jd) σ H (ns.drop k):=λH' s R q=>by
 refine⟨_,h,hk _ s _ ⟨(k:Int),rfl,a,_,rfl,.of (s _ _ g),λp hp=>q p _ (.upd hp) hp ?_⟩⟩;rw[aQ,J2 (by rw[ba];exact hl),List.map_drop]
end
theorem J3{te:TE}{D:Ends}{σ:St}{H0:Hp}{ll:Addr}{ZS:List V}{R:LL}(hi:σ[i]?=some (some (.ref ll)))(gl:H ll=some (.lst ZS))(nc:H0 ll=none)(s:aL H0 H)(hR:LR (λx=>x≠ll∧H0 x=none) H ZS R)(hz:R.length≤10000)(h:oF te σ H ns)
  (k:∀H' pJ,aL H0 H'→H' ll=some (.lst pJ)→LR (λx=>x≠ll∧H0 x=none) H' pJ (R++[ns])→D.nx σ H'):Bd (F0 K "list" Gd (aW i) (aY te bV)) D σ H:=by
 have z:(10000:Nat)<sizeLine:=by decide
 refine⟨_,hi,.inl ⟨rfl,_,di.of gl⟩,h H (.refl _) _ λa H1 s1 ha ga=>⟨ll,ZS,.ref a,rfl,rfl,s1 _ _ gl,by rw[hR.1];lia,?_⟩⟩;have ne:a≠ll:=λe=>by rw[e,gl]at ha;cases ha
 refine k _ _ ((s.trans s1).write nc) aQ ?_;refine⟨by simp[hR.1],λj v r e1 e2=>?_⟩;obtain⟨x,e,nx,gx⟩:=((hR.mono s1).snoc (a:=a) (r:=ns) ⟨ne,fo s ha⟩ ga).2 j v r e1 e2;exact⟨x,e,nx,by rw[cy nx.1];exact gx⟩
def J4:Sp:=λvs H Q _=>∃(a b:Addr)(l r l' r':Nat)(A B:LL),vs=[.ref a,.ref b]∧fI (λ_=>True) H a l r A∧fI (λ_=>True) H b l' r' B∧(∀q∈A,q.length=l+r)∧(∀q∈B,q.length=l'+r')∧A.length≤400∧B.length≤400∧l+r≤400∧l'+r'≤400∧
 wR H (l+l') (r+r') (A.map (D1.i5 l l' r')++B.map (D1.jJ l r l')) Q
theorem qr:c8 ["one","other","rows","left","right","some","into","out","more","row"] ["one","other"] (bq Ia):=dv rfl rfl rfl (by decide +kernel) rfl
theorem acb(F:bZ K "_law_beside" "_law_beside" Ia f fd):bf P w K mg base bj 1 f fd ["one","other"] J4:=by
 refine F.ok qr (λvs H Q E h=>?_) (λbt A outer s H vs Q E hr h=>?_)
 ·obtain⟨a,b,l,r,l',r',A,B,rfl,_⟩:=h;rfl
 ·obtain⟨a,b,l,r,l',r',RA,RB,rfl,⟨_,a1,AS,ga,_,zV,hA⟩,⟨_,b1,BS,gb,_,pK,hB⟩,lA,lB,nA,nB,wA,wB,q⟩:=h;have jj:(1000:Nat)≤sizeLine:=by decide
  refine⟨_,aX (bH (i:=2) qr.nd rfl (.inl rfl) (bE aM)) (aX (lM (pv 0) (o7 rfl (dJ (cj (i:=3) qr.nd rfl (.inl rfl)) (dJ (cj (i:=4) qr.nd rfl (.inl rfl)) (dJ (cj (i:=5) qr.nd rfl (.inl rfl)) jT))))) (aX (lM (pv 1) (o7 rfl (dJ (cj (i:=6) qr.nd rfl (.inl rfl)) (dJ (cj (i:=7) qr.nd rfl (.inl rfl)) (dJ (cj (i:=8) qr.nd rfl (.inl rfl)) jT))))) (aX (jw jR rfl (ir K rfl (pv 5)) (cj (i:=9) qr.nd rfl (.inl rfl)) (bg (jv (p8 pY tH tI qM (pv 2) (aK (aV dh (aV dh (aV dh (dB (fH K rfl) (pv 9) dZ (cZ (pv 3))) (aV ky (bE (aK aR aM)) (pv 6))) (dB (fH K rfl) (pv 9) (cZ (pv 3)) dZ)) (aV ky (bE (aK aR aM)) (pv 7))) aM))))) (aX (jw jR rfl (ir K rfl (pv 8)) (cj (i:=9) qr.nd rfl (.inl rfl)) (bg (jv (p8 pY tH tI qM (pv 2) (aK (aV dh (aV dh (aV dh (aV ky (bE (aK aR aM)) (pv 3)) (dB (fH K rfl) (pv 9) dZ (cZ (pv 6)))) (aV ky (bE (aK aR aM)) (pv 4))) (dB (fH K rfl) (pv 9) (cZ (pv 6)) dZ)) aM))))) (bg (bY (bE (aK (aV eB (pv 3) (pv 6)) (aK (aV eB (pv 4) (pv 7)) (aK (pv 2) aM)))))))))),?_⟩;refine⟨by decide,λlr rj=>?_⟩;have s0:aL H (upd H lr (.lst [])):=.upd rj;have g0:(upd H lr (.lst [])) lr=some (.lst []):=aQ;generalize upd H lr (.lst [])=H0 at s0 g0 ⊢;refine⟨_,rfl,qp (.of (s0 _ _ ga)) ⟨_,rfl,qp (.of (s0 _ _ gb)) ?_⟩⟩;refine⟨_,rfl,a1,rfl,⟨_,.of (s0 _ _ zV)⟩,vm (xs:=AS) (λi σ H'=>aL H H'∧∃ZS s9,σ=[some (.ref a),some (.ref b),some (.ref lr),some (.int (l:Int)),some (.int (r:Int)),some (.ref a1),some (.int (l':Int)),some (.int (r':Int)),some (.ref b1),s9]∧H' lr=some (.lst ZS)∧LR (λx=>x≠lr∧H x=none) H' ZS ((RA.take i).map (D1.i5 l l' r'))) ⟨s0,[],none,rfl,g0,LR.nil⟩ (λi σ H' _ ⟨sm,_⟩=>.of (sm _ _ zV)) ?_ ?_⟩
  ·rintro i x σ H1 hx ⟨sm,ZS,s9,rfl,g,hZ⟩;obtain⟨ra,row,rfl,gH,_,gr⟩:=hA.get' hx;have hw:=lA row (da gH);have sP:=sm _ _ gr;dsimp only[bN];refine J3 (i:=2) (ns:=D1.i5 l l' r' row) rfl g rj sm hZ (by rw[ba,cH];lia) ?_ ?_
   ·refine qq (qq (qq (zT (a:=ra) (ns:=row) rfl sP (jK rfl) (by lia)) (wU (jK rfl) (by lia)) ?_) (zU (a:=ra) (ns:=row) rfl sP (jK rfl) (by lia)) ?_) (wU (jK rfl) (by lia)) ?_;all_goals simp only[bK,cH,dH,dq]
    all_goals lia
   ·intro H' pJ gR g' nv;refine⟨gR,pJ,_,rfl,g',?_⟩;rw[gq,gH];show LR _ H' pJ ((RA.take i++[row]).map _);rw[dE];exact nv
  rintro σ H1 ⟨sm,ZS,s9,rfl,g,hZ⟩;rw[hA.1,km]at hZ;refine⟨_,rfl,b1,rfl,⟨_,.of (sm _ _ pK)⟩,vm (xs:=BS) (λi σ H'=>aL H H'∧∃ZS s9,σ=[some (.ref a),some (.ref b),some (.ref lr),some (.int (l:Int)),some (.int (r:Int)),some (.ref a1),some (.int (l':Int)),some (.int (r':Int)),some (.ref b1),s9]∧H' lr=some (.lst ZS)∧LR (λx=>x≠lr∧H x=none) H' ZS (RA.map (D1.i5 l l' r')++(RB.take i).map (D1.jJ l r l'))) ⟨sm,ZS,s9,rfl,g,by rw[List.take_zero,List.map_nil,iB];exact hZ⟩ (λi σ H' _ ⟨sm,_⟩=>.of (sm _ _ pK)) ?_ ?_⟩
  ·clear hZ g ZS s9 sm H1;rintro i x σ H1 hx ⟨sm,ZS,s9,rfl,g,hZ⟩;obtain⟨ra,row,rfl,gH,_,gr⟩:=hB.get' hx;have hw:=lB row (da gH);have sP:=sm _ _ gr;dsimp only[bN];refine J3 (i:=2) (ns:=D1.jJ l r l' row) rfl g rj sm hZ (by rw[bK,ba,ba,cH];lia) ?_ ?_
   ·refine qq (qq (qq (wU (jK rfl) (by lia)) (zT (a:=ra) (ns:=row) rfl sP (jK rfl) (by lia)) ?_) (wU (jK rfl) (by lia)) ?_) (zU (a:=ra) (ns:=row) rfl sP (jK rfl) (by lia)) ?_;all_goals simp only[bK,cH,dH,dq]
    all_goals lia
   ·intro H' pJ gR g' nv;refine⟨gR,pJ,_,rfl,g',?_⟩;rw[gq,gH];show LR _ H' pJ (_++(RB.take i++[row]).map _);rw[dE,← i9];exact nv
  clear hZ g ZS s9 sm H1;rintro σ H1 ⟨sm,ZS,s9,rfl,g,hZ⟩;rw[hB.1,km]at hZ;refine⟨_,rfl,_,rfl,_,_,rfl,rfl,_,rfl,_,rfl,_,_,rfl,rfl,_,rfl,by show 3≤sizeLine;decide,λt ht=>?_⟩;refine q t _ (sm.trans (.upd ht)) ⟨fo sm ht,lr,ZS,?_,rj,aL.upd ht _ _ g,(hZ.mono (.upd ht)).weak λ_ z=>z.2⟩;rw[aQ,tJ,tJ]
theorem nw1:(["row","right"]:List Str).Nodup:=by decide +kernel
theorem nw2:(["number"]:List Str).Nodup:=by decide +kernel
theorem nw3:(["row","amid","left"]:List Str).Nodup:=by decide +kernel
section
variable{K:Frag}{σ:St}{H:Hp}
theorem acd{ms:List Int}(h:σ[i]?=some (some (.ref a)))(g:H a=some (.lst (ns.map V.int)))(h2:oF tb σ H ms)(hl:ns.length+ms.length≤10000):oF (bp eh (aW i) tb) σ H (ns++ms):=λH' s R q=>by
 have z:(10000:Nat)≤sizeLine:=by decide
 refine⟨_,h,h2 H' s _ λb H2 s2 hb gb=>?_⟩;refine⟨a,b,_,_,rfl,rfl,s2 _ _ (s _ _ g),gb,by simp only[ba];lia,λc hc=>?_⟩;refine q c _ (s2.trans (.upd hc)) (fo s2 hc) ?_;rw[aQ,dE]
theorem ace{tl:TE}(h:oF tl σ H ns)(hl:ns.length≤10000):oF (p9 (Bf K tl) 1 [] (bN 0) kH (bp (eS λi j=>.int (i-j)) (tC (.int 0)) (aW 0))) σ H (ns.map λx=>0-x):=λH' s R q=>by
 have z:(10000:Nat)≤sizeLine:=by decide
 refine h H' s _ λa H1 s1 ha ga=>⟨a,rfl,⟨_,.of ga⟩,o6 (cp:=[]) (λj H' zs=>zs=((ns.take j).map λx=>0-x).map V.int) (.of ga) (by rw[ba];lia) rfl (λj H' zs e=>by rw[e,ba,ba];exact uZ _ _) ?_ ?_⟩
 ·rintro j y eV zs hy gR rfl;rw[eE]at hy;cases f1:ns[j]? with
  |none=>rw[f1]at hy;cases hy
  |some y'=>
   rw[f1]at hy;cases hy;refine jZ ⟨_,rfl,_,_,rfl,rfl,⟨[_],rfl,rfl⟩,gR,?_⟩;rw[gq,f1];simp
 ·rintro H2 zs sm rfl lh sr;rw[ba,km];exact q lh _ (s1.trans (sm.trans (.upd sr))) (fo (s1.trans sm) sr) aQ
end
theorem J5{la:Addr}{LS:List V}{L:LL}{g:List Int→List Int}{N:Addr→Prop}{te:TE}{cp:St}(gl:H la=some (.lst LS))(hL:LR N H LS L)(hz:L.length≤1000)
  (za:∀(x:Addr)(r:List Int)(H1:Hp),r∈L→aL H H1→H1 x=some (.lst (r.map V.int))→oF te (some (.ref x)::cp) H1 (g r))
  (done:∀H' MS,aL H H'→LR (λa=>H a=none) H' MS (L.map g)→∀l,H' l=none→Q (.ref l) (upd H' l (.lst MS))) :
  ∃W:Nat→Nat→St→Hp→List V→Prop,(∃m,W 0 m (List.replicate 1 none++cp) H [])∧kI (qI K la) (bN 0) kH te Q W:=by
 have jj:(1000:Nat)≤sizeLine:=by decide
 have eL:=hL.1;refine o6 (xs:=LS) (cp:=cp) (λi H' zs=>LR (λa=>H a=none) H' zs ((L.take i).map g)) (.of gl) (by lia) LR.nil
  (λi H' zs h=>by rw[h.1,ba];exact uZ _ _) ?_ ?_
 ·rintro i x H' zs fb sm h';obtain⟨a,r,rfl,hr,_,ga⟩:=hL.get' fb;refine jZ (za a r H' (da hr) sm (sm _ _ ga) H' (.refl _) _ λl H2 s2 wF gl'=>⟨⟨[_],rfl,rfl⟩,sm.trans s2,?_⟩);rw[gq,hr];show LR _ H2 _ ((L.take i++[r]).map g);rw[dE];exact(h'.mono s2).snoc (fo sm wF) gl'
 ·rintro H' zs sm h' l hl;rw[hL.1,km]at h';exact done H' zs sm h' l hl
def J6:Sp:=λvs H Q _=>∃(p:Int)(a b:Addr)(l m r:Nat)(A B:LL),vs=[.int p,.ref a,.ref b]∧p∈cb∧fI (λ_=>True) H a l m A∧fI (λ_=>True) H b m r B∧Bw.bw p (l+m) A∧Bw.bw p (m+r) B∧A.length≤400∧B.length≤400∧l+m≤400∧m+r≤400∧
 wR H l r (D1.zB p l m r A B) Q
noncomputable abbrev J7:List Str:=["p","one","other","left","amid","rows","right","row","some","spare","thin"]
theorem rG:c8 ["p","one","other","left","amid","rows","right","row","some","spare","thin"] ["p","one","other"] (bq vX):=dv rfl rfl rfl (by decide +kernel) rfl
theorem acf(F:bZ K "_law_then" "_law_then" vX f fd)(T:Txt mg)
  (GC:bf P w K mg base bj 2 fC gQ ["p","rows","places"] (JT K)) (kC:Kp K fC) (bC:Binds K gQ ["p","rows","places"] []) (mC:Mg mg "_law_cleared" fC) :
  bf P w K mg base bj 3 f fd ["p","one","other"] J6:=by
 refine F.ok rG (λvs H Q E h=>?_) (λbt A outer s H vs Q E hr h=>?_)
 ·obtain⟨p,a,b,l,m,r,A,B,rfl,_⟩:=h;rfl
 ·obtain⟨p,a,b,l,m,r,RA,RB,rfl,pp,⟨_,a1,AS,ga,_,zV,hA⟩,⟨_,b1,BS,gb,_,pK,hB⟩,lA,lB,nA,nB,wA,wB,q⟩:=h;have jj:(1000:Nat)≤sizeLine:=by decide
  have p0:0<p:=by have:=eI p pp;lia
  refine⟨_,aX (lM (pv 1) (o7 rfl (dJ (cj (i:=3) rG.nd rfl (Or.inr rfl)) (dJ (cj (i:=4) rG.nd rfl (Or.inr rfl)) (dJ (cj (i:=5) rG.nd rfl (.inl rfl)) jT))))) (aX (bH (i:=6) rG.nd rfl (Or.inr rfl) (bh (cA K rfl) (pv 2) aR (λ_ _=>rfl))) (aX (jX (i:=8) (N:=["row","right"]) (own:=1) (caps:=[6]) rfl rG.nd rfl rfl (ir K rfl (pv 5)) (show dR J7 (bq vX) ["row","right"] 1 [6] _ from .mk' (by decide +kernel)) (λ_ _ _ _ _=>cj (i:=0) nw1 rfl (.inl rfl)) (λ_ _ _ _ _=>gz) (λ_ _ _ _ _=>aV dh (pv 0) (aV ky (bE (aK aR aM)) (pv 1)))) (aX (jw jR rfl (ir K rfl (bh (cA K rfl) (pv 2) aR (λ_ _=>rfl))) (cj (i:=7) rG.nd rfl (.inl rfl)) (bg (jv (p8 pY tH tI qM (pv 8) (aK (aV dh (aV dh (aV ky (bE (aK aR aM)) (pv 3)) (mY (N:=["number"]) (own:=1) (caps:=[]) rfl (ir K rfl (dB (fH K rfl) (pv 7) dZ (cZ (pv 4)))) (show dR J7 (bq vX) ["number"] 1 [] _ from .mk' (by decide +kernel)) (λ_ _ _ _ _=>cj (i:=0) nw2 rfl (.inl rfl)) (λ_ _ _ _ _=>gz) (λ_ _ _ _ _=>aV jU aR (pv 0)))) (dB (fH K rfl) (pv 7) (cZ (pv 4)) dZ)) aM))))) (aX (bH (i:=9) rG.nd rfl (.inl rfl) (bh (cA K rfl) (ck GC hr rfl mC kC bC .nil cu (aK (pv 0) (aK (pv 8) (aK (fw (BL rfl) rfl T.list qU (aK (fw Yi rfl T.range BW (aK (pv 3) (aK (aV eB (pv 3) (pv 4)) aM))) aM)) aM)))) aR (λ_ _=>rfl))) (aX (jX (i:=10) (N:=["row","amid","left"]) (own:=1) (caps:=[4,3]) rfl rG.nd rfl rfl (ir K rfl (pv 9)) (show dR J7 (bq vX) ["row","amid","left"] 1 [4,3] _ from .mk' (by decide +kernel)) (λ_ _ _ _ _=>cj (i:=0) nw3 rfl (.inl rfl)) (λ_ _ _ _ _=>gz) (λ_ _ _ _ _=>aV dh (dB (fH K rfl) (pv 0) dZ (cZ (pv 2))) (dB (fH K rfl) (pv 0) (cZ (aV eB (pv 2) (pv 1))) dZ))) (bg (bY (bE (aK (pv 3) (aK (pv 6) (aK (bh (cA K rfl) (ck GC hr rfl mC kC bC .nil cu (aK (pv 0) (aK (pv 10) (aK (fw (BL rfl) rfl T.list qU (aK (fw JZ rfl T.range BW (aK (aV eB (pv 3) (pv 6)) aM)) aM)) aM)))) aR (λ_ _=>rfl)) aM))))))))))),?_⟩
  refine⟨_,rfl,qp (.of ga) ⟨_,rfl,b,_,1,.int (r:Int),rfl,rfl,.of gb,bu (j:=1) rfl,?_⟩⟩;refine⟨_,rfl,a1,rfl,⟨_,.of zV⟩,J5 (g:=D1.nE r) (cp:=[some (.int (r:Int))]) zV hA (by lia) (λx row H1 gI s1 gx=>?_) ?_⟩
  ·have:=(lA row gI).1
   refine acd (a:=x) (ns:=row) (ms:=List.replicate r 0) rfl gx (wU (jK rfl) (by lia)) ?_;rw[dq];lia
  rintro H1 MS s1 hM ls iQ;have s2:aL H (upd H1 ls (.lst MS)):=s1.trans (.upd iQ);have g2:(upd H1 ls (.lst MS)) ls=some (.lst MS):=aQ;have lsH:H ls=none:=fo s1 iQ;have D6:LR (λx=>x≠ls∧H x=none) (upd H1 ls (.lst MS)) MS (RA.map (D1.nE r)):=⟨hM.1,λi v q e1 e2=>by
   obtain⟨x,e,hx,gx⟩:=hM.2 i v q e1 e2;have ne:x≠ls:=λz=>by rw[z,iQ]at gx;cases gx
   exact⟨x,e,⟨ne,hx⟩,by rw[cy ne];exact gx⟩⟩
  generalize upd H1 ls (.lst MS)=H2 at s2 g2 D6 ⊢;refine⟨_,rfl,b,_,2,.ref b1,rfl,rfl,.of (s2 _ _ gb),bu (j:=2) rfl,b1,rfl,⟨_,.of (s2 _ _ pK)⟩,vm (xs:=BS) (λi σ H'=>aL H H'∧∃ZS s7,σ=[some (.int p),some (.ref a),some (.ref b),some (.int (l:Int)),some (.int (m:Int)),some (.ref a1),some (.int (r:Int)),s7,some (.ref ls),none,none]∧H' ls=some (.lst ZS)∧LR (λx=>x≠ls∧H x=none) H' ZS (RA.map (D1.nE r)++(RB.take i).map (D1.oC l m))) ⟨s2,MS,none,rfl,g2,by rw[List.take_zero,List.map_nil,iB];exact D6⟩ (λi σ H' _ ⟨sm,_⟩=>.of (sm _ _ pK)) ?_ ?_⟩
  ·clear hM D6 g2 s2 s1 iQ;rintro i x σ H1 hx ⟨sm,ZS,s9,rfl,g,hZ⟩;obtain⟨ra,row,rfl,gH,_,gr⟩:=hB.get' hx;have hw:=(lB row (da gH)).1;have sP:=sm _ _ gr;dsimp only[bN];refine J3 (i:=8) (ns:=D1.oC l m row) rfl g lsH sm hZ (by rw[bK,ba,ba,cH];lia) ?_ ?_
   ·refine qq (qq (wU (jK rfl) (by lia)) (ace (zT (a:=ra) (ns:=row) rfl sP (jK rfl) (by lia)) ?_) ?_) (zU (a:=ra) (ns:=row) rfl sP (jK rfl) (by lia)) ?_;all_goals simp only[bK,cH,dH,dq,ba]
    all_goals lia
   ·intro H' pJ gR g' nv;refine⟨gR,pJ,_,rfl,g',?_⟩;rw[gq,gH];show LR _ H' pJ (_++(RB.take i++[row]).map _);rw[dE,← i9];exact nv
  clear hM D6 g2 s2 s1 iQ;rintro σ H3 ⟨sm,ZS,s7,rfl,g,hZ⟩;rw[hB.1,km]at hZ;have hZ:LR (λx=>x≠ls∧H x=none) H3 ZS (D1.jn l m r RA RB):=hZ;have S0:=D1.DJ p0 lA lB;have S1:=D1.DF pp S0 m;have sl:(D1.jn l m r RA RB).length≤800:=by
   unfold D1.jn;rw[bK,ba,ba];lia
  have nr:=(JU pp (lo:=l) (λq hq=>(⟨S0.len q hq,S0.near q hq⟩:Rn p (l+m+r) q)) m).2.2.2;have Si:=D1.wN pp lA lB;have ad4:(D1.zB p l m r RA RB).length≤l+r:=(D1.zx pp Si (l+r) (bX _)).len (bX _);refine⟨_,rfl,_,rfl,_,rfl,_,rfl,_,rfl,_,_,rfl,rfl,_,_,rfl,λpr uJ=>⟨pr,_,_,rfl,aQ,⟨by lia,by lia,by lia,by lia⟩,by lia,λlp uj=>?_⟩⟩;have s4:=(aL.upd uJ (o:=.lJ (l:Int) ((l:Int)+(m:Int)))).trans (aL.upd uj (o:=.lst ((List.range ((l:Int)+(m:Int)-(l:Int)).toNat).map λ(k:Nat)=>V.int ((l:Int)+k))));refine⟨p,ls,lp,ZS,D1.jn l m r RA RB,l+m+r,l,m,rfl,pp,s4 _ _ g,(hZ.mono s4).weak λ_ _=>trivial,by lia,by lia,λq hq=>⟨S0.len q hq,S0.near q hq⟩,by lia,?_,?_⟩
  ·rw[aQ]
   have:=DZ l m
   rw[tJ]at this;exact aj (λz=>some (HO.lst z)) this
  intro t1 f1 sp FS GS H4 s5 IX gt1 _ _ _ iW Sj hG;refine⟨t1,_,1,.ref sp,rfl,rfl,.of gt1,bu (j:=1) rfl,?_⟩;have s6:=(sm.trans s4).trans s5;refine⟨_,rfl,sp,rfl,⟨_,.of Sj⟩,J5 (g:=D1.wM l m) (cp:=[some (.int (m:Int)),some (.int (l:Int))]) Sj hG (by lia) (λx row H1 gI s1 gx=>?_) ?_⟩
  ·have hw:=S1.len row gI;refine qq (zT (a:=x) (ns:=row) rfl gx (jK rfl) (by lia)) (zU (a:=x) (ns:=row) (k:=l+m) rfl gx ?_ (by lia)) ?_
   ·rw[tJ];exact aca (jK rfl) (jK rfl)
   ·simp only[cH,dH];lia
  rintro H5 TS s7 hT lt cX;have s8:aL H (upd H5 lt (.lst TS)):=(s6.trans s7).trans (.upd cX);have g8:(upd H5 lt (.lst TS)) lt=some (.lst TS):=aQ;have D7:=hT.mono (aL.upd cX (o:=.lst TS));generalize upd H5 lt (.lst TS)=H6 at s8 g8 D7 ⊢;have D7:LR (λa=>H4 a=none) H6 TS (D1.nG p l m r RA RB):=D7;have thl:(D1.nG p l m r RA RB).length≤800:=by
   unfold D1.nG;rw[ba];lia
  refine⟨_,rfl,_,rfl,_,rfl,_,rfl,_,rfl,_,rfl,_,_,rfl,rfl,_,rfl,λpr uJ=>⟨pr,_,_,rfl,aQ,⟨by decide,by decide,by lia,by lia⟩,by lia,λlp uj=>?_⟩⟩;have s9:=(aL.upd uJ (o:=.lJ 0 ((l:Int)+(r:Int)))).trans (aL.upd uj (o:=.lst ((List.range ((l:Int)+(r:Int)-0).toNat).map λ(k:Nat)=>V.int (0+k))));refine⟨p,lt,lp,TS,D1.nG p l m r RA RB,l+r,0,l+r,rfl,pp,s9 _ _ g8,(D7.mono s9).weak λ_ _=>trivial,by lia,by lia,λq hq=>.of (Si q hq),by lia,?_,?_⟩
  ·rw[aQ]
   have:=DZ 0 (l+r)
   rw[tF,tJ]at this;exact aj (λz=>some (HO.lst z)) this
  intro t2 f2 sp2 FS2 GS2 H7 BE qg gt2 jk D8 zL _ _ _;have J8:=s8.trans s9;refine⟨t2,_,0,.ref f2,rfl,rfl,.of gt2,bu (j:=0) rfl,by show 3≤sizeLine;decide,λt ht=>?_⟩;have s12:=J8.trans BE;exact q t _ (s12.trans (.upd ht)) ⟨fo s12 ht,f2,FS2,aQ,fo J8 jk,aL.upd ht _ _ D8,(zL.mono (.upd ht)).weak λx z=>fo J8 z⟩
end S21
namespace L2
open PySem PySem.Spec PyProof.Rows
variable{C ea:Addr}{H:Hp}{M:Model}{b:Bool}{h:Heap}{s:Shared}
theorem ek.obj{P:Program}{w:World}{a:Addr}{o:HO}(x:ek P w H h a o):∃u,h.get? a=some u:=by
 cases o with
 |lst xs=>exact let ⟨_,_,_,_,e⟩:=x;⟨_,e⟩
 |tup xs=>exact let ⟨_,_,_,u,e,_⟩:=x;⟨u,e⟩
 |dK aU=>exact let ⟨_,_,_,_,u,_,_,e,_⟩:=x;⟨u,e⟩
 |dT aU=>exact let ⟨_,_,_,_,u,_,_,e,_⟩:=x;⟨u,e⟩
 |set S n=>exact let ⟨u,_,_,_,e,_⟩:=x;⟨u,e⟩
 |ins C dx fs=>exact let ⟨_,_,_,e,_⟩:=x;⟨_,e⟩
 |own y=>exact x
 |xd fs=>exact let ⟨_,⟨u,_,_,e,_⟩,_⟩:=x;⟨u,e⟩
 |lJ lo hi=>exact let ⟨_,_,_,e⟩:=x;⟨_,e⟩
 |ja ob u=>exact⟨_,x.1⟩
 |e9 ps=>exact⟨_,x⟩
 |met f y=>exact⟨_,x⟩
 |ext φ=>exact x.2.1
noncomputable def mn(C a:Addr):HO:=.ext λh=>∃o,h.get? a=some o∧o.cls=.ref C
inductive i6(P:Program)(w:World)(C:Addr)(outer:List Env)(H:Hp)(s:Shared)(E:XK)(e:Value)(s':Shared):Prop where
 |mk (ea:Addr) (B:Heap) (a0:Value) (H':Hp) (q0:e=.ref ea) (q1:s'.os=s.os) (q2:AllBare s'.gens) (q3:Un (dQ outer) [] H H' s.heap s'.heap) (q4:dI P w H' s'.heap)
   (q5:Heap.FlyingW B outer ea (.ref C) a0 s'.heap) (q6:∀b u,H' b=some u→∃o,B.get? b=some o)
   (q7:∀b o,s.heap.get? b=some o→b ∉ dQ outer→∃o',B.get? b=some o'∧(H b=none→o'=o)) (q8:E (.ref C) none H'):i6 P w C outer H s E e s'
section
variable{P:Program}{w:World}{fs xy:List Addr}{H H1:Hp}{h h1 h2 B:Heap}
theorem Un.fY(u:Un xy [] H H1 h h1)(k:B.StaysIn h2)(q7:∀b o,h.get? b=some o→b ∉ fs→∃o',B.get? b=some o'∧(H b=none→o'=o))
  (sl:∀b o,b∈fs→h.get? b=some o→∃z,h2.get? b=some { o with slots:=z }):Un fs [] H H1 h h2 where
 keep:=λb o q n hb _=>let ⟨o',e,z⟩:=q7 b o q hb;k b o (z n▸e)
 slot:=λb o q _ hb _=>sl b o hb q
 free:=u.free
 there:=λb o q _=>by
  by_cases hb:b∈fs
  ·exact let ⟨_,e⟩:=sl b o hb q;⟨_,e⟩
  ·exact let ⟨o',e,_⟩:=q7 b o q hb;⟨o',k b o' e⟩
 iS:=u.iS
 iD:=u.iD
 iT:=u.iT
theorem dI.fY(x:dI P w H h1)(q6:∀b u,H b=some u→∃o,B.get? b=some o)(k1:B.StaysIn h1)(k2:B.StaysIn h2):dI P w H h2:=λa o e=>
 (x a o e).jt (λb u hb q=>by
  have t:∃v,B.get? b=some v:=by
   rcases hb with rfl|hb
   ·exact q6 _ _ e
   ·exact q6 _ _ hb
  obtain⟨v,hv⟩:=t;have z:=k1 b v hv;rw[q]at z;cases z;exact k2 b _ hv) (λ_ q=>q) λ_ _ q=>q
end
theorem acg{l:List Env}:∀env∈l,∀a,env.frame=some a→a∈dQ l:=λenv he a ha=>List.mem_filterMap.mpr ⟨env,he,ha⟩
section
variable{P:Program}{w:World}{K:Frag}{mg:Str→Option Value}{base:Heap}{N:List Str}{qual:Str}{scope:Scope}{f C:Addr}{cd:Value}{A:Around}{outer:List Env}{s:Shared}{H:Hp}{E:XK}
theorem Sk{aJ:List (Addr×Obj)}{σ:St}{H1:Hp}{s1:Shared}{h':Heap}{us:List Value}(I:Inv (jy (i6 P w C) P w K mg base N qual scope f cd A outer s H E) aJ σ H1 s1)
  (hx:Heap.MadeExcOf s1.heap h' ea (.ref C) us) (hE:E (.ref C) none H1):(jy (i6 P w C) P w K mg base N qual scope f cd A outer s H E).xe (.ref ea) { s1 with heap:=h' }:=by
 have rN:=I.stack;have J9:=I.AX;have pL:Un (dQ outer) [] H H1 s.heap s1.heap:=I.base;have ach:s1.heap.FunFrames base outer:=I.mK;have Sl:dI P w H1 s1.heap:=I.br;have Ka:s1.os=s.os:=I.os;have zW:(A.deeper (envOfC qual scope s.heap.objs.size f cd)).frames=some (envOfC qual scope s.heap.objs.size f cd::outer):=I.ok.frames;have bare:=I.bare;replace rN:s1.heap.FunFrames base (envOfC qual scope s.heap.objs.size f cd::outer):=rN;replace J9:∀b∈dQ (envOfC qual scope s.heap.objs.size f cd::outer),H1 b=none:=J9;have jD:∀b,b∈dQ (envOfC qual scope s.heap.objs.size f cd::outer)→b=s.heap.objs.size∨b∈dQ outer:=λb hb=>dP.mp hb;refine wpAny_leaves_madeW (base:=PySem.W.hideAll s1.heap (dQ (envOfC qual scope s.heap.objs.size f cd::outer))) (h:=s1.heap) zW rfl (λb o q=>PySem.W.of_hideAll _ q) (PySem.W.funFrames_hide rN acg) hx λh2 t fY _ _ up=>?_;have q7:∀b o,s.heap.get? b=some o→b ∉ dQ outer→∃o',(PySem.W.hideAll s1.heap (dQ (envOfC qual scope s.heap.objs.size f cd::outer))).get? b=some o'∧(H b=none→o'=o):=λb o q hb=>by
  obtain⟨o1,e1⟩:=pL.there b o q (by simp);refine⟨o1,PySem.W.hideAll_get _ e1 λz=>(jD b z).elim (fZ (dF q)) hb,λn=>?_⟩;have e2:=pL.keep b o q n hb (by simp);rw[e1]at e2;exact c7 e2
 have q6:∀b u,H1 b=some u→∃o,(PySem.W.hideAll s1.heap (dQ (envOfC qual scope s.heap.objs.size f cd::outer))).get? b=some o:=λb u e=>by
  obtain⟨o,q⟩:=(Sl b u e).obj;exact⟨o,PySem.W.hideAll_get _ q λz=>by rw[J9 b z]at e;cases e⟩
 refine⟨ea,_,_,H1,rfl,Ka,bare,Un.fY pL fY.1 q7 (λb o hb q=>?_),dI.fY Sl q6 (λb o q=>PySem.W.of_hideAll _ q) fY.1,fY,q6,q7,hE⟩;obtain⟨_,o2,tQ,nf⟩:=ach.mem hb;obtain⟨z,e1⟩:=pL.any q (by
  have:=I.ok.qD b hb
  exact this) (by simp)
 rw[tQ]at e1;cases e1;obtain⟨z2,e3⟩:=up b _ (hx.keeps b _ tQ) nf;exact⟨z2,e3⟩
theorem zX:Passes (i6 P w C) (jy (i6 P w C) P w K mg base N qual scope f cd A outer s H E) E:=by
 intro aJ σ H1 s1 e s' I hq;obtain⟨ea,B,a0,H',rfl,os,bare,un,br,fY,q6,q7,q8⟩:=hq;have pL:Un (dQ outer) [] H H1 s.heap s1.heap:=I.base;have Ka:s1.os=s.os:=I.os;have zW:(A.deeper (envOfC qual scope s.heap.objs.size f cd)).frames=some (envOfC qual scope s.heap.objs.size f cd::outer):=I.ok.frames;have Sm:∀b∈dQ outer,H b=none:=I.ok.qD;replace un:Un (dQ (envOfC qual scope s.heap.objs.size f cd::outer)) [] H1 H' s1.heap s'.heap:=un;replace fY:Heap.FlyingW B (envOfC qual scope s.heap.objs.size f cd::outer) ea (.ref C) a0 s'.heap:=fY;replace q7:∀b o,s1.heap.get? b=some o→b ∉ dQ (envOfC qual scope s.heap.objs.size f cd::outer)→∃o',B.get? b=some o'∧(H1 b=none→o'=o):=q7;have sub:∀b,b∈dQ outer→b∈dQ (envOfC qual scope s.heap.objs.size f cd::outer):=λb hb=>gp _ hb;have jD:∀b,b∈dQ (envOfC qual scope s.heap.objs.size f cd::outer)→b=s.heap.objs.size∨b∈dQ outer:=λb hb=>dP.mp hb;refine wpAny_leaves_onW zW rfl fY λh2 uL up=>?_;have Sn:∀b o,s.heap.get? b=some o→b ∉ dQ outer→∃o',B.get? b=some o'∧(H b=none→o'=o):=λb o q hb=>by
  obtain⟨o1,e1⟩:=pL.there b o q (by simp);obtain⟨o',e2,z⟩:=q7 b o1 e1 λz=>(jD b z).elim (fZ (dF q)) hb;refine⟨o',e2,λn=>?_⟩;rw[z (pL.free b o q n (by simp))];have e3:=pL.keep b o q n hb (by simp);rw[e1]at e3;exact c7 e3
 refine⟨ea,B,a0,H',rfl,os.trans Ka,bare,Un.fY ((pL.mono sub (λ_ z=>z)).trans un) uL.1 Sn (λb o hb q=>?_),dI.fY br q6 fY.1 uL.1,uL,q6,Sn,q8⟩;obtain⟨z1,e1⟩:=pL.any q (Sm b hb) (by simp);obtain⟨z2,e2⟩:=un.any e1 (pL.free b o q (Sm b hb) (by simp)) (by simp);obtain⟨_,o3,zY,nf⟩:=fY.2.2.1.mem (sub b hb);rw[zY]at e2;cases e2;obtain⟨z3,e3⟩:=up b _ zY nf;exact⟨z3,e3⟩
end
section
variable{P:Program}{w:World}{K:Frag}{mg:Str→Option Value}{base:Heap}
theorem bZ.wV{CX:oQ}{x qual:Str}{st:Stmt}{f:Addr}{fd:FuncData}{N ps:List Str}{k:Nat}{sp:Sp}(F:bZ K x qual st f fd)(S:c8 N ps (bq st))(len:∀vs H Q E,sp vs H Q E→vs.length=ps.length)
  (hb:∀(bt:Value)(A:Around)(outer:List Env)(s:Shared)(H:Hp)(vs:List V)(Q:VK)(E:XK),dk k (A.deeper (envOfC qual (bq st) s.heap.objs.size f bt))→sp vs H Q E→
   ∃t,jb (jy CX P w K mg base N qual (bq st) f bt A outer s H E) (kz st) t∧t { nx:=λ_ H'=>Q .cm H',rt:=Q } (start N vs) H):bf P w K mg base CX (k+1) f fd ps sp:=by
 obtain⟨oc,od,kV,doc,pm,an,bt,ct,lQ,rfl,lk,gM⟩:=F.ex;exact FW lk gM S len λA outer s H vs Q E hr iW=>hb bt A outer s H vs Q E hr iW
end
theorem aci{K:Frag}{zZ:List Value}{newId:String}(X:K.In h)(q:PySem.W.excIn K C zZ newId=true) :
  ∃bm N nm q bs hdct sn sub ab col dd k0 k1 k2 k3 k5 mN,h.get? C=some (excClassObj nm q C N bs bm hdct sn sub ab col dd k0 k1 k2 k3 k5 newId)∧h.Ns N mN∧mN "__init__"=none∧OwnTail h zZ bm:=by
 unfold PySem.W.excIn at q;split at q
 case h_2=>exact nomatch q
 case h_1 dd cd sl ho=>
  split at q
  case h_2=>exact nomatch q
  case h_1 C' bm k0 k1 k2 k3 n k5 hm hs=>
   rw[eF,eF,eF,eF,eF]at q;obtain⟨⟨⟨⟨⟨e1,e2⟩,e3⟩,e4⟩,e5⟩,e6⟩:=q;have e1:C'=C:=beq_iff_eq.mp e1;have e2:n=newId:=beq_iff_eq.mp e2;have e3:cd.hasDel=false:=by simpa using e3
   have e6:=beq_iff_eq.mp e6;subst e1 e2;obtain⟨nm,bs,mr,ns,qn,hd,sn,sub,ab,col,dl⟩:=cd;have hm:mr=.ref C'::bm:=hm;have e3:dl=false:=e3;have es:sl=#[k0,k1,k2,k3,some (.builtin n),k5]:=Array.toList_inj.mp hs;subst hm e3 es;exact⟨bm,ns,nm,qn,bs,hd,sn,sub,ab,col,dd,k0,k1,k2,k3,k5,_,X _ _ ho,.of_isNs (PySem.W.isNs_of_in X e5),PySem.W.nsMap_none_of_in X e5 e6,PySem.W.tail_of_in X e4⟩
section
variable{X:Cx}{x:Str}{np gc pos:Pos}{C:Addr}{zZ:List Value}{B newId acj:String}{e₀:Expr}{du:List Expr}{t:TA}{E:XK}
theorem So(hc:X.calm=true)(hg:Gl X x)(hmC:X.mg x=some (.ref C))(jD:PySem.W.excIn X.K C zZ newId=true)(FB:ExcBaseFacts B newId acj zZ)(ha:PA X (e₀::du) t)
  (hE:∀{aJ:List (Addr×Obj)}{σ:St}{H:Hp}{s:Shared}{h':Heap}{ea:Addr}{us:List Value},Inv X aJ σ H s→Heap.MadeExcOf s.heap h' ea (.ref C) us→E (.ref C) none H→X.xe (.ref ea) { s with heap:=h' })
  (hd:(x==("__debug__":Str))=false:=by decide) (he:starEach (e₀::du) X.env=(false,eval e₀ X.env)::starEach du X.env:=by rfl) (iF:(backTo gc (starEach du X.env)).any (·.1)=false:=by rfl) :
  PS X (.Raise (some (.Call (.Name x np) (e₀::du) [] gc)) none pos) (λ_ σ H=>t σ H λvs H1=>vs.length≤sizeLine∧E (.ref C) none H1):=by
 intro aJ s σ H D I h;obtain⟨bm,N,nm,q,bs,hdct,sn,sub,ab,col,dd,k0,k1,k2,k3,k5,mN,hC,hN,hni,T⟩:=aci I.ok.mod.qB jD;have hh:=I.ok.hd hc;have hpp:(backTo gc (starEach (e₀::du) X.env)).any (·.1)=false:=by rw[he];exact iF
 refine wpAny_Raise_call_subT (nm:=nm) (q:=q) (C:=C) (N:=N) (bs:=bs) (bm:=bm) (hdct:=hdct) (sn:=sn) (sub:=sub) (ab:=ab) (col:=col) (dd:=dd) (k0:=k0) (k1:=k1) (k2:=k2) (k3:=k3) (k5:=k5) (mN:=mN) FB (T.hasType FB.hasBase) hh hpp hni ?_;refine xI I hg hmC ⟨rfl,?_⟩ hd;have kf:=ha gc aJ s σ H _ I h;rw[he]at kf ⊢;exact Calls.evalArgs_plain (aZ kf λus s1 ⟨vs,H1,I1,r,z,q1⟩=>⟨rfl,r.length▸z,I1.bk _ _ hC,hN.keeps I1.bk,T.keeps I1.bk,λh' e hm=>hE I1 hm q1⟩)
end
theorem Inv.ack{X:Cx}{aJ:List (Addr×Obj)}{σ:St}{h':Heap}{n:Str}{i tk:Nat}{m:Str→Option Value}{v:Option Value}(I:Inv X aJ σ H s)(hN:X.N.Nodup)(hi:X.N[i]?=some n)
  (hm:∀(j:Nat)(x:Str)(v:V),X.N[j]?=some x→σ[j]?=some (some v)→ve X.env.scope x→∃u,RelV v u∧Look X.env s.heap m x u)
  (hn:s.heap.Ns X.env.locals m) (xG:h'.Ns X.env.locals (λx=>if x=n then v else m x)) (hs:Heap.SameBut X.env.locals s.heap h'):Inv X aJ (σ.set i none) H { s with heap:=h',toks:=tk }:=by
 obtain⟨oL,_,_,L1,_⟩:=id hn;have Kb:∀b o,X.s₀.heap.get? b=some o→b≠X.env.locals:=λb o e=>fZ (iA (dF e) I.ok.above);refine⟨I.ok,I.os,I.bare,⟨λb o e n hb hx=>?_,λb o e n hb hx=>?_,I.base.free,λb o e hx=>?_,I.base.iS,I.base.iD,I.base.iT⟩,⟨_,xG,λj y v' e1 e2 e3=>?_⟩,λy c e=>?_,I.free,I.nS,λp hp=>?_,?_,by simpa using I.len⟩
 ·exact(hs.2 b (Kb b o e)).trans (I.base.keep b o e n hb hx)
 ·exact let ⟨sl,z⟩:=I.base.slot b o e n hb hx;⟨sl,(hs.2 b (Kb b o e)).trans z⟩
 ·exact let ⟨o',z⟩:=I.base.there b o e hx;⟨o',(hs.2 b (Kb b o e)).trans z⟩
 ·by_cases hj:j=i
  ·subst hj;rw[List.getElem?_set]at e2;rw[af rfl]at e2;split at e2<;>cases e2
  ·rw[List.getElem?_set_ne (Ne.symm hj)]at e2;obtain⟨u,r,q⟩:=hm j y v' e1 e2 e3;refine⟨u,r,?_⟩;rcases q with⟨k,e⟩|⟨k,c,e,z⟩
   ·have nyn:y≠n:=λz=>hj (Fh hN e1 (z▸hi));exact .inl ⟨k,by show(if y=n then v else m y)=some u;rw[ag nyn];exact e⟩
   ·exact .inr ⟨k,c,e,z.sameBut hs (I.qE y c e)⟩
 ·exact let ⟨w,z⟩:=I.cell y c e;⟨w,z.sameBut hs (I.qE y c e)⟩
 ·exact let ⟨e,n,ne,r⟩:=I.pin p hp;⟨(hs.2 p.1 ne).trans e,n,ne,r⟩
 ·intro b ob e;have nl:∀c,H c≠none→c≠X.env.locals:=λc z q=>z (q▸I.free);refine(I.br b ob e).jt (λc u hc q=>(hs.2 c (nl c ?_)).trans q) (λ_ q=>q) λ_ _ q=>q;rcases hc with rfl|hc
  ·rw[e];exact λz=>nomatch z
  ·rw[hc];exact λz=>nomatch z
open PySem.W (Looks)
open PySem.Builtin PySem.Builtin.ObjectAttr PySem.Builtin.Getset_descriptor
theorem acm{P:Program}{w:World}{o:Obj}(x:dI P w H h)(hn:H ea=none)(e:h.get? ea=some o)(c:o.cls=.ref C):dI P w (upd H ea (mn C ea)) h:=λb u q=>by
 by_cases hb:b=ea
 ·subst hb;rw[aQ]at q;cases q;exact⟨⟨o,e,c⟩,⟨o,e⟩,λh1 h2 ⟨o1,z1,z2⟩ k=>⟨o1,k o1 z1,z2⟩⟩
 ·rw[cy hb]at q;exact(x b u q).jt (λ_ _ _ z=>z) (λc z=>by rw[cy (eQ z hn)];exact z) λc xs z=>by rw[cy (eQ z hn)];exact z
theorem Un.more{fs:List Addr}{H1:Hp}{h1:Heap}{u:HO}(x:Un fs [] H H1 h h1)(hn:H1 ea=none)(cM:∀b o,h.get? b=some o→H b=none→b≠ea):Un fs [] H (upd H1 ea u) h h1 where
 keep:=x.keep
 slot:=x.slot
 free:=λb o q n z=>by rw[cy (cM b o q n)];exact x.free b o q n z
 there:=x.there
 iS:=λb xs q=>by rw[cy (eQ (x.iS b xs q) hn)];exact x.iS b xs q
 iD:=λb o xs q=>by rw[cy (eQ (x.iD b o xs q) hn)];exact x.iD b o xs q
 iT:=λb ps q=>let ⟨m,z⟩:=x.iT b ps q;⟨m,by rw[cy (eQ z hn)];exact z⟩
section
variable{X:Cx}{C W ea:Addr}{aJ:List (Addr×Obj)}{σ:St}{H1 H':Hp}{s1 s':Shared}{B:Heap}{a0:Value}
theorem Inv.Sr{h2:Heap}{tk:Nat}(I:Inv X aJ σ H1 s1)(os:s'.os=s1.os)(bare:AllBare s'.gens)(un:Un (dQ X.stack) [] H1 H' s1.heap s'.heap)(br:dI X.prog X.w H' s'.heap)(fY:Heap.FlyingW B X.stack ea (.ref C) a0 s'.heap)
  (q6:∀b u,H' b=some u→∃o,B.get? b=some o) (q7:∀b o,s1.heap.get? b=some o→b ∉ dQ X.stack→∃o',B.get? b=some o'∧(H1 b=none→o'=o))
  (uL:Heap.FlyingW B X.stack ea (.ref C) a0 h2) (up:s'.heap.UpToSlots h2):H' ea=none∧Inv X aJ σ H' { s' with heap:=h2,toks:=tk }∧Inv X aJ σ (upd H' ea (mn C ea)) { s' with heap:=h2,toks:=tk }:=by
 have hB:B.get? ea=none:=fY.2.1;have hn:H' ea=none:=by
  cases e:H' ea with
  |none=>rfl
  |some u=>
   obtain⟨o,z⟩:=q6 _ _ e;rw[hB]at z;cases z
 have cM:∀b o,s1.heap.get? b=some o→H1 b=none→b≠ea:=λb o q _ z=>by
  subst z;by_cases hb:b∈dQ X.stack
  ·obtain⟨_,o1,e1,nf⟩:=fY.2.2.1.mem hb;obtain⟨oe,vs,_,_,_,e2,_,hd,_⟩:=fY.2.2.2;rw[e1]at e2;cases e2;exact nf vs hd
  ·obtain⟨o',e,_⟩:=q7 b o q hb;rw[hB]at e;cases e
 have u2:Un (dQ X.stack) [] H1 H' s1.heap h2:=Un.fY un uL.1 q7 λb o hb q=>by
  obtain⟨z1,e1⟩:=un.any q (I.AX b hb) (by simp);obtain⟨_,o3,zY,nf⟩:=fY.2.2.1.mem hb;rw[zY]at e1;cases e1;exact let ⟨z3,e3⟩:=up b _ zY nf;⟨z3,e3⟩
 have k2:=dI.fY br q6 fY.1 uL.1;obtain⟨oe,he,hc⟩:=uL.there;have no:∀b∈([]:List Addr),(b∈X.ex∨X.s₀.heap.objs.size≤b)∧b≠X.env.locals∧(∀x c,X.env.cells.lookup x=some c→c≠b)∧∀p∈X.pn++aJ,p.1≠b:=λb z=>nomatch z;exact⟨hn,I.Fj (s':={ s' with heap:=h2,toks:=tk }) os u2 k2 bare no,I.Fj (s':={ s' with heap:=h2,toks:=tk }) os (u2.more hn cM) (acm k2 hn he hc) bare no⟩
end
section
variable{X:Cx}{C W f:Addr}{k:Nat}{fd:FuncData}{ps:List Str}{sp:Sp}{x wn n y:Str}{p cp ep wp np yp ap hp pos:Pos}{e:Expr}{es:List Expr}{t:TA}{ix ie:Nat}
theorem acn(lR:∀u s,X.xe u s→False)(D9:X.stack=X.env::X.outer)(x9:X.env.frame=some X.env.locals)
  (F:bf X.prog X.w X.K X.mg X.base (i6 X.prog X.w C) k f fd ps sp) (hr:dk k X.A) (hg:Gl X x) (hm:X.mg x=some (.ref f)) (hk:Kp X.K f) (hb:Binds X.K fd ps []) (ha:PA X (e::es) t)
  (hgw:Gl X wn) (hmw:X.mg wn=some (.ref W)) (hex:PySem.W.exmOne X.K (.ref C) (.ref W)=some true) (hN:X.N.Nodup) (hy:X.N[ix]?=some y) (ly:X.env.scope.names.lookup y=some .local) (hn:X.N[ie]?=some n) (ln:X.env.scope.names.lookup n=some .local) (hxe:ix≠ie)
  (qL:(x==("__debug__":Str))=false:=by decide) (hdw:(wn==("__debug__":Str))=false:=by decide) (hdn:(n==("__debug__":Str))=false:=by decide)
  (he:starEach (e::es) X.env=(false,eval e X.env)::starEach es X.env:=by rfl) (iF:(backTo cp (starEach es X.env)).any (·.1)=false:=by rfl)
  (hs:swapsWith (.Call (.Name x p) (e::es) [] cp) none ep.line X.env=pure false:=by rfl) (jC:swapsWith (.Name n np) (some (.Name y yp)) ap.line X.env=pure false:=by rfl) :
  PS X (.Try [.Expr (.Call (.Name x p) (e::es) [] cp) ep] [.ExceptHandler (some (.Name wn wp)) (some n) [.Assign [.Name y yp] (.Name n np) ap] hp] [] [] pos)
   (λD σ H=>t σ H λvs H1=>sp vs H1 (λ_ H'=>D.nx σ H') λ_ _ H'=>∀ea,H' ea=none→D.nx ((σ.set ix (some (.ref ea))).set ie none) (upd H' ea (mn C ea))):=by
 intro aJ s σ H D I h;refine wpAny_Try_except (wpAny_execs_cons (wpAny_Expr_any (ax (xI I hg hm ?_ qL)) I.quiet hs));refine PySem.W.callWith_K (h₀:=X.base) I.ok.mod.qB hk (ah (ha cp aJ s σ H _ I h) (λus s1 ⟨vs,H1,I1,r,q⟩=>⟨I1.eR,?_⟩) λ_ _ z=>(lR _ _ z).elim) he iF;have hl:us.length=ps.length:=by rw[← r.length];exact F.len _ _ _ _ q
 have qe:=hb s1 us I1.eR (by rw[iB];exact hl);rw[iB]at qe;refine wpAny_call (codeAny_mono (F.run X.A X.stack s1 H1 ⟨us,[]⟩ us vs _ _ hr I1.Bj qe r q) λr s' hq=>?_);cases r with
 |ok fl=>
  cases fl with
  |ret u=>
   obtain⟨v,H',I',_,q'⟩:=I1.after hq;exact ak (ak ⟨σ,H',I',q'⟩)
  |next=>exact False.elim hq
  |brk=>exact False.elim hq
  |cont=>exact False.elim hq
 |error e=>
  obtain⟨ea,B,a0,H',rfl,os,bare,un,br,fY,q6,q7,q8⟩:=hq;have fl1:Heap.FlyingW B (X.env::X.outer) ea (.ref C) a0 s'.heap:=D9▸fY;have zW:X.A.frames=some (X.env::X.outer):=D9▸I1.ok.frames;refine wpAny_looks_onW zW x9 fl1 λh4 aco BC=>?_;refine wpAny_landsW aco λh5 Ss up5=>?_;have Su:=BC.trans up5;have Sv:Heap.FlyingW B X.stack ea (.ref C) a0 h5:=by rw[D9];exact Ss
  obtain⟨_,I5,_⟩:=I1.Sr (tk:=s'.toks) os bare un br fY q6 q7 Sv Su;refine wpAny_handleBy_cons (codeAny_handlers_test ?_) (by intro q;cases q);refine Calls.Name_function_global I.ok.kind hgw (Calls.loadGlobal_global (by rw[I.ok.glob];exact I5.mod.glob.keeps I5.bk) hmw ?_) hdw;obtain⟨oe,hoe,hce⟩:=Sv.there;have LT:Looks (model X.prog X.w) h5 (typeOf (.ref ea)) (.ref C):=hce▸(Looks.ld hoe).andThen .now;refine(PySem.W.exm_one (M:=model X.prog X.w) I5.eR LT hex).here ?_;refine codeAny_handlers_suite_as (lands_againW Ss λh6 fl6 up6=>?_);have acp:Heap.FlyingW B X.stack ea (.ref C) a0 h6:=by rw[D9];exact fl6
  obtain⟨hn0,_,I6⟩:=I1.Sr (tk:=s'.toks) os bare un br fY q6 q7 acp (Su.trans up6);refine vg I6 hN hn (.inl ln) (v:=.ref ea) rfl (λs7 I7=>?_) (.inr ln);have cE:ie<σ.length:=by rw[I1.len];exact(dz.mp hn).1
  obtain⟨m7,hn7,hl7⟩:=I7.loc;obtain⟨u7,r7,lk7⟩:=hl7 ie n (.ref ea) hn (List.getElem?_set_self cE) (.inl ln);have Sw:X.env.kindOf n=some .local∧m7 n=some u7:=by
   rcases lk7 with z|⟨z,_⟩
   ·exact z
   ·have ln':X.env.kindOf n=some .local:=ln;rcases z with z|z<;>(rw[ln']at z;cases z)
  refine wpAny_execs_cons (wpAny_Assign_Name (wpAny_Name (wpAny_loadName_local I.ok.kind Sw.1 hn7 Sw.2 ?_) hdn) jC);refine vg I7 hN hy (.inl ly) (v:=.ref ea) r7 (λs8 I8=>?_) (.inr ly);refine ak ?_;obtain⟨m8,Sx,hl8⟩:=id I8.loc;have Fi:(X.env.scope.kind == .class||(X.env.scope.kind == .module&&X.env.locals != X.env.globals))=false:=by rw[I.ok.kind];rfl
  refine wpAny_nameGoes_keeps ln Sx Fi λh9 v9 hn9 hs9=>?_;refine⟨_,_,I8.ack hN hn hl8 Sx hn9 hs9,?_⟩;have es:((σ.set ie (some (V.ref ea))).set ix (some (V.ref ea))).set ie none=(σ.set ix (some (V.ref ea))).set ie none:=by
   rw[List.set_comm _ _ hxe.symm,List.set_set]
  rw[es];exact q8 ea hn0
end
structure qt(K:Frag)(C:Addr):Prop where
 cls:(PySem.W.clsIn K C).isSome=true
 ga:PySem.W.findIn K (.ref C) "__getattribute__"=some (some (.builtin "BaseException.__getattribute__"))
 gt:PySem.W.findIn K (.ref C) "__getattr__"=some none
 cl:PySem.W.findIn K (.ref C) "__class__"=some (some (.builtin "object.__class__"))
 gn:PySem.W.specialIn K (.builtin "object.__class__") "__get__"=some (some (.builtin "getset_descriptor.__get__"))
 tk:PySem.W.takesIn K (.builtin "object.__class__")=some true
 mo:PySem.W.mroIn K C (.type "object")=some true
 mb:PySem.W.mroIn K C (.type "BaseException")=some true
def ExcAt(C a:Addr)(h:Heap):Prop:=∃o,h.get? a=some o∧o.cls=.ref C
section
variable{prog:Program}{w:World}{A:Around}{E:QV}{K:Frag}{C a:Addr}
theorem ExcAt.ty(p:ExcAt C a h):Looks M h (typeOf (.ref a)) (.ref C):=by
 obtain⟨o,h1,h2⟩:=p;exact h2▸Looks.andThen (Looks.ld h1) .now
theorem acq{R:Result→Shared→Prop}{tp:Value}(X:K.In s.heap)(Z:qt K C)(p:ExcAt C a s.heap)(h:R (.ok (.ret (.ref C))) s) :
  codeAny (model prog w) A (.call (.builtin "getset_descriptor.__get__") ⟨[.builtin "object.__class__",.ref a,tp],[]⟩) R s:=by
 obtain⟨hh,g,d,t,os⟩:=s;have T0:=p.ty (M:=model prog w);have T1:=PySem.W.looks_mroIn (M:=model prog w) X Z.mo;refine codeAny_call_builtin PySem.W.KF.slot_gs.plain PySem.W.KF.entry_gs (PySem.W.KF.slot_gs.check _ _ _ _ _ _ _ _ PySem.W.KF.type_class (PySem.W.KF.args_gs _ _ _) ?_);unfold Builtin.«getset_descriptor.__get__»;unfold descrGet;rw[PySem.W.dga_obj];refine ao (ar ?_);unfold descrGetter descrCheckInstance;unfold descrNameAndClass isInstance;simp only[PySem.W.KF.owner_class];repeat lk
 refine⟨Code.quiet_builtin _ (by decide +kernel),codeAny_builtin PySem.W.KF.entry_class ?_⟩;unfold Builtin.«object.__class__»;unfold shownTypeOf;repeat lk
 exact h
theorem Sy(X:K.In h)(Z:qt K C):Looks M h (find (.ref a) (.ref C) "__class__") (.bind (.builtin "getset_descriptor.__get__") (.builtin "object.__class__")):=by
 have L3:=PySem.W.looks_takesIn (M:=M) X Z.tk;refine(PySem.W.looks_findIn (M:=M) X Z.cl).andThen ((show Looks M h (getOf (some (.builtin "object.__class__"))) _ from PySem.W.looks_specialIn X Z.gn).andThen ?_)
 exact(show Looks M h (dataDescriptor? (some (.builtin "object.__class__")) (some (.builtin "getset_descriptor.__get__"))) (some (.builtin "getset_descriptor.__get__",.builtin "object.__class__")) from L3.andThen .now).andThen (Looks.tag .now)
theorem acr{nm:Value}{Q:Unit→Shared→Prop}(TB:Looks M s.heap (isInstance (.ref a) (.type "BaseException")) true)(q:Q () s) :
  wpAny M A (checkBuiltinCall "BaseException.__getattribute__" ⟨[.ref a,nm],[]⟩) Q E s:=by
 have k1:builtinKind "BaseException.__getattribute__"=some .slot:=by decide +kernel
 have k2:splitId "BaseException.__getattribute__"=some ("BaseException","__getattribute__"):=by decide +kernel
 exact @PySem.W.check_slot M A E s "BaseException.__getattribute__" "BaseException" "__getattribute__" (.ref a) [nm] [] Q k1 k2 TB (PySem.F.args_bexc_ga (.ref a) nm) q
theorem acs{tk:Tok}{Q:Fin→Shared→Prop}(X:K.In s.heap)(Z:qt K C)(p:ExcAt C a s.heap)(h:Q (.done (.ret (.ref C))) s):wpAny (model prog w) A (Builtin.«object.__getattribute__» ⟨[.ref a,.str "__class__" tk],[]⟩) Q E s:=by
 obtain⟨hh,g,d,t,os⟩:=s;have T0:=p.ty (M:=model prog w);have T3:=Sy (a:=a) (M:=model prog w) X Z;unfold Builtin.«object.__getattribute__»;refine ao (ar ?_);refine ao (ar ?_);refine ao (T0.at (ao (T3.at ?_)));dsimp only;show wpAny _ _ (holding [_] (call _ [_,_,_]) >>= ret) _ _ _;exact ao (aq (wpAny_call (acq (s:=⟨hh,g,d,t,os⟩) X Z p (ar h))))
theorem acu{Q:Option Value→Shared→Prop}(X:K.In s.heap)(Z:qt K C)(p:ExcAt C a s.heap)(h:Q (some (.ref C)) { s with toks:=s.toks+1 }):wpAny (model prog w) A (getAttr? (.ref a) "__class__") Q E s:=by
 obtain⟨hh,g,d,t,os⟩:=s;have T0:=p.ty (M:=model prog w);have T1:=PySem.W.looks_findIn (M:=model prog w) X Z.ga;have T2:=PySem.W.looks_findIn (M:=model prog w) X Z.gt;have T3:=Sy (a:=a) (M:=model prog w) X Z;have TB:Looks (model prog w) hh (isInstance (.ref a) (.type "BaseException")) true:=T0.andThen (PySem.W.looks_mroIn X Z.mb);unfold getAttr?;unfold getAttrBy? getAttrBy;refine ao (wpAny_mkText (ao (wpAny_attempt (aq (ao (T0.at (ao (T1.at ?_))))))));show wpAny _ _ (getAttrByItsOwn _ _ _ _ _ _) _ _ _;unfold getAttrByItsOwn;refine ao (T2.at (ao (wpAny_attempt (aq ?_))));show wpAny _ _ (boundAndCalled _ _ _) _ _ _;unfold boundAndCalled;rw[PySem.F.attr_ValueError.ga.bind (.ref a)];refine ao (ar ?_);refine wpAny_call (codeAny_call_builtin PySem.F.attr_ValueError.ga.plain PySem.F.entry_bexc_ga ?_);dsimp only[tu,uW];refine acr (s:=⟨hh,g,d,t+1,os⟩) TB ?_;refine acs (s:=⟨hh,g,d,t+1,os⟩) X Z p ?_;refine PySem.W.handed_on rfl ?_;exact ar h
theorem Sz(Z:qt K C):PySem.W.KitX K (.ref a) (.ref C) (ExcAt C a) where
 ty:=λ_ _ _ p=>p.ty
 it:=λM h X p=>by
  obtain⟨cd,hc⟩:=AL.mp Z.cls;unfold PySem.W.clsIn at hc;split at hc
  ·rename_i ho
   intro A' Q' E' s' k q;unfold isType loadHead;exact ao (wpAny_loadPart (k _ _ (X C _ ho)) (ar q))
  ·cases hc
 ne:=λh tp dd is n sl X htp=>by
  refine Bool.eq_false_iff.mpr (λq=>?_);have e:C=tp:=Value.ref.inj (beq_iff_eq.mp q);subst e;obtain⟨cd,hc⟩:=AL.mp Z.cls;unfold PySem.W.clsIn at hc;split at hc
  ·rename_i ho
   have z:=(X C _ ho).symm.trans htp;cases z
  ·cases hc
 ca:=λX p k=>acu X Z p k
end
theorem SA{X:Cx}{c:Value}{cv:V}(Z:qt X.K C)(hc:∀u,RelV cv u→u=c)(e:kitOne X.K (.ref C) c=some b) :
  fq X (.builtin "isinstance") (λxs H Q=>∃a,xs=[.ref a,cv]∧H a=some (mn C a)∧Q (.bl b) H):=by
 intro aJ s σ H vs us Q I r h;obtain⟨a,rfl,ha,q⟩:=h;obtain⟨u,v,rfl,ru,rv⟩:=vals2 r;cases(show u=Value.ref a from ru)
 cases hc v rv;exact oK (Sz Z) I.eR (show ExcAt C a s.heap from(I.br a _ ha).1) e (λz=>nomatch z) λtk=>⟨.bl b,H,I.tok tk,rfl,q⟩
section
variable{X:Cx}(K:Frag)(hK:X.K=K)
include hK
theorem acv{T:String}:fq X (.builtin "isinstance") (λxs H Q=>∃x b,xs=[.str x,.ty T]∧kitOne K (.type "str") (.type T)=some b∧Q (.bl b) H):=by
 subst hK;intro aJ s σ H vs us Q I r ⟨x,b,e,k,q⟩;exact G6 aJ s σ H vs us Q I r ⟨_,_,b,e,.str x,k,q⟩
theorem SD{D:Addr}(Z:qt K C)(e:kitOne K (.ref C) (.ref D)=some b):fq X (.builtin "isinstance") (λxs H Q=>∃a,xs=[.ref a,.ref D]∧H a=some (mn C a)∧Q (.bl b) H):=by
 subst hK;exact SA (cv:=.ref D) Z (λu z=>z) e
theorem acw{T:String}(Z:qt K C)(e:kitOne K (.ref C) (.type T)=some b):fq X (.builtin "isinstance") (λxs H Q=>∃a,xs=[.ref a,.ty T]∧H a=some (mn C a)∧Q (.bl b) H):=by
 subst hK;exact SA (cv:=.ty T) Z (λu z=>z) e
end
theorem acx:bootBuiltins "ValueError"=some (.type "ValueError"):=by decide +kernel
end L2
namespace S21
open PySem L2 Bw
variable{D:Ends}{H H0:Hp}{HS vs:List V}{R:VK}{a hl wl:Addr}{d d0:D1.Dr}{ds:List D1.Dr}{i:Nat}{num p:Int}{s4 s6 s7 s8 s9:Option V}{t u:TS}{te:TE}{x:Str}{σ:St}
theorem SE{X:Cx}(K:Frag)(hK:X.K=K){T:String}:fq X (.builtin "isinstance") (λxs H Q=>∃(x:V)(b:Bool),xs=[x,.ty T]∧((∃i,x=.int i∧kitOne K (.type "int") (.type T)=some b)∨∃s,x=.str s∧kitOne K (.type "str") (.type T)=some b)∧Q (.bl b) H):=by
 rintro aJ s σ H vs us Q I r ⟨x,b,e,h|h,q⟩
 ·obtain⟨i,rfl,k⟩:=h;exact BU K hK aJ s σ H vs us Q I r ⟨i,b,e,k,q⟩
 ·obtain⟨y,rfl,k⟩:=h;exact acv K hK aJ s σ H vs us Q I r ⟨y,b,e,k,q⟩
inductive gm(p:Int)(hl:Addr)(H:Hp):List D1.Dr→List V→Prop where
 |nil:gm p hl H [] []
 |cons {a:Addr} {d:D1.Dr} {ds:List D1.Dr} {HS:List V} (h:fI (·≠hl) H a d.l d.r (d.aO p)) (r:gm p hl H ds HS):gm p hl H (d::ds) (HS++[.ref a])
section
variable{p:Int}{hl:Addr}{H H':Hp}{ds:List D1.Dr}{HS:List V}
theorem gm.mono(h:gm p hl H ds HS)(s:aL H H'):gm p hl H' ds HS:=by
 induction h with
 |nil=>exact .nil
 |cons h _ ih=>exact .cons (h.mono s) ih
theorem gm.wr{o:HO}(h:gm p hl H ds HS):gm p hl (upd H hl o) ds HS:=by
 induction h with
 |nil=>exact .nil
 |cons h _ ih=>exact .cons h.wr ih
theorem gm.len(h:gm p hl H ds HS):HS.length=ds.length:=by
 induction h with
 |nil=>rfl
 |cons _ _ ih=>rw[bK,ih];rfl
theorem gm.pop(h:gm p hl H (d::ds) HS):∃a iy,HS=iy++[.ref a]∧fI (·≠hl) H a d.l d.r (d.aO p)∧gm p hl H ds iy:=by
 cases h with
 |cons h r=>exact⟨_,_,rfl,h,r⟩
theorem acy:(HS++[V.ref a])[(HS++[V.ref a]).length-1]?=some (.ref a):=by simp
theorem acz:(HS++[V.ref a]).dropLast=HS:=by simp
end
def SF(K:Frag):Sp:=λvs H Q _=>∃(p:Int)(a:Addr)(d:D1.Dr),vs=[.int p,.ref a]∧p∈cb∧H a=some (.lst (d.aN.map cG))∧d.wf p∧d.cP 64∧d.aN.length≤9000000∧
 ∀t H' b TS,aL H H'→H' t=some (.lst [.int (d.l:Int),.int (d.r:Int),.ref b])→bc K H' b TS→bI K H' TS ((cz p (d.aO p)).map cJ)→Q (.ref t) H'
noncomputable abbrev nMn:List Str:=["p","words","held","number","back","word","left","right","rows","one"]
theorem mq:c8 ["p","words","held","number","back","word","left","right","rows","one"] ["p","words"] (bq CH):=dv rfl rfl rfl (by decide +kernel) rfl
theorem ny1:(["row","left"]:List Str).Nodup:=by decide +kernel
def Aa(K:Frag)(te:TE):TS:=Bd (F0 K "list" Gd (aW 2) (aY te bV))
def wW(K:Frag):TE:=Br K "list" Ge (aW 2)
def Kc(K:Frag):TT:=jx (ko (λxs H Q=>∃(x:V)(b:Bool),xs=[x,.ty "int"]∧((∃i,x=.int i∧kitOne K (.type "int") (.type "int")=some b)∨∃s,x=.str s∧kitOne K (.type "str") (.type "int")=some b)∧Q (.bl b) H) (aY (aW 5) (aY (tC (.ty "int")) bV)))
def Ab(x:String):TT:=jx (bp oY (aW 5) (tC (.str x)))
def acA(K:Frag):TS:=cI (dj (wW K) (tX K 3 (iE (bN 6) (iE (bN 7) (iE (bN 8) rQ)))))
 (Aa K (cS (aY (aW 7) (aY (aW 6) (aY (p9 (Bf K (aW 8)) 1 [6] (bN 0) kH (bp eh (iG (rY K) (aW 0) (hU (aW 1)) jd) (iG (rY K) (aW 0) jd (hU (aW 1))))) bV)))))
def acB(K:Frag):TS:=cI (dj (wW K) (bN 9)) (Aa K (iV J6 [] E0 (aY (aW 0) (aY (aW 9) (aY (wW K) bV)))))
def acC(K:Frag):TS:=cI (dj (wW K) (bN 9)) (Aa K (iV J4 [] E0 (aY (aW 9) (aY (wW K) bV))))
def acD(K:Frag):TS:=Aa K (iV D0 [] E0 (aY (aW 0) (aY (aW 5) (aY (bp (jV K) (cS (aY (tC (.int 1)) (aY (aW 3) bV))) (ko (λxs H Q=>(∃i,xs=[.int i]∧Q (.int i) H)∨∃k,xs=[.bl k]∧Q (.int (if k then 1 else 0)) H) (aY (bp oY (aW 5) (tC (.str "times"))) bV))) bV))))
theorem Ea(hi:σ[2]?=some (some (.ref hl)))
  (gl:H hl=some (.lst HS))
  (h:∀R:VK,(∀a H1 nH,aL H0 H1→H1 hl=some (.lst nH)→nH.length≤9000000→gm p hl H1 ds nH→fI (·≠hl) H1 a d.l d.r (d.aO p)→R (.ref a) H1)→te σ H R) (nI:H0 hl=none)
  (k:∀H' iy,aL H0 H'→H' hl=some (.lst iy)→gm p hl H' (d::ds) iy→D.nx σ H'):Aa K te D σ H:=by
 have z:(9000000:Nat)<sizeLine:=by decide
 refine⟨_,hi,.inl ⟨rfl,_,di.of gl⟩,h _ λa H1 nH s1 g1 z1 h1 t1=>⟨hl,nH,.ref a,rfl,rfl,g1,by lia,?_⟩⟩;exact k _ _ (s1.write nI) aQ (.cons t1.wr h1.wr)
theorem Eb{H1:Hp}{o:HO}{l r:Nat}{aO:LL}(g:H hl=some o)(t:fI (λx=>H x=none) H1 a l r aO):fI (·≠hl) H1 a l r aO:=t.weak λx hx e=>by
 rw[e,g]at hx;cases hx
def Ac(K:Frag):TS:=eG (Kc K) (dj (aW 5) (bN 3)) (eG (Ab "back") (acA K) (eG (Ab "then") (acB K) (eG (Ab "beside") (acC K) (acD K))))
theorem SG{y:Str}:decide (V.str x=V.str y)=decide (x=y):=by
 by_cases h:x=y
 ·rw[aE h,aE (aj V.str h)]
 ·rw[ae h,ae λz=>h (V.str.inj z)]
theorem wX{y:String}(h5:σ[5]?=some (some (.str x)))(cM:x≠Str.ofString y)(h:u D σ H):eG (Ab y) t u D σ H:=by
 refine⟨_,h5,rfl,_,rfl,?_⟩;rw[SG,ae cM];exact cD h
theorem Kd{y:String}(h5:σ[5]?=some (some (.str (Str.ofString y))))(h:t D σ H):eG (Ab y) t u D σ H:=by
 refine⟨_,h5,rfl,_,rfl,?_⟩;rw[aE rfl];exact dy h
theorem Ec(h5:σ[5]?=some (some (.str x)))(h:u D σ H):eG (Kc K) t u D σ H:=
 ⟨_,h5,_,false,rfl,.inr ⟨x,rfl,Hc K⟩,_,rfl,cD h⟩
theorem acE{i:Int}(h5:σ[5]?=some (some (.int i)))(h:t D σ H):eG (Kc K) t u D σ H:=
 ⟨_,h5,_,true,rfl,.inl ⟨i,rfl,BR K⟩,_,rfl,dy h⟩
structure wY(p:Int)(d0:D1.Dr)(wl hl:Addr)(H0:Hp)(D:Ends)(i:Nat):Prop where
 nI:H0 hl=none
 nx:∀num s4 s5 s6 s7 s8 s9 iy H',aL H0 H'→H' hl=some (.lst iy)→gm p hl H' (D1.gW (none,[d0]) i).2 iy→(∀m,(D1.gW (none,[d0]) i).1=some m→num=m)→D.nx [some (.int p),some (.ref wl),some (.ref hl),some (.int num),s4,s5,s6,s7,s8,s9] H'
theorem rH{x:String}{n':Int}(C:wY p d0 wl hl H0 D i)(e:D1.gW (none,[d0]) i=(none,d::ds))
  (sm:aL H0 H) (g:H hl=some (.lst HS)) (hz:HS.length≤9000000) (h:gm p hl H ds HS) (hn:n'=if x="times" then num else 1) (hb:zS (Str.ofString x) n'=(d.l,d.r,d.aO p)) (hx:decide (Str.ofString x=Str.ofString "times")=decide (x="times"))
  (n1:Str.ofString x≠Str.ofString "back") (n2:Str.ofString x≠Str.ofString "then") (n3:Str.ofString x≠Str.ofString "beside") :
  Ac K D [some (.int p),some (.ref wl),some (.ref hl),some (.int num),s4,some (.str (Str.ofString x)),s6,s7,s8,s9] H:=by
 refine Ec rfl (wX rfl n1 (wX rfl n2 (wX rfl n3 ?_)));refine Ea (d:=d) (ds:=ds) rfl g (λR k=>?_) C.nI λH' iy s' g' h'=>C.nx _ _ _ _ _ _ _ iy H' s' g' (by rw[e];exact h') (λm hm=>by rw[e]at hm;cases hm);refine⟨_,rfl,_,rfl,_,rfl,by show 2≤sizeLine;decide,λl qS=>⟨_,rfl,rfl,.inr ⟨_,rfl,?_⟩⟩⟩;have s1:aL H (upd H l (.lst [.int 1,.int num])):=.upd qS;have fin:∀idx v,idx=(if decide (x="times")=true then(1:Int)else 0)→o5 [V.int 1,V.int num] idx=some v→v=.int n'→(jV K) (.ref l) (.int idx) (upd H l (.lst [.int 1,.int num])) λv H'=>D0 [.int p,.str (Str.ofString x),v] H' R E0:=λidx v e1 e2 e3=>by
  subst e3;refine⟨l,_,idx,_,rfl,rfl,.of aQ,e2,p,Str.ofString x,n',rfl,?_⟩;rw[hb];intro a H2 s2 t2;exact k a H2 HS ((sm.trans s1).trans s2) ((s1.trans s2) _ _ g) hz (h.mono (s1.trans s2)) (Eb (s1 _ _ g) t2)
 rw[SG,hx];refine fin _ (.int n') rfl ?_ rfl;rw[hn];by_cases ht:x="times"
 ·rw[af ht,aE ht,af rfl];exact bu (j:=1) rfl
 ·rw[ag ht,ae ht,ag gJ];exact bu (j:=0) rfl
theorem Ad{Q:VK}(hi:σ[2]?=some (some (.ref hl)))(g:H hl=some (.lst HS))(h:gm p hl H (d::ds) HS)(hz:HS.length≤9000000)(sm:aL H0 H)(nI:H0 hl=none)
  (k:∀a H1 nH,aL H0 H1→H1 hl=some (.lst nH)→nH.length≤9000000→gm p hl H1 ds nH→(∀{b:Addr}{l r:Nat}{aO:LL},fI (·≠hl) H b l r aO→fI (·≠hl) H1 b l r aO)→fI (·≠hl) H1 a d.l d.r (d.aO p)→Q (.ref a) H1):wW K σ H Q:=by
 obtain⟨a,iy,rfl,t,h'⟩:=h.pop;refine⟨_,hi,.inl ⟨rfl,_,di.of g⟩,hl,_,.ref a,rfl,rfl,g,acy,?_⟩;rw[acz];rw[bK]at hz;exact k a _ iy (sm.write nI) aQ (by lia) h'.wr (λt=>t.wr) t.wr
theorem acF(C:wY p d0 wl hl H0 D i)(e:D1.gW (none,[d0]) i=(none,.back d::ds))
  (sm:aL H0 H) (g:H hl=some (.lst HS)) (hz:HS.length≤9000000) (h:gm p hl H (d::ds) HS) (hR:∀q∈d.aO p,q.length=d.l+d.r) (hn:(d.aO p).length≤400) (hw:d.l+d.r≤400) :
  Ac K D [some (.int p),some (.ref wl),some (.ref hl),some (.int num),s4,some (.str (Str.ofString "back")),s6,s7,s8,s9] H:=by
 refine Ec rfl (Kd rfl ?_);refine Ad (p:=p) (d:=d) (ds:=ds) rfl g h hz sm C.nI λa H1 nH s1 g1 z1 h1 _ t1=>?_;obtain⟨na,b,XS,ga,nb,gb,hL⟩:=t1;refine qp (.of ga) ?_;refine Ea (d:=.back d) (ds:=ds) rfl g1 (λR k=>?_) C.nI λH' iy s' g' h'=>C.nx _ _ _ _ _ _ _ iy H' s' g' (by rw[e];exact h') (λm hm=>by rw[e]at hm;cases hm);refine⟨_,rfl,_,rfl,_,rfl,b,rfl,⟨_,.of gb⟩,J5 (g:=D1.oz d.l) (cp:=[some (.int (d.l:Int))]) gb hL (by lia) (λx row H2 gI s2 gx=>?_) ?_⟩
 ·have DU:=hR row gI;refine qq (zU (a:=x) (ns:=row) rfl gx (jK rfl) (by lia)) (zT (a:=x) (ns:=row) rfl gx (jK rfl) (by lia)) ?_;simp only[cH,dH];lia
 ·rintro H2 MS s2 hM lm qW;refine⟨by show 3≤sizeLine;decide,λt ht=>?_⟩;obtain⟨s3,t3⟩:=fI.new (l:=d.r) (r:=d.l) s2 hM qW ht;exact k t _ nH (s1.trans s3) (s3 _ _ g1) z1 (h1.mono s3) (Eb g1 t3)
theorem acG{a b:D1.Dr}(pp:p∈cb)(C:wY p d0 wl hl H0 D i)(e:D1.gW (none,[d0]) i=(none,.aZ a b::ds))
  (sm:aL H0 H) (g:H hl=some (.lst HS)) (hz:HS.length≤9000000) (h:gm p hl H (a::b::ds) HS) (DA:b.l=a.r) (ra:Bw.bw p (a.l+a.r) (a.aO p)) (rb:Bw.bw p (b.l+b.r) (b.aO p)) (na:(a.aO p).length≤400) (nb:(b.aO p).length≤400) (wa:a.l+a.r≤400) (wb:b.l+b.r≤400) :
  Ac K D [some (.int p),some (.ref wl),some (.ref hl),some (.int num),s4,some (.str (Str.ofString "then")),s6,s7,s8,s9] H:=by
 refine Ec rfl (wX rfl (by decide) (Kd rfl ?_));refine Ad (p:=p) (d:=a) (ds:=b::ds) rfl g h hz sm C.nI λaa H1 nH s1 g1 z1 h1 _ t1=>?_;refine Ea (d:=.aZ a b) (ds:=ds) rfl g1 (λR k=>?_) C.nI λH' iy s' g' h'=>C.nx _ _ _ _ _ _ _ iy H' s' g' (by rw[e];exact h') (λm hm=>by rw[e]at hm;cases hm);refine⟨_,rfl,_,rfl,?_⟩;refine Ad (p:=p) (d:=b) (ds:=ds) rfl g1 h1 z1 s1 C.nI λbb H2 Ke s2 g2 z2 h2 up t2=>?_;rw[DA]at t2 rb wb;refine⟨p,aa,bb,a.l,a.r,b.r,_,_,rfl,pp,(up t1).weak λ_ _=>trivial,t2.weak λ_ _=>trivial,ra,rb,na,nb,wa,wb,λt H3 s3 t3=>?_⟩;exact k t H3 Ke (s2.trans s3) (s3 _ _ g2) z2 (h2.mono s3) (Eb g2 t3)
theorem acH{a b:D1.Dr}(C:wY p d0 wl hl H0 D i)(e:D1.gW (none,[d0]) i=(none,.cK a b::ds))
  (sm:aL H0 H) (g:H hl=some (.lst HS)) (hz:HS.length≤9000000) (h:gm p hl H (a::b::ds) HS) (ra:Bw.bw p (a.l+a.r) (a.aO p)) (rb:Bw.bw p (b.l+b.r) (b.aO p)) (na:(a.aO p).length≤400) (nb:(b.aO p).length≤400) (wa:a.l+a.r≤400) (wb:b.l+b.r≤400) :
  Ac K D [some (.int p),some (.ref wl),some (.ref hl),some (.int num),s4,some (.str (Str.ofString "beside")),s6,s7,s8,s9] H:=by
 refine Ec rfl (wX rfl (by decide) (wX rfl (by decide) (Kd rfl ?_)));refine Ad (p:=p) (d:=a) (ds:=b::ds) rfl g h hz sm C.nI λaa H1 nH s1 g1 z1 h1 _ t1=>?_;refine Ea (d:=.cK a b) (ds:=ds) rfl g1 (λR k=>?_) C.nI λH' iy s' g' h'=>C.nx _ _ _ _ _ _ _ iy H' s' g' (by rw[e];exact h') (λm hm=>by rw[e]at hm;cases hm);refine⟨_,rfl,?_⟩;refine Ad (p:=p) (d:=b) (ds:=ds) rfl g1 h1 z1 s1 C.nI λbb H2 Ke s2 g2 z2 h2 up t2=>?_;refine⟨aa,bb,a.l,a.r,b.l,b.r,_,_,rfl,(up t1).weak λ_ _=>trivial,t2.weak λ_ _=>trivial,λq hq=>(ra q hq).1,λq hq=>(rb q hq).1,na,nb,wa,wb,λt H3 s3 t3=>?_⟩;exact k t H3 Ke (s2.trans s3) (s3 _ _ g2) z2 (h2.mono s3) (Eb g2 t3)
theorem wZ(pp:p∈cb)(h:d.wf p∧d.cP 64):Bw.bw p (d.l+d.r) (d.aO p)∧(d.aO p).length≤400∧d.l+d.r≤400:=by
 obtain⟨h1,h2,_⟩:=D1.DK pp h.1
 have:=D1.Q5 (B:=64) (by decide) h.2
 exact⟨h1,by lia,by lia⟩
theorem acI{wd:D1.Wd}(pp:p∈cb)(C:wY p d0 wl hl H0 D i)(ok:D1.lZ p 64 (D1.gW (none,[d0]) i))
  (hw:(D1.mf (D1.gW (none,[d0]) i))[0]?=some wd) (sm:aL H0 H) (g:H hl=some (.lst HS)) (hz:HS.length≤9000000) (h:gm p hl H (D1.gW (none,[d0]) (i+1)).2 HS) (hn:∀m,(D1.gW (none,[d0]) (i+1)).1=some m→num=m) :
  Ac K D [some (.int p),some (.ref wl),some (.ref hl),some (.int num),s4,some (cG wd),s6,s7,s8,s9] H:=by
 have e1:D1.gW (none,[d0]) (i+1)=D1.uE (D1.gW (none,[d0]) i):=rfl;rw[e1]at h hn;generalize hs:D1.gW (none,[d0]) i=st at h hn ok hw;obtain⟨ν,ds⟩:=st;cases ν with
 |some m=>
  cases hw;exact acE rfl ⟨_,rfl,C.nx _ _ _ _ _ _ _ HS H sm g (by rw[hs];exact h) (λm' hm=>by rw[hs]at hm;cases hm;rfl)⟩
 |none=>
  cases ds with
  |nil=>cases hw
  |cons d ds=>
   have hd:=ok.2 d dN;cases d with
   |times n=>
    cases hw
    have:num=n:=hn n rfl
    subst this;exact rH (x := "times") (n':=num) C hs sm g hz h rfl rfl (by decide) (by decide) (by decide) (by decide)
   |id=>cases hw;exact rH (x := "id") (n':=1) C hs sm g hz h rfl rfl (by decide) (by decide) (by decide) (by decide)
   |swap=>cases hw;exact rH (x := "swap") (n':=1) C hs sm g hz h rfl rfl (by decide) (by decide) (by decide) (by decide)
   |copy=>cases hw;exact rH (x := "copy") (n':=1) C hs sm g hz h rfl rfl (by decide) (by decide) (by decide) (by decide)
   |fin=>cases hw;exact rH (x := "end") (n':=1) C hs sm g hz h rfl rfl (by decide) (by decide) (by decide) (by decide)
   |add=>cases hw;exact rH (x := "add") (n':=1) C hs sm g hz h rfl rfl (by decide) (by decide) (by decide) (by decide)
   |none=>cases hw;exact rH (x := "none") (n':=1) C hs sm g hz h rfl rfl (by decide) (by decide) (by decide) (by decide)
   |kh=>cases hw;exact rH (x := "cup") (n':=1) C hs sm g hz h rfl rfl (by decide) (by decide) (by decide) (by decide)
   |empty=>cases hw;exact rH (x := "empty") (n':=1) C hs sm g hz h rfl rfl (by decide) (by decide) (by decide) (by decide)
   |back d=>
    cases hw;obtain⟨r1,r2,r3⟩:=wZ pp (d:=d) hd;exact acF C hs sm g hz h (λq hq=>(r1 q hq).1) r2 r3
   |aZ a b=>
    cases hw;obtain⟨a1,a2,a3⟩:=wZ pp (d:=a) ⟨hd.1.1,hd.2.1⟩;obtain⟨b1,b2,b3⟩:=wZ pp (d:=b) ⟨hd.1.2.1,hd.2.2.1⟩;exact acG pp C hs sm g hz h hd.1.2.2.symm a1 b1 a2 b2 a3 b3
   |cK a b=>
    cases hw;obtain⟨a1,a2,a3⟩:=wZ pp (d:=a) ⟨hd.1.1,hd.2.1⟩;obtain⟨b1,b2,b3⟩:=wZ pp (d:=b) ⟨hd.1.2,hd.2.2.1⟩;exact acH C hs sm g hz h a1 b1 a2 b2 a3 b3
theorem acJ{f fB fT fS fR:Addr}{fd ma kY gG mj:FuncData}(F:bZ K "_law_meaning" "_law_meaning" CH f fd)(T:Txt mg)
  (GT:bf P w K mg base bj 3 fT kY ["p","one","other"] J6) (kT:Kp K fT) (bT:Binds K kY ["p","one","other"] []) (mT:Mg mg "_law_then" fT)
  (GS:bf P w K mg base bj 1 fS gG ["one","other"] J4) (kS:Kp K fS) (bS:Binds K gG ["one","other"] []) (mS:Mg mg "_law_beside" fS)
  (GB:bf P w K mg base bj 1 fB ma ["p","word","number"] D0) (kB:Kp K fB) (bB:Binds K ma ["p","word","number"] []) (mB:Mg mg "_law_box" fB)
  (GR:bf P w K mg base bj 3 fR mj ["p","rows","size"] (RY K)) (kR:Kp K fR) (bR:Binds K mj ["p","rows","size"] []) (mR:Mg mg "_law_reduced" fR) :
  bf P w K mg base bj 4 f fd ["p","words"] (SF K):=by
 refine F.ok mq (λvs H Q E h=>?_) (λbt A outer s H vs Q E hr h=>?_)
 ·obtain⟨p,a,d,rfl,_⟩:=h;rfl
 ·obtain⟨p,a,d,rfl,pp,ga,wf,nr,cE,q⟩:=h;have nj:dk 1 _:=hr.mono (by lia);refine⟨_,aX (bH (i:=2) mq.nd rfl (.inl rfl) (bE aM)) (aX (bH (i:=3) mq.nd rfl (.inl rfl) aR) (aX (jw jR rfl (vk rfl T.range (aK (dO (iX K rfl) rfl T.len iY (aK (pv 1) aM)) aM)) (cj (i:=4) mq.nd rfl (.inl rfl)) (aX (bH (i:=5) mq.nd rfl (.inl rfl) (bh (cA K rfl) (pv 1) (aV jU (aV jU (dO (iX K rfl) rfl T.len iY (aK (pv 1) aM)) aR) (pv 4)) (λ_ _=>rfl))) (bg (cN (ju (dO (SE K rfl (T := "int")) rfl T.isinstance n8 (aK (pv 5) (aK (qT rfl T.int yv) aM)))) (bg (bH (i:=3) mq.nd rfl (.inl rfl) (pv 5))) (bg (cN (cC dM (pv 5) cq (cx _)) (aX (lM (vT K rfl (pv 2)) (o7 rfl (dJ (cj (i:=6) mq.nd rfl (Or.inr rfl)) (dJ (cj (i:=7) mq.nd rfl (.inl rfl)) (dJ (cj (i:=8) mq.nd rfl (.inl rfl)) jT))))) (bg (jv (p8 pY tH tI qM (pv 2) (aK (bE (aK (pv 7) (aK (pv 6) (aK (mY (N:=["row","left"]) (own:=1) (caps:=[6]) rfl (ir K rfl (pv 8)) (show dR nMn (bq CH) ["row","left"] 1 [6] _ from .mk' (by decide +kernel)) (λ_ _ _ _ _=>cj (i:=0) ny1 rfl (.inl rfl)) (λ_ _ _ _ _=>gz) (λ_ _ _ _ _=>aV dh (dB (fH K rfl) (pv 0) (cZ (pv 1)) dZ) (dB (fH K rfl) (pv 0) dZ (cZ (pv 1))))) aM)))) aM))))) (bg (cN (cC dM (pv 5) cq (cx _)) (aX (bH (i:=9) mq.nd rfl (.inl rfl) (vT K rfl (pv 2))) (bg (jv (p8 pY tH tI qM (pv 2) (aK (ck GT hr rfl mT kT bT .nil cu (aK (pv 0) (aK (pv 9) (aK (vT K rfl (pv 2)) aM)))) aM))))) (bg (cN (cC dM (pv 5) cq (cx _)) (aX (bH (i:=9) mq.nd rfl (.inl rfl) (vT K rfl (pv 2))) (bg (jv (p8 pY tH tI qM (pv 2) (aK (ck GS nj rfl mS kS bS .nil cu (aK (pv 9) (aK (vT K rfl (pv 2)) aM))) aM))))) (bg (jv (p8 pY tH tI qM (pv 2) (aK (ck GB nj rfl mB kB bB .nil cu (aK (pv 0) (aK (pv 5) (aK (bh (cA K rfl) (bE (aK aR (aK (pv 3) aM))) (fw V7 rfl T.int yv (aK (nV dM (pv 5) cq (cx _)) aM)) (λ_ _=>rfl)) aM)))) aM)))))))))))))) (aX (lM (bh (cA K rfl) (pv 2) aR (λ_ _=>rfl)) (o7 rfl (dJ (cj (i:=6) mq.nd rfl (Or.inr rfl)) (dJ (cj (i:=7) mq.nd rfl (.inl rfl)) (dJ (cj (i:=8) mq.nd rfl (.inl rfl)) jT))))) (bg (bY (bE (aK (pv 6) (aK (pv 7) (aK (ck GR hr rfl mR kR bR .nil cu (aK (pv 0) (aK (pv 8) (aK (aV eB (pv 6) (pv 7)) aM)))) aM))))))))),?_⟩
  have z9:(9000000:Nat)<sizeLine:=by decide
  refine⟨by decide,λhl SH=>?_⟩;have s0:aL H (upd H hl (.lst [])):=.upd SH;have g0:(upd H hl (.lst [])) hl=some (.lst []):=aQ;generalize upd H hl (.lst [])=H0 at s0 g0 ⊢;have eN:(d.aN.map cG).length=d.aN.length:=ba _;have okd:D1.lZ p 64 (none,[d]):=⟨λm e=>(nomatch e),λd' h'=>by rw[cR.mp h'];exact⟨wf,nr⟩⟩;refine⟨_,rfl,a,_,rfl,.inl (.of (s0 _ _ ga)),_,rfl,by lia,by lia,xO (n:=(d.aN.map cG).length) (λk σ H'=>aL H H'∧∃num s4 s5 s6 s7 s8 s9 HS,σ=[some (.int p),some (.ref a),some (.ref hl),some (.int num),s4,s5,s6,s7,s8,s9]∧H' hl=some (.lst HS)∧gm p hl H' (D1.gW (none,[d]) (d.aN.length-k)).2 HS∧∀m,(D1.gW (none,[d]) (d.aN.length-k)).1=some m→num=m) ⟨s0,1,none,none,none,none,none,none,[],rfl,g0,?_,λm e=>?_⟩ ?_ ?_⟩
  ·rw[Nat.sub_zero,D1.Q7];exact .nil
  ·rw[Nat.sub_zero,D1.Q7]at e;cases e
  ·rintro k σ H1 hk ⟨sm,num,s4,s5,s6,s7,s8,s9,HS,rfl,g,hH,hn⟩;rw[eN]at hk;rw[kl];obtain⟨i,hi⟩:∃i,d.aN.length-k=i+1:=⟨d.aN.length-k-1,by lia⟩;rw[hi]at hH hn;have vL:d.aN.length-(k+1)=i:=by lia
   have j6:i<d.aN.length:=by lia
   have hw:=D1.abE (d:=d) (i:=i);rw[cg j6]at hw;have lY:=D1.abF d (i+1);have hz:=hH.len;refine⟨_,rfl,_,rfl,a,_,rfl,.inl (.of (sm _ _ ga)),_,_,rfl,rfl,_,rfl,_,_,rfl,rfl,a,_,(i:Int),cG (d.aN[i]),rfl,?_,.of (sm _ _ ga),bu (by rw[eE,cg j6];rfl),?_⟩
   ·refine aj V.int ?_;rw[eN];lia
   refine acI pp (⟨SH,λacK s4' s5' s6' s7' s8' s9' iy H' s' g' h' xG=>?_⟩:wY p d a hl H _ i) (D1.Q6 okd i) hw.symm sm g (by lia) hH hn;refine⟨s',acK,s4',s5',s6',s7',s8',s9',iy,rfl,g',?_,?_⟩
   ·rw[vL];exact h'
   ·rw[vL];exact xG
  ·rintro σ H1 ⟨sm,num,s4,s5,s6,s7,s8,s9,HS,rfl,g,hH,hn⟩;rw[eN,Nat.sub_self]at hH;obtain⟨t,iy,rfl,⟨nt,b,XS,gt,nb,gb,hL⟩,eU⟩:=gm.pop (d:=d) (ds:=[]) hH;cases eU;obtain⟨r1,r2,r3⟩:=wZ pp ⟨wf,nr⟩;refine⟨_,rfl,hl,_,0,.ref t,rfl,rfl,.of g,bu (j:=0) rfl,qp (.of gt) ?_⟩;refine⟨_,rfl,_,rfl,_,rfl,_,rfl,_,rfl,_,rfl,_,_,rfl,rfl,p,b,XS,d.aO p,d.l+d.r,?_,pp,gb,hL.weak λ_ _=>trivial,by lia,by lia,r1,λu H2 DS s2 h2 h3=>⟨by show 3≤sizeLine;lia,λv hv=>?_⟩⟩
   ·rw[tJ];rfl
   ·exact q v _ u DS ((sm.trans s2).trans (.upd hv)) aQ ((aL.upd hv).bo h2) (h3.mono (.upd hv))
def WL(H:Hp)(b:Addr)(d:D1.Dr):Prop:=H b=some (.lst (d.aN.map cG))
def WT(H:Hp)(a:Addr)(d:D1.Dr):Prop:=∃b,H a=some (.lst [.ref b,.int (d.l:Int),.int (d.r:Int)])∧WL H b d
def iz(H:Hp)(vs:List V)(ds:List D1.Dr):Prop:=vs.length=ds.length∧∀(i:Nat)(v:V)(d:D1.Dr),vs[i]?=some v→ds[i]?=some d→∃a,v=.ref a∧WT H a d
theorem WT.mono{H':Hp}(h:WT H a d)(s:aL H H'):WT H' a d:=let ⟨b,g1,g2⟩:=h;⟨b,s _ _ g1,s _ _ g2⟩
theorem iz.mono{H H':Hp}{vs:List V}{ds:List D1.Dr}(h:iz H vs ds)(s:aL H H'):iz H' vs ds:=⟨h.1,λi v d e1 e2=>let ⟨a,e,w⟩:=h.2 i v d e1 e2;⟨a,e,w.mono s⟩⟩
theorem iz.nil:iz H [] []:=⟨rfl,λi v d e=>by simp at e⟩
theorem iz.cons(h:WT H a d)(r:iz H vs ds):iz H (.ref a::vs) (d::ds):=⟨by rw[eO,eO,r.1],λi v d' e1 e2=>by
 cases i with
 |zero=>cases e1;cases e2;exact⟨a,rfl,h⟩
 |succ i=>exact r.2 i v d' e1 e2⟩
theorem iz.append{ws:List V}{es:List D1.Dr}(h:iz H vs ds)(k:iz H ws es):iz H (vs++ws) (ds++es):=⟨by rw[bK,bK,h.1,k.1],λi v d e1 e2=>by
 by_cases hi:i<vs.length
 ·rw[gy hi]at e1;rw[gy (by rw[← h.1];exact hi)]at e2;exact h.2 i v d e1 e2
 ·rw[iC (by lia)]at e1;rw[iC (by rw[← h.1];lia),← h.1]at e2;exact k.2 _ v d e1 e2⟩
noncomputable def Ae:List Expr→Option (List Str)
 | []=>some []
 | .Constant (.str x) _ _::es=>(Ae es).map (x::·)
 |_=>none
theorem SI{X:Cx}:∀(es:List Expr)(xs:List Str),Ae es=some xs→PA X es (λ_ H Q=>Q (xs.map V.str) H)
 | [],xs,h=>by cases h;exact aM
 |e::es,xs,h=>by
  unfold Ae at h;split at h
  case h_1=>rename_i z;cases z
  case h_2 x _ _ es' z=>
   cases z;cases e:Ae es with
   |none=>rw[e]at h;cases h
   |some ys=>
    rw[e]at h;cases h;exact aK cq (SI es ys e)
  case h_3=>cases h
noncomputable def Kf:Expr→Option (List Str×Int×Int)
 | .List [.List ws _,.Constant (.int l) _ _,.Constant (.int r) _ _] _=>match Ae ws with
  |some xs=>some (xs,l,r)
  |none=>none
 |_=>none
def nJ(ws:List Str)(l r:Int):TE:=cS (aY (cS (λ_ H Q=>Q (ws.map V.str) H)) (aY (tC (.int l)) (aY (tC (.int r)) bV)))
theorem acL{X:Cx}{e:Expr}{ws:List Str}{l r:Int}(h:Kf e=some (ws,l,r)):PE X e (nJ ws l r):=by
 unfold Kf at h;split at h
 case h_2=>exact nomatch h
 case h_1 w p1 l' i1 p2 r' i2 p3 pos=>
  split at h
  case h_2=>exact nomatch h
  case h_1 xs h1=>
   cases h;exact bE (aK (bE (SI w _ h1)) (aK aR (aK aR aM)))
section
variable{K:Frag}{σ:St}{H:Hp}
def Kg(te:TE)(σ:St)(H:Hp)(d:D1.Dr):Prop:=∀H',aL H H'→∀R:VK,(∀a eV,aL H' eV→WT eV a d→R (.ref a) eV)→te σ H' R
def Ed(ta:TA)(σ:St)(H:Hp)(ds:List D1.Dr):Prop:=∀H',aL H H'→∀Q:List V→Hp→Prop,(∀vs eV,aL H' eV→iz eV vs ds→Q vs eV)→ta σ H' Q
theorem Kh:Ed bV σ H []:=λH' _ _ q=>q [] H' (.refl _) .nil
theorem pM{ta:TA}(h:Kg te σ H d)(k:Ed ta σ H ds):Ed (aY te ta) σ H (d::ds):=λH' s _ q=>
 h H' s _ λ_ H1 s1 w=>k H1 (s.trans s1) _ λ_ H2 s2 r=>q _ H2 (s1.trans s2) (.cons (w.mono s2) r)
theorem qu{ws:List Str}{l r:Int}(hw:ws.map V.str=d.aN.map cG)(hl:l=d.l)(hr:r=d.r)(hn:ws.length≤10):Kg (nJ ws l r) σ H d:=λH' s R q=>by
 have z:(10:Nat)≤sizeLine:=by decide
 refine⟨by rw[ba];lia,λb hb=>⟨by show 3≤sizeLine;lia,λa ha=>q a _ ((aL.upd hb).trans (.upd ha)) ⟨b,?_,?_⟩⟩⟩
 ·rw[aQ,hl,hr]
 ·show _=_;rw[← hw];exact aL.upd ha _ _ aQ
theorem acM{k:Int}(h:σ[i]?=some (some (.int k))):Kg (cS (aY (cS (aY (tC (.str (Str.ofString "times"))) (aY (aW i) bV))) (aY (tC (.int 1)) (aY (tC (.int 1)) bV)))) σ H (.times k):=λH' s R q=>
 ⟨_,h,by show 2≤sizeLine;decide,λb hb=>⟨by show 3≤sizeLine;decide,λa ha=>q a _ ((aL.upd hb).trans (.upd ha)) ⟨b,aQ,aL.upd ha _ _ aQ⟩⟩⟩
end
def Ee(_K:Frag):Sp:=λvs H Q _=>∃(p c:Int),vs=[.int p,.int c]∧p∈cb∧∀a d H',aL H H'→WT H' a d→d.wf p→d.cP 64→d.aN.length≤3→d.l+d.r≤4→Q (.ref a) H'
theorem sQ:c8 ["p","cell","k","some","words","left","right"] ["p","cell"] (bq Ib):=dv rfl rfl rfl (by decide +kernel) rfl
def Ef:TE:=cS (aY (nJ ["id"] 1 1) (aY (nJ ["swap"] 2 2) (aY (nJ ["copy"] 1 2) (aY (nJ ["end"] 1 0) (aY (nJ ["add"] 2 1) bV)))))
def Eg:TE:=cS (aY (nJ ["none"] 0 1) (aY (cS (aY (cS (aY (tC (.str (Str.ofString "times"))) (aY (aW 2) bV))) (aY (tC (.int 1)) (aY (tC (.int 1)) bV)))) (aY (nJ ["cup"] 0 2) (aY (nJ ["empty"] 0 0) bV))))
def Eh:TE:=cS (aY (nJ ["copy"] 1 2) (aY (nJ ["add"] 2 1) bV))
def Ki(K:Frag):TS:=cI (dj (bp (jV K) (aW 3) (bp (rI (λ_ j=>0<j) λi j=>.int (i%j)) (aW 1) (tC (.int 11)))) (tX K 3 (iE (bN 4) (iE (bN 5) (iE (bN 6) rQ)))))
 (cI (eG (jx (bp oY (bp (rI (λ_ j=>0<j) λi j=>.int (i%j)) (bp (rI qK λi j=>.int (i/j)) (aW 1) (tC (.int 11))) (tC (.int 4))) (tC (.int 1)))) (fK (cS (aY (bp eh (cS (aY (tC (.str (Str.ofString "back"))) bV)) (aW 4)) (aY (aW 6) (aY (aW 5) bV))))) ik) (fK (cS (aY (aW 4) (aY (aW 5) (aY (aW 6) bV))))))
theorem Kj{ta:TA}(h:Ed ta σ H ds)(hl:ds.length≤100)(q:∀a vs H',aL H H'→H' a=some (.lst vs)→iz H' vs ds→R (.ref a) H'):cS ta σ H R:=by
 have z:(100:Nat)≤sizeLine:=by decide
 refine h H (.refl _) _ λvs H1 s1 hd=>⟨by rw[hd.1];lia,λa ha=>?_⟩;exact q a vs _ (s1.trans (.upd ha)) aQ (hd.mono (.upd ha))
noncomputable def Ei(k:Int):List D1.Dr:=([.id,.swap,.copy,.fin,.add]++[.none,.times k,.kh,.empty])++[.copy,.add]
theorem acN{k:Int}(h0:0≤k)(h1:k<p)(h:(Ei k)[i]?=some d):d.wf p∧d.cP 64∧d.aN.length≤2∧d.l+d.r≤4:=by
 have:=da h
 simp only[Ei,c9,dP,xu,or_false]at this;rcases this with((rfl|rfl|rfl|rfl|rfl)|(rfl|rfl|rfl|rfl))|(rfl|rfl);all_goals first
  |exact⟨True.intro,True.intro,by decide,by decide⟩
  |exact⟨⟨h0,h1⟩,True.intro,Nat.le.refl,by show 1+1≤4;decide⟩
theorem acO{K:Frag}{c k:Int}(h0:0≤k)(h1:k<p)(g:H a=some (.lst vs))(hd:iz H vs (Ei k))(q:∀a d H',aL H H'→WT H' a d→d.wf p→d.cP 64→d.aN.length≤3→d.l+d.r≤4→D.rt (.ref a) H'):Ki K D [some (.int p),some (.int c),some (.int k),some (.ref a),none,none,none] H:=by
 have z:(100:Nat)≤sizeLine:=by decide
 have cE:vs.length=11:=hd.1;have b0:=jr c (show(11:Int)≠0 by decide);have b1:=js c (show(0:Int)<11 by decide);obtain⟨i,hi⟩:∃i:Nat,c%11=(i:Int):=⟨(c%11).toNat,by lia⟩;obtain⟨v,hv⟩:∃v,vs[i]?=some v:=⟨_,cg (show i<vs.length by lia)⟩;obtain⟨d,SJ⟩:∃d,(Ei k)[i]?=some d:=⟨_,cg (show i<11 by lia)⟩;obtain⟨v,rfl,b,gv,gb⟩:=hd.2 i _ d hv SJ;obtain⟨w1,w2,w3,w4⟩:=acN h0 h1 SJ;refine⟨_,rfl,_,rfl,c,11,rfl,rfl,(by decide:(0:Int)<11),a,vs,c%11,.ref v,rfl,rfl,.of g,by rw[hi];exact bu hv,qp (.of gv) ?_⟩;refine⟨_,rfl,c,11,rfl,rfl,⟨by decide,by decide⟩,c/11,4,rfl,rfl,(by decide:(0:Int)<4),rfl,_,rfl,?_⟩;dsimp only;split
 ·refine⟨by show 1≤sizeLine;lia,λt ht=>⟨_,rfl,t,b,_,_,rfl,rfl,aQ,aL.upd ht _ _ gb,by rw[ba];show 1+_≤sizeLine;lia,λe he=>⟨_,rfl,_,rfl,by show 3≤sizeLine;lia,λx hx=>?_⟩⟩⟩;refine q x (.back d) _ ((aL.upd ht).trans ((aL.upd he).trans (.upd hx))) ⟨e,aQ,aL.upd hx _ _ aQ⟩ w1 w2 (by show d.aN.length+1≤3;lia) (by show d.r+d.l≤4;lia)
 ·refine⟨_,rfl,_,rfl,_,rfl,by show 3≤sizeLine;lia,λx hx=>?_⟩;exact q x d _ (.upd hx) ⟨b,aQ,aL.upd hx _ _ gb⟩ w1 w2 (by lia) w4
theorem i7(h:te σ H λx H1=>u D (σ.set i (some x)) H1):cI (dj te (bN i)) u D σ H:=h
theorem acP(q:∀a vs H',aL H H'→H' a=some (.lst vs)→iz H' vs [.id,.swap,.copy,.fin,.add]→R (.ref a) H'):Ef σ H R:=by
 unfold Ef;refine Kj (pM ?_ (pM ?_ (pM ?_ (pM ?_ (pM ?_ Kh))))) ?_ q
 ·exact qu rfl rfl rfl (by decide)
 ·exact qu rfl rfl rfl (by decide)
 ·exact qu rfl rfl rfl (by decide)
 ·exact qu rfl rfl rfl (by decide)
 ·exact qu rfl rfl rfl (by decide)
 ·exact va rfl
theorem acQ{k:Int}(h:σ[2]?=some (some (.int k)))(q:∀a vs H',aL H H'→H' a=some (.lst vs)→iz H' vs [.none,.times k,.kh,.empty]→R (.ref a) H'):Eg σ H R:=by
 unfold Eg;refine Kj (pM ?_ (pM ?_ (pM ?_ (pM ?_ Kh)))) ?_ q
 ·exact qu rfl rfl rfl (by decide)
 ·exact acM h
 ·exact qu rfl rfl rfl (by decide)
 ·exact qu rfl rfl rfl (by decide)
 ·exact va rfl
theorem acR(q:∀a vs H',aL H H'→H' a=some (.lst vs)→iz H' vs [.copy,.add]→R (.ref a) H'):Eh σ H R:=by
 unfold Eh;refine Kj (pM ?_ (pM ?_ Kh)) ?_ q
 ·exact qu rfl rfl rfl (by decide)
 ·exact qu rfl rfl rfl (by decide)
 ·exact va rfl
theorem SK{b:Addr}{ws:List V}{es:List D1.Dr}(g:H a=some (.lst vs))(g':H b=some (.lst ws))(hd:iz H vs ds)(he:iz H ws es)(hl:ds.length+es.length≤100)(q:∀c H',aL H H'→H' c=some (.lst (vs++ws))→iz H' (vs++ws) (ds++es)→R (.ref c) H'):eh (.ref a) (.ref b) H R:=by
 have z:(100:Nat)≤sizeLine:=by decide
 refine⟨a,b,vs,ws,rfl,rfl,g,g',by rw[hd.1,he.1];lia,λc hc=>q c _ (.upd hc) aQ ((hd.append he).mono (.upd hc))⟩
theorem SM{f:Addr}{fd:FuncData}(F:bZ K "_law_some_box" "_law_some_box" Ib f fd):bf P w K mg base bj 1 f fd ["p","cell"] (Ee K):=by
 refine F.ok sQ (λvs H Q E h=>?_) (λbt A outer s H vs Q E hr h=>?_)
 ·obtain⟨p,c,rfl,_⟩:=h;rfl
 ·obtain⟨p,c,rfl,pp,q⟩:=h;refine⟨cI (dj (bp (rI (λ_ j=>0<j) λi j=>.int (i%j)) (bp (rI qK λi j=>.int (i/j)) (aW 1) (tC (.int 40))) (aW 0)) (bN 2)) (cI (dj Ef (bN 3)) (cI (dj (bp eh (aW 3) Eg) (bN 3)) (cI (dj (bp eh (aW 3) Eh) (bN 3)) (Ki K)))),?_,?_⟩
  ·refine aX ?_ ?_
   ·exact bH (i:=2) sQ.nd rfl (.inl rfl) (aV ft (aV iU (pv 1) aR) (pv 0))
   have bx:∀{X:Cx}{e:Expr}{es:List Expr}{ws:List Str}{l r:Int}{t:TA},Kf e=some (ws,l,r)→PA X es t→starEach (e::es) X.env=(false,eval e X.env)::starEach es X.env→PA X (e::es) (aY (nJ ws l r) t):=λh k hs=>aK (acL h) k hs;refine aX ?_ ?_
   ·refine bH (i:=3) ?_ ?_ ?_ ?_ ?_ ?_
    ·exact sQ.nd
    ·rfl
    ·exact Or.inl rfl
    ·unfold Ef;refine bE ?_;refine bx ?_ ?_ ?_
     ·kernel_rfl
     rotate_left
     ·rfl
     refine bx ?_ ?_ ?_
     ·kernel_rfl
     rotate_left
     ·rfl
     refine bx ?_ ?_ ?_
     ·kernel_rfl
     rotate_left
     ·rfl
     refine bx ?_ ?_ ?_
     ·kernel_rfl
     rotate_left
     ·rfl
     refine bx ?_ ?_ ?_
     ·kernel_rfl
     rotate_left
     ·rfl
     exact aM
    ·rfl
    ·exact .inl rfl
   refine aX ?_ ?_
   ·refine bH (i:=3) ?_ ?_ ?_ ?_ ?_ ?_
    ·exact sQ.nd
    ·rfl
    ·exact Or.inl rfl
    ·refine aV dh (pv 3) ?_;unfold Eg;refine bE ?_;refine bx ?_ ?_ ?_
     ·kernel_rfl
     rotate_left
     ·rfl
     refine aK ?_ ?_ ?_
     ·exact bE (aK (bE (aK cq (aK (pv 2) aM))) (aK aR (aK aR aM)))
     ·refine bx ?_ ?_ ?_
      ·kernel_rfl
      rotate_left
      ·rfl
      refine bx ?_ ?_ ?_
      ·kernel_rfl
      rotate_left
      ·rfl
      exact aM
     ·rfl
    ·rfl
    ·exact .inl rfl
   refine aX ?_ ?_
   ·refine bH (i:=3) ?_ ?_ ?_ ?_ ?_ ?_
    ·exact sQ.nd
    ·rfl
    ·exact Or.inl rfl
    ·refine aV dh (pv 3) ?_;unfold Eh;refine bE ?_;refine bx ?_ ?_ ?_
     ·kernel_rfl
     rotate_left
     ·rfl
     refine bx ?_ ?_ ?_
     ·kernel_rfl
     rotate_left
     ·rfl
     exact aM
    ·rfl
    ·exact .inl rfl
   unfold Ki;refine aX ?_ ?_
   ·exact lM (bh (cA K rfl) (pv 3) (aV ft (pv 1) aR) (λ_ _=>rfl)) (o7 rfl (dJ (cj (i:=4) sQ.nd rfl (.inl rfl)) (dJ (cj (i:=5) sQ.nd rfl (.inl rfl)) (dJ (cj (i:=6) sQ.nd rfl (.inl rfl)) jT))))
   refine aX ?_ ?_
   ·exact cN (cC dM (aV ft (aV iU (pv 1) aR) aR) aR (cx _)) (bg (bY (bE (aK (aV dh (bE (aK cq aM)) (pv 4)) (aK (pv 6) (aK (pv 5) aM)))))) df
   ·exact bg (bY (bE (aK (pv 4) (aK (pv 5) (aK (pv 6) aM)))))
  have p0:0<p:=by have:=(eI p pp).1;lia
  have k0:=jr (c/40) (show p≠0 by lia);have k1:=js (c/40) p0;refine i7 ⟨_,rfl,c,40,rfl,rfl,⟨by decide,by decide⟩,_,rfl,c/40,p,rfl,rfl,p0,?_⟩;dsimp only;generalize c/40%p=k at k0 k1 ⊢;refine i7 (acP λa1 v1 H1 s1 g1 d1=>?_);refine i7 ⟨_,rfl,acQ rfl λa2 v2 H2 s2 g2 d2=>?_⟩;refine SK (s2 _ _ g1) g2 (d1.mono s2) d2 (va rfl) λa3 H3 s3 g3 d3=>?_;refine i7 ⟨_,rfl,acR λa4 v4 H4 s4 g4 d4=>?_⟩;refine SK (s4 _ _ g3) g4 (d3.mono s4) d4 (va rfl) λa5 H5 s5 g5 d5=>?_;exact acO k0 k1 g5 d5 λa d H' s'=>q a d H' (s1.trans (s2.trans (s3.trans (s4.trans (s5.trans s')))))
end S21
namespace D1
noncomputable def jM:List Dr→Dr
 | []=>.empty
 | [d]=>d
 |d::e::ds=>.cK d (jM (e::ds))
noncomputable def pN(ds:List Dr):List Wd:=ds.flatMap λd=>.w "beside"::d.aN
theorem Ej:∀(es:List Dr)(d:Dr),(jM (es++[d])).aN=pN es++d.aN
 | [],d=>rfl
 | [e],d=>by
  show Wd.w "beside"::(e.aN++d.aN)=((Wd.w "beside"::e.aN)++[])++d.aN;rw[iB];rfl
 |e::f::es,d=>by
  show Wd.w "beside"::(e.aN++(jM ((f::es)++[d])).aN)=_;rw[Ej (f::es) d];show _=(Wd.w "beside"::e.aN)++pN (f::es)++d.aN;rw[i9,tu]
theorem Af{B:Nat}:∀(es:List Dr),(∀e∈es,e.aN.length≤B)→(pN es).length≤es.length*(B+1)
 | [],_=>jq _
 |e::es,h=>by
  have h1:=h e (.head _);have h2:=Af es λx hx=>h x (.tail _ hx);show((Wd.w "beside"::e.aN)++pN es).length≤(es.length+1)*(B+1);rw[bK,eO,Nat.add_mul];lia
theorem acS(es:List Dr)(e:Dr):pN (es++[e])=pN es++([.w "beside"]++e.aN):=by
 unfold pN;rw[List.flatMap_append];show _++((Wd.w "beside"::e.aN)++[])=_;rw[iB];rfl
noncomputable def lX(ds:List Dr):Nat:=ds.foldr (λd n=>d.l+n) 0
noncomputable def nK(ds:List Dr):Nat:=ds.foldr (λd n=>d.r+n) 0
theorem Ag:∀ds:List Dr,(jM ds).l=lX ds
 | []=>rfl
 | [_]=>rfl
 |d::e::ds=>by
  show d.l+(jM (e::ds)).l=d.l+lX (e::ds);rw[Ag (e::ds)]
theorem Ah:∀ds:List Dr,(jM ds).r=nK ds
 | []=>rfl
 | [_]=>rfl
 |d::e::ds=>by
  show d.r+(jM (e::ds)).r=d.r+nK (e::ds);rw[Ah (e::ds)]
theorem Kk{p:Int}:∀ds:List Dr,(∀d∈ds,d.wf p)→(jM ds).wf p
 | [],_=>True.intro
 | [_],h=>h _ (.head _)
 |d::e::ds,h=>⟨h d (.head _),Kk (e::ds) λx hx=>h x (.tail _ hx)⟩
theorem Kl{B:Nat}:∀ds:List Dr,(∀d∈ds,d.cP B)→lX ds+nK ds≤B→(jM ds).cP B
 | [],_,_=>True.intro
 | [_],h,_=>h _ (.head _)
 |d::e::ds,h,hb=>by
  have el:=Ag (e::ds);have er:=Ah (e::ds);have hl:lX (d::e::ds)=d.l+lX (e::ds):=rfl;have hr:nK (d::e::ds)=d.r+nK (e::ds):=rfl;refine⟨h d (.head _),Kl (e::ds) (λx hx=>h x (.tail _ hx)) (by lia),?_⟩;lia
theorem Km:∀a b:List Dr,lX (a++b)=lX a+lX b
 | [],b=>(tF _).symm
 |d::a,b=>by
  show d.l+lX (a++b)=d.l+lX a+lX b;rw[Km a b,Nat.add_assoc]
theorem Kn:∀a b:List Dr,nK (a++b)=nK a+nK b
 | [],b=>(tF _).symm
 |d::a,b=>by
  show d.r+nK (a++b)=d.r+nK a+nK b;rw[Kn a b,Nat.add_assoc]
theorem Ai:∀n,lX (List.replicate n .id)=n
 |0=>rfl
 |n+1=>by
  show 1+lX (List.replicate n .id)=n+1;rw[Ai n,Nat.add_comm]
theorem Aj:∀n,nK (List.replicate n .id)=n
 |0=>rfl
 |n+1=>by
  show 1+nK (List.replicate n .id)=n+1;rw[Aj n,Nat.add_comm]
end D1
namespace S21
open PySem L2 Bw
variable{H:Hp}{N:St→Hp→Prop}{R:VK}{b f u v:Addr}{d:D1.Dr}{ds:List D1.Dr}{fd:FuncData}{i j m:Nat}{σ:St}
def jN(H:Hp)(vs:List V)(ds:List D1.Dr):Prop:=vs.length=ds.length∧∀(i:Nat)(v:V)(d:D1.Dr),vs[i]?=some v→ds[i]?=some d→∃a,v=.ref a∧WL H a d
theorem jN.mono{H':Hp}{vs:List V}(h:jN H vs ds)(s:aL H H'):jN H' vs ds:=⟨h.1,λi v d e1 e2=>let ⟨a,e,w⟩:=h.2 i v d e1 e2;⟨a,e,s _ _ w⟩⟩
theorem jN.append{vs ws:List V}{es:List D1.Dr}(h:jN H vs ds)(k:jN H ws es):jN H (vs++ws) (ds++es):=⟨by rw[bK,bK,h.1,k.1],λi v d e1 e2=>by
 by_cases hi:i<vs.length
 ·rw[gy hi]at e1;rw[gy (by rw[← h.1];exact hi)]at e2;exact h.2 i v d e1 e2
 ·rw[iC (by lia)]at e1;rw[iC (by rw[← h.1];lia),← h.1]at e2;exact k.2 _ v d e1 e2⟩
theorem jN.one(h:WL H b d):jN H [.ref b] [d]:=⟨rfl,λi v d' e1 e2=>by
 cases i with
 |zero=>cases e1;cases e2;exact⟨b,rfl,h⟩
 |succ i=>cases e1⟩
theorem jN.rep(h:WL H b d)(n:Nat):jN H (List.replicate n (.ref b)) (List.replicate n d):=⟨by rw[dq,dq],λi v d' e1 e2=>by
 have m1:=mE (da e1);have m2:=mE (da e2);subst m1 m2;exact⟨b,rfl,h⟩⟩
theorem SN(xs:List V)(v:V):fh (xs++[v]) none (some (-1))=xs:=by
 have es:HT.cF (xs++[v]).length (xs++[v]).length (some (-1))=xs.length:=by
  show(if(-1:Int)<0 then(-1+((xs++[v]).length:Int)).toNat else min (-1:Int).toNat (xs++[v]).length)=xs.length
  rw[af (by decide),bK];show(-1+((xs.length+1:Nat):Int)).toNat=xs.length;lia
 unfold fh;rw[es,HT.xU,List.drop_zero,Nat.sub_zero,List.take_left]
def w6(_K:Frag):Sp:=λvs H Q _=>∃(a b:Addr)(VS:List V)(es:List D1.Dr)(d:D1.Dr),vs=[.ref a]∧H a=some (.lst (VS++[.ref b]))∧jN H VS es∧WL H b d∧es.length≤50∧(∀e∈es,e.aN.length≤50)∧d.aN.length≤50∧∀c H',aL H H'→WL H' c (D1.jM (es++[d]))→Q (.ref c) H'
theorem sR:c8 ["parts","words","part"] ["parts"] (bq CI):=dv rfl rfl rfl (by decide +kernel) rfl
theorem SO(F:bZ K "_law_beside_all" "_law_beside_all" CI f fd):bf P w K mg base bj 1 f fd ["parts"] (w6 K):=by
 refine F.ok sR (λvs H Q E h=>?_) (λbt A outer s H vs Q E hr h=>?_)
 ·obtain⟨a,b,VS,es,d,rfl,_⟩:=h;rfl
 ·obtain⟨a,b,VS,es,d,rfl,ga,hV,hb,le,lw,lw',q⟩:=h;have z:(10000:Nat)≤sizeLine:=by decide
  refine⟨_,aX (bH (i:=1) sR.nd rfl (.inl rfl) (bE aM)) (aX (jw jR rfl (ir K rfl (dB (fH K rfl) (pv 0) dZ (cZ (rT rV aR)))) (cj (i:=2) sR.nd rfl (.inl rfl)) (bg (bH (i:=1) sR.nd rfl (.inl rfl) (aV dh (aV dh (pv 1) (bE (aK cq aM))) (pv 2))))) (bg (bY (aV dh (pv 1) (bh (cA K rfl) (pv 0) (rT rV aR) (λ_ _=>rfl)))))),?_⟩;refine⟨by decide,λl0 h0=>?_⟩;have s0:aL H (upd H l0 (.lst [])):=.upd h0;have g0:(upd H l0 (.lst [])) l0=some (.lst ((D1.pN []).map cG)):=aQ;generalize upd H l0 (.lst [])=H0 at s0 g0 ⊢;refine⟨_,rfl,_,rfl,_,rfl,a,_,rfl,.of (s0 _ _ ga),λl1 h1=>?_⟩;rw[show(-1:Int)=-1 from rfl,SN]
  have s1:aL H (upd H0 l1 (.lst VS)):=s0.trans (.upd h1);have g1:(upd H0 l1 (.lst VS)) l1=some (.lst VS):=aQ;have Ak:(upd H0 l1 (.lst VS)) l0=some (.lst ((D1.pN (es.take 0)).map cG)):=aL.upd h1 _ _ g0;generalize upd H0 l1 (.lst VS)=H1 at s1 g1 Ak ⊢;refine⟨l1,rfl,⟨_,.of g1⟩,vm (xs:=VS) (λi σ H'=>aL H1 H'∧∃lp s2,σ=[some (.ref a),some (.ref lp),s2]∧H' lp=some (.lst ((D1.pN (es.take i)).map cG))) ⟨.refl _,l0,none,rfl,Ak⟩ (λi σ H' _ ⟨sm,_⟩=>.of (sm _ _ g1)) ?_ ?_⟩
  ·rintro i x σ H2 hx ⟨sm,lp,s2,rfl,g⟩;have hi:i<es.length:=by
    have:=(dz.mp hx).1
    have:=hV.1
    lia
   obtain⟨e,he⟩:∃e,es[i]?=some e:=⟨_,cg hi⟩;obtain⟨c,rfl,hc⟩:=hV.2 i _ e hx he;have hw:=D1.Af (B:=50) (es.take i) λy hy=>lw _ (nQ hy);have zM:=lw e (da he);have hl:(es.take i).length≤50:=by rw[cH];lia
   dsimp only[bN];refine⟨_,rfl,by show 1≤sizeLine;lia,λt ht=>⟨_,_,_,_,rfl,rfl,aL.upd ht _ _ g,aQ,by rw[ba];show _+1≤sizeLine;lia,λt2 h2=>?_⟩⟩;refine⟨_,rfl,_,_,_,_,rfl,rfl,aQ,(s1.trans (sm.trans ((aL.upd ht).trans (.upd h2)))) _ _ hc,by rw[bK,ba,ba];show _+1+_≤sizeLine;lia,λt3 h3=>?_⟩;refine⟨sm.trans ((aL.upd ht).trans ((aL.upd h2).trans (.upd h3))),t3,_,rfl,?_⟩;rw[aQ,gq,he];show _=some (HO.lst ((D1.pN (es.take i++[e])).map cG));rw[D1.acS,dE,dE,i9];rfl
  rintro σ H2 ⟨sm,lp,s2,rfl,g⟩;rw[hV.1,km]at g;have hw:=D1.Af (B:=50) es lw;have sc:=s1.trans sm;refine⟨_,rfl,_,rfl,1,rfl,a,_,-1,.ref b,rfl,rfl,.of (sc _ _ ga),ME _ _,_,b,_,_,rfl,rfl,g,sc _ _ hb,by rw[ba,ba];lia,λt ht=>?_⟩;refine q t _ (sc.trans (.upd ht)) ?_;show _=_;rw[aQ,D1.Ej,dE]
theorem jN.last{L:List V}(h:jN H L ds)(hn:ds≠[]):∃VS b es d,L=VS++[.ref b]∧ds=es++[d]∧jN H VS es∧WL H b d:=by
 obtain⟨es,d,rfl⟩:∃es d,ds=es++[d]:=⟨_,_,(AU hn).symm⟩;have hL:L≠[]:=λz=>by rw[z]at h;have:=h.1;simp at this
 obtain⟨VS,v,rfl⟩:∃VS v,L=VS++[v]:=⟨_,_,(AU hL).symm⟩;have hl:VS.length=es.length:=by have:=h.1;simp at this;exact this
 obtain⟨b,rfl,hb⟩:=h.2 VS.length v d (LO) (by rw[hl];exact LO);refine⟨VS,b,es,d,rfl,rfl,⟨hl,λi v d' e1 e2=>?_⟩,hb⟩;have h1:i<VS.length:=(dz.mp e1).1;exact h.2 i v d' (by rw[gy h1];exact e1) (by rw[gy (by lia)];exact e2)
def w8(te:TE)(σ:St)(H:Hp)(ds:List D1.Dr):Prop:=∀H',aL H H'→∀R:VK,(∀a VS eV,aL H' eV→eV a=some (.lst VS)→jN eV VS ds→R (.ref a) eV)→te σ H' R
section
variable{σ:St}{H:Hp}
theorem SQ{ta tb:TE}{es:List D1.Dr}(h1:w8 ta σ H ds)(h2:w8 tb σ H es)(hl:ds.length+es.length≤100):w8 (bp eh ta tb) σ H (ds++es):=λH' s R q=>by
 have z:(100:Nat)≤sizeLine:=by decide
 refine h1 H' s _ λa VS H1 s1 ga hV=>h2 H1 (s.trans s1) _ λb WS H2 s2 gb hW=>?_;refine⟨a,b,_,_,rfl,rfl,s2 _ _ ga,gb,by rw[hV.1,hW.1];lia,λc hc=>?_⟩;exact q c _ _ (s1.trans (s2.trans (.upd hc))) aQ (((hV.mono s2).append hW).mono (.upd hc))
theorem acT(h:σ[i]?=some (some (.ref b)))(hb:WL H b d):w8 (cS (aY (aW i) bV)) σ H [d]:=λH' s R q=>
 ⟨_,h,by show 1≤sizeLine;decide,λa ha=>q a _ _ (.upd ha) aQ (.one ((s.trans (.upd ha)) _ _ hb))⟩
def Al(i:Nat):TE:=bp vt (cS (aY (cS (aY (tC (.str (Str.ofString "id"))) bV)) bV)) (aW i)
theorem SR{k:Nat}(h:σ[i]?=some (some (.int (k:Int))))(hk:k≤100):w8 (Al i) σ H (List.replicate k .id):=λH' s R q=>by
 have z:(100:Nat)≤sizeLine:=by decide
 refine⟨by show 1≤sizeLine;decide,λb hb=>⟨by show 1≤sizeLine;decide,λa ha=>⟨_,h,a,(k:Int),[.ref b],rfl,rfl,aQ,by lia,by lia,by show 1*(k:Int).toNat≤sizeLine;lia,λc hc=>?_⟩⟩⟩;refine q c _ _ ((aL.upd hb).trans ((aL.upd ha).trans (.upd hc))) aQ ?_;rw[show(k:Int).toNat=k by lia,zE];exact .rep (aL.upd hc _ _ (aL.upd ha _ _ aQ)) k
def xa:TE:=bp eh (bp eh (Al 12) (cS (aY (aW 7) bV))) (Al 13)
noncomputable def nL(k:Nat)(d:D1.Dr)(m:Nat):D1.Dr:=D1.jM (List.replicate k .id++[d]++List.replicate m .id)
theorem Ko(k:Nat)(d:D1.Dr)(m:Nat):(nL k d m).l=k+d.l+m:=by
 unfold nL;rw[D1.Ag,D1.Km,D1.Km,D1.Ai,D1.Ai];rfl
theorem Kq(k:Nat)(d:D1.Dr)(m:Nat):(nL k d m).r=k+d.r+m:=by
 unfold nL;rw[D1.Ah,D1.Kn,D1.Kn,D1.Aj,D1.Aj];rfl
theorem Ek{k:Nat}{x:D1.Dr}(h:x∈List.replicate k .id++[d]++List.replicate m .id):x=.id∨x=d:=by
 rcases(c9.mp h)with(h|h)
 ·rcases(c9.mp h)with(h|h)
  ·exact .inl (mE h)
  ·exact .inr (cR.mp h)
 ·exact .inl (mE h)
theorem SS{p:Int}{k:Nat}(h:d.wf p):(nL k d m).wf p:=D1.Kk _ λx hx=>by
 rcases Ek hx with rfl|rfl
 ·exact True.intro
 ·exact h
theorem SU{B k:Nat}(h:d.cP B)(hb:(k+d.l+m)+(k+d.r+m)≤B):(nL k d m).cP B:=by
 refine D1.Kl _ (λx hx=>?_) ?_
 ·rcases Ek hx with rfl|rfl
  ·exact True.intro
  ·exact h
 ·rw[← D1.Ag,← D1.Ah];have e1:=Ko k d m;have e2:=Kq k d m;unfold nL at e1 e2;rw[e1,e2];exact hb
theorem SV{k:Nat}(hk:k+m≤20)(h:d.aN.length≤50):(nL k d m).aN.length≤2000:=by
 unfold nL;obtain⟨es,e,he⟩:∃es e,List.replicate k D1.Dr.id++[d]++List.replicate m D1.Dr.id=es++[e]:=⟨_,_,(AU (by simp)).symm⟩;have hw:∀x∈es++[e],x.aN.length≤50:=λx hx=>by
  rw[← he]at hx;rcases Ek hx with rfl|rfl
  ·show 1≤50;decide
  ·exact h
 have hl:es.length≤20:=by
  have:=aj List.length he
  simp at this;lia
 rw[he,D1.Ej,bK];have h1:=D1.Af (B:=50) es λx hx=>hw x (lG _ hx);have h2:=hw e (gY _ (.head _));lia
theorem SW{K:Frag}{E:XK}{k:Nat}(h1:σ[12]?=some (some (.int (k:Int))))(h2:σ[7]?=some (some (.ref b)))(h3:σ[13]?=some (some (.int (m:Int))))(hb:WL H b d)(hk:k+m≤20)(hw:d.aN.length≤50)(q:∀c H',aL H H'→WL H' c (nL k d m)→R (.ref c) H'):iV (w6 K) [] E (aY xa bV) σ H R:=by
 have hE:w8 xa σ H (List.replicate k .id++[d]++List.replicate m .id):=SQ (SQ (SR h1 (by lia)) (acT h2 hb) (by rw[dq];show k+1≤100;lia)) (SR h3 (by lia)) (by rw[bK,dq,dq];show k+1+m≤100;lia);refine hE H (.refl _) _ λa VS H1 s1 ga hV=>?_;obtain⟨XS,b',es,e,rfl,he,hX,gN⟩:=hV.last (by simp);have hw:∀x∈es++[e],x.aN.length≤50:=λx hx=>by
  rw[← he]at hx;rcases Ek hx with rfl|rfl
  ·show 1≤50;decide
  ·exact hw
 have hl:es.length≤20:=by
  have:=aj List.length he
  simp at this;lia
 refine⟨a,b',XS,es,e,rfl,ga,hX,gN,by lia,λx hx=>hw x (lG _ hx),hw e (gY _ (.head _)),λc H2 s2 hc=>q c H2 (s1.trans s2) ?_⟩;unfold nL;rw[he];exact hc
end
noncomputable abbrev xb(p:Int)(a:Addr)(c:Int)(m:Nat)(b:Addr)(l r:Nat)(b2:Addr)(l2 r2:Nat)(f:Addr)(s12 oG oH pO:Option V):St:=[some (.int p),some (.ref a),some (.int c),some (.int (m:Int)),some (.ref b),some (.int (l:Int)),some (.int (r:Int)),some (.ref b2),some (.int (l2:Int)),some (.int (r2:Int)),some (.int (c%6)),some (.ref f),s12,oG,oH,pO]
def Am(i j:Nat):TE:=bp (rI (λ_ j=>0<j) λi j=>.int (i%j)) (bp (rI qK λi j=>.int (i/j)) (aW 2) (tC (.int 7))) (bp (eS λi j=>.int (i+j)) (bp (eS λi j=>.int (i-j)) (aW i) (aW j)) (tC (.int 1)))
def An(i j:Nat):TE:=bp (eS λi j=>.int (i-j)) (bp (eS λi j=>.int (i-j)) (aW i) (aW j)) (aW 12)
def pP(x:String):TE:=cS (aY (tC (.str (Str.ofString x))) bV)
def El(K:Frag)(E:XK):TS:=cI (dj (Am 6 8) (bN 12)) (cI (dj (An 6 8) (bN 13)) (cI (dj (iV (w6 K) [] E (aY xa bV)) (bN 14)) (dj (cS (aY (bp eh (bp eh (pP "then") (aW 4)) (aW 14)) (aY (aW 5) (aY (bp (eS λi j=>.int (i+j)) (bp (eS λi j=>.int (i-j)) (aW 6) (aW 8)) (aW 9)) bV)))) (bN 11))))
def Em(K:Frag)(E:XK):TS:=cI (dj (Am 5 9) (bN 12)) (cI (dj (An 5 9) (bN 13)) (cI (dj (iV (w6 K) [] E (aY xa bV)) (bN 14)) (dj (cS (aY (bp eh (bp eh (pP "then") (aW 14)) (aW 4)) (aY (bp (eS λi j=>.int (i+j)) (bp (eS λi j=>.int (i-j)) (aW 5) (aW 9)) (aW 8)) (aY (aW 6) bV)))) (bN 11))))
def En:TS:=dj (cS (aY (bp eh (pP "back") (aW 4)) (aY (aW 6) (aY (aW 5) bV)))) (bN 11)
def uM(p:Int)(a:Addr)(c:Int)(m:Nat)(b:Addr)(l r:Nat)(b2:Addr)(l2 r2:Nat)(H0:Hp)(σ:St)(H:Hp):Prop:=aL H0 H∧∃f d s12 oG oH pO,σ=xb p a c m b l r b2 l2 r2 f s12 oG oH pO∧WT H f d∧d.wf p∧d.cP 64∧d.aN.length≤5000∧d.l+d.r≤60
section
variable{K:Frag}{E:XK}{p c:Int}{a b b2 f:Addr}{m:Nat}{d e:D1.Dr}{s12 oG oH pO:Option V}{H:Hp}{D:Ends}
theorem SX{x y:Nat}(h2:σ[2]?=some (some (.int c)))(hi:σ[i]?=some (some (.int (x:Int))))(hj:σ[j]?=some (some (.int (y:Int))))(hl:y≤x)(q:∀k:Nat,k≤x-y→R (.int (k:Int)) H):Am i j σ H R:=by
 have b0:=jr (c/7) (show((x:Int)-y+1)≠0 by lia);have b1:=js (c/7) (show(0:Int)<(x:Int)-y+1 by lia);refine⟨_,h2,c,7,rfl,rfl,⟨by decide,by decide⟩,_,hi,_,hj,_,_,rfl,rfl,_,_,rfl,rfl,_,_,rfl,rfl,show(0:Int)<(x:Int)-y+1 by lia,?_⟩;show R (.int (c/7%((x:Int)-y+1))) H;rw[show c/7%((x:Int)-y+1)=(((c/7%((x:Int)-y+1)).toNat:Nat):Int) by lia];exact q _ (by lia)
theorem SY{x y k:Nat}(h2:σ[12]?=some (some (.int (k:Int))))(hi:σ[i]?=some (some (.int (x:Int))))(hj:σ[j]?=some (some (.int (y:Int))))(hl:y≤x)(hk:k≤x-y)(q:R (.int ((x-y-k:Nat):Int)) H):An i j σ H R:=by
 refine⟨_,hi,_,hj,_,_,rfl,rfl,_,h2,_,_,rfl,rfl,?_⟩;show R (.int ((x:Int)-y-k)) H;rw[show(x:Int)-y-k=((x-y-k:Nat):Int) by lia];exact q
theorem S5{x:String}{e:D1.Dr}(hi:σ[i]?=some (some (.ref u)))(hj:σ[j]?=some (some (.ref v)))(hu:WL H u d)(hv:WL H v e)(hl:d.aN.length+e.aN.length≤9000)(q:∀t H',aL H H'→H' t=some (.lst ((D1.Wd.w x::(d.aN++e.aN)).map cG))→R (.ref t) H'):bp eh (bp eh (pP x) (aW i)) (aW j) σ H R:=by
 have z:(10000:Nat)≤sizeLine:=by decide
 refine⟨by show 1≤sizeLine;lia,λt1 h1=>⟨_,hi,t1,u,_,_,rfl,rfl,aQ,aL.upd h1 _ _ hu,by rw[ba];show 1+_≤sizeLine;lia,λt2 h2=>⟨_,hj,t2,v,_,_,rfl,rfl,aQ,aL.upd h2 _ _ (aL.upd h1 _ _ hv),by rw[bK,ba,ba];show 1+_+_≤sizeLine;lia,λt3 h3=>?_⟩⟩⟩;refine q t3 _ ((aL.upd h1).trans ((aL.upd h2).trans (.upd h3))) ?_;rw[aQ,kj,dE];rfl
theorem Eo{tw tl tr:TE}{g:D1.Dr}(hw:∀R:VK,(∀t H',aL H H'→WL H' t g→R (.ref t) H')→tw σ H R)(hl:∀H',aL H H'→∀R:VK,R (.int (g.l:Int)) H'→tl σ H' R)(hr:∀H',aL H H'→∀R:VK,R (.int (g.r:Int)) H'→tr σ H' R)(q:∀t H',aL H H'→WT H' t g→R (.ref t) H'):cS (aY tw (aY tl (aY tr bV))) σ H R:=by
 refine hw _ λt H1 s1 ht=>hl H1 s1 _ (hr H1 s1 _ ⟨by show 3≤sizeLine;decide,λx hx=>q x _ (s1.trans (.upd hx)) ⟨t,aQ,aL.upd hx _ _ ht⟩⟩)
theorem acU(hb:WL H b d)(rJ:WL H b2 e)(dw:d.wf p)(dn:d.cP 64)(dl:d.aN.length≤100)(ds:d.l+d.r≤8)(ew:e.wf p)(en:e.cP 64)(el:e.aN.length≤3)(es:e.l+e.r≤4)(kN:e.l≤d.r)(q:∀σ H',uM p a c m b d.l d.r b2 e.l e.r H σ H'→N σ H'):El K E { D with nx:=N } (xb p a c m b d.l d.r b2 e.l e.r f s12 oG oH pO) H:=by
 unfold El;refine i7 (SX rfl rfl rfl kN λk hk=>?_);refine i7 (SY (x:=d.r) (y:=e.l) (k:=k) rfl rfl rfl kN hk ?_);refine i7 (SW (k:=k) (m:=d.r-e.l-k) (d:=e) rfl rfl rfl rJ (by lia) (by lia) λt H1 s1 ht=>?_);have e1:=Ko k e (d.r-e.l-k);have e2:=Kq k e (d.r-e.l-k);have w1:=SS (k:=k) (m:=d.r-e.l-k) ew;have w2:=SU (B:=64) (k:=k) (m:=d.r-e.l-k) en (by lia);have w3:=SV (k:=k) (m:=d.r-e.l-k) (d:=e) (by lia) (by lia);generalize nL k e (d.r-e.l-k)=u at *;refine Eo (g:=.aZ d u) (λR q'=>S5 rfl rfl (s1 _ _ hb) ht (by lia) q') (λH' _ R q'=>⟨_,rfl,q'⟩) (λH' _ R q'=>⟨_,rfl,_,rfl,_,_,rfl,rfl,_,rfl,_,_,rfl,rfl,?_⟩) λx H2 s2 hx=>?_
 ·have:((D1.Dr.aZ d u).r:Int)=(d.r:Int)-e.l+e.r:=by show(u.r:Int)=_;lia
  rw[this]at q';exact q'
 ·refine q _ _ ⟨s1.trans s2,x,.aZ d u,_,_,_,_,rfl,hx,⟨dw,w1,by lia⟩,⟨dn,w2,by lia⟩,?_,by show d.l+u.r≤60;lia⟩;show(D1.Wd.w "then"::(d.aN++u.aN)).length≤5000;rw[eO,bK];lia
theorem acV(hb:WL H b d)(rJ:WL H b2 e)(dw:d.wf p)(dn:d.cP 64)(dl:d.aN.length≤100)(ds:d.l+d.r≤8)(ew:e.wf p)(en:e.cP 64)(el:e.aN.length≤3)(es:e.l+e.r≤4)(kN:e.r≤d.l)(q:∀σ H',uM p a c m b d.l d.r b2 e.l e.r H σ H'→N σ H'):Em K E { D with nx:=N } (xb p a c m b d.l d.r b2 e.l e.r f s12 oG oH pO) H:=by
 unfold Em;refine i7 (SX rfl rfl rfl kN λk hk=>?_);refine i7 (SY (x:=d.l) (y:=e.r) (k:=k) rfl rfl rfl kN hk ?_);refine i7 (SW (k:=k) (m:=d.l-e.r-k) (d:=e) rfl rfl rfl rJ (by lia) (by lia) λt H1 s1 ht=>?_);have e1:=Ko k e (d.l-e.r-k);have e2:=Kq k e (d.l-e.r-k);have w1:=SS (k:=k) (m:=d.l-e.r-k) ew;have w2:=SU (B:=64) (k:=k) (m:=d.l-e.r-k) en (by lia);have w3:=SV (k:=k) (m:=d.l-e.r-k) (d:=e) (by lia) (by lia);generalize nL k e (d.l-e.r-k)=u at *;refine Eo (g:=.aZ u d) (λR q'=>S5 rfl rfl ht (s1 _ _ hb) (by lia) q') (λH' _ R q'=>⟨_,rfl,_,rfl,_,_,rfl,rfl,_,rfl,_,_,rfl,rfl,?_⟩) (λH' _ R q'=>⟨_,rfl,q'⟩) λx H2 s2 hx=>?_
 ·have:((D1.Dr.aZ u d).l:Int)=(d.l:Int)-e.r+e.l:=by show(u.l:Int)=_;lia
  rw[this]at q';exact q'
 ·refine q _ _ ⟨s1.trans s2,x,.aZ u d,_,_,_,_,rfl,hx,⟨w1,dw,by lia⟩,⟨w2,dn,by lia⟩,?_,by show u.l+d.r≤60;lia⟩;show(D1.Wd.w "then"::(u.aN++d.aN)).length≤5000;rw[eO,bK];lia
theorem acW(hb:WL H b d)(dw:d.wf p)(dn:d.cP 64)(dl:d.aN.length≤100)(ds:d.l+d.r≤8)(q:∀σ H',uM p a c m b d.l d.r b2 e.l e.r H σ H'→N σ H'):En { D with nx:=N } (xb p a c m b d.l d.r b2 e.l e.r f s12 oG oH pO) H:=by
 have z:(10000:Nat)≤sizeLine:=by decide
 unfold En;refine Eo (g:=.back d) (λR q'=>?_) (λH' _ R q'=>⟨_,rfl,q'⟩) (λH' _ R q'=>⟨_,rfl,q'⟩) λx H2 s2 hx=>?_
 ·refine⟨by show 1≤sizeLine;lia,λt1 h1=>⟨_,rfl,t1,b,_,_,rfl,rfl,aQ,aL.upd h1 _ _ hb,by rw[ba];show 1+_≤sizeLine;lia,λt2 h2=>q' t2 _ ((aL.upd h1).trans (.upd h2)) aQ⟩⟩
 ·exact q _ _ ⟨s2,x,.back d,_,_,_,_,rfl,hx,dw,dn,by show d.aN.length+1≤5000;lia,by show d.r+d.l≤60;lia⟩
end
theorem S6{te:TE}{g:TG}{u:TS}{D:Ends}(h:te σ H λx H1=>g x σ H1 (u D)):cI (dj te g) u D σ H:=h
theorem Kr{c:TT}{t u:TS}{D:Ends}(d:Bool)(h:∀R:Bool→Hp→Prop,R d H→c σ H R)(ht:d=true→t D σ H)(hf:d=false→u D σ H):eG c t u D σ H:=by
 refine h _ ?_;cases d with
 |true=>exact dy (ht rfl)
 |false=>exact cD (hf rfl)
theorem S7{c e:TT}{R:Bool→Hp→Prop}{d k:Bool}(h:∀R:Bool→Hp→Prop,R d H→c σ H R)(h':∀R:Bool→Hp→Prop,R k H→e σ H R)(r:R (d&&k) H):Bb c e σ H R:=by
 refine h _ ?_;cases d with
 |true=>exact dy (h' _ r)
 |false=>exact cD r
def Ao(K:Frag)(j:Int):TE:=bp (jV K) (aW 15) (tC (.int j))
def Ep(K:Frag):TS:=cI (dj (cS (aY (aW 4) (aY (aW 7) bV))) (bN 15)) (cI (eG (jx (bp oY (bp (rI (λ_ j=>0<j) λi j=>.int (i%j)) (bp (rI qK λi j=>.int (i/j)) (aW 2) (tC (.int 11))) (tC (.int 2))) (tC (.int 1)))) (Bd (Br K "list" MM (aW 15))) ik) (dj (cS (aY (bp eh (bp eh (pP "beside") (Ao K 0)) (Ao K 1)) (aY (bp (eS λi j=>.int (i+j)) (aW 5) (aW 8)) (aY (bp (eS λi j=>.int (i+j)) (aW 6) (aW 9)) bV)))) (bN 11)))
section
variable{K:Frag}{E:XK}{p c:Int}{a b b2 f:Addr}{m:Nat}{d e:D1.Dr}{s12 oG oH pO:Option V}{H:Hp}{D:Ends}{H':Hp}
theorem acX{x:String}{ti tj:TE}{e:D1.Dr}(hi:∀H',aL H H'→∀R:VK,R (.ref u) H'→ti σ H' R)(hj:∀H',aL H H'→∀R:VK,R (.ref v) H'→tj σ H' R)(hu:WL H u d)(hv:WL H v e)(hl:d.aN.length+e.aN.length≤9000)(q:∀t H',aL H H'→H' t=some (.lst ((D1.Wd.w x::(d.aN++e.aN)).map cG))→R (.ref t) H'):bp eh (bp eh (pP x) ti) tj σ H R:=by
 have z:(10000:Nat)≤sizeLine:=by decide
 refine⟨by show 1≤sizeLine;lia,λt1 h1=>hi _ (.upd h1) _ ⟨t1,u,_,_,rfl,rfl,aQ,aL.upd h1 _ _ hu,by rw[ba];show 1+_≤sizeLine;lia,λt2 h2=>hj _ ((aL.upd h1).trans (.upd h2)) _ ⟨t2,v,_,_,rfl,rfl,aQ,aL.upd h2 _ _ (aL.upd h1 _ _ hv),by rw[bK,ba,ba];show 1+_+_≤sizeLine;lia,λt3 h3=>?_⟩⟩⟩;refine q t3 _ ((aL.upd h1).trans ((aL.upd h2).trans (.upd h3))) ?_;rw[aQ,kj,dE];rfl
theorem S8{g h:D1.Dr}{ls:Addr}(hu:WL H u g)(hv:WL H v h)(gl:H ls=some (.lst [.ref u,.ref v]))(gw:g.wf p)(gn:g.cP 64)(ad5:g.aN.length≤100)(gs:g.l+g.r≤8)(hw:h.wf p)(hn:h.cP 64)(cE:h.aN.length≤100)(hs:h.l+h.r≤8)(el:g.l+h.l=d.l+e.l)(er:g.r+h.r=d.r+e.r)(q:∀σ H',uM p a c m b d.l d.r b2 e.l e.r H σ H'→N σ H'):dj (cS (aY (bp eh (bp eh (pP "beside") (Ao K 0)) (Ao K 1)) (aY (bp (eS λi j=>.int (i+j)) (aW 5) (aW 8)) (aY (bp (eS λi j=>.int (i+j)) (aW 6) (aW 9)) bV)))) (bN 11) { D with nx:=N } (xb p a c m b d.l d.r b2 e.l e.r f s12 oG oH (some (.ref ls))) H:=by
 refine Eo (g:=.cK g h) (λR q'=>acX (u:=u) (v:=v) (λH' s R Ks=>⟨_,rfl,ls,_,0,_,rfl,rfl,.of (s _ _ gl),bu (j:=0) rfl,Ks⟩) (λH' s R Ks=>⟨_,rfl,ls,_,1,_,rfl,rfl,.of (s _ _ gl),bu (j:=1) rfl,Ks⟩) hu hv (by lia) q') (λH' _ R q'=>⟨_,rfl,_,rfl,_,_,rfl,rfl,?_⟩) (λH' _ R q'=>⟨_,rfl,_,rfl,_,_,rfl,rfl,?_⟩) λx H2 s2 hx=>?_
 ·have:((D1.Dr.cK g h).l:Int)=(d.l:Int)+e.l:=by show((g.l+h.l:Nat):Int)=_;lia
  rw[this]at q';exact q'
 ·have:((D1.Dr.cK g h).r:Int)=(d.r:Int)+e.r:=by show((g.r+h.r:Nat):Int)=_;lia
  rw[this]at q';exact q'
 ·refine q _ _ ⟨s2,x,.cK g h,_,_,_,_,rfl,hx,⟨gw,hw⟩,⟨gn,hn,by lia⟩,?_,by show g.l+h.l+(g.r+h.r)≤60;lia⟩;show(D1.Wd.w "beside"::(g.aN++h.aN)).length≤5000;rw[eO,bK];lia
theorem acY(hb:WL H b d)(rJ:WL H b2 e)(dw:d.wf p)(dn:d.cP 64)(dl:d.aN.length≤100)(ds:d.l+d.r≤8)(ew:e.wf p)(en:e.cP 64)(el:e.aN.length≤3)(es:e.l+e.r≤4)(q:∀σ H',uM p a c m b d.l d.r b2 e.l e.r H σ H'→N σ H'):Ep K { D with nx:=N } (xb p a c m b d.l d.r b2 e.l e.r f s12 oG oH pO) H:=by
 unfold Ep;refine i7 ⟨_,rfl,_,rfl,by show 2≤sizeLine;decide,λls iQ=>?_⟩;have nb:b≠ls:=λz=>by rw[← z]at iQ;unfold WL at hb;rw[iQ]at hb;cases hb
 have nb2:b2≠ls:=λz=>by rw[← z]at iQ;unfold WL at rJ;rw[iQ]at rJ;cases rJ
 refine wQ (c/11%2==1) (λR r=>⟨_,rfl,c,11,rfl,rfl,⟨by decide,by decide⟩,c/11,2,rfl,rfl,(by decide:(0:Int)<2),rfl,_,rfl,by rw[FH];exact r⟩) (λ_=>?_) λ_=>?_
 ·refine⟨_,rfl,.inl ⟨rfl,_,.of aQ⟩,ls,_,rfl,rfl,aQ,?_⟩;rw[Vn];exact S8 (g:=e) (h:=d) (u:=b2) (v:=b) (aL.upd iQ _ _ rJ) (aL.upd iQ _ _ hb) aQ ew en (by lia) (by lia) dw dn dl ds (by lia) (by lia) λσ H' j=>q σ H' ⟨(aL.upd iQ).trans j.1,j.2⟩
 ·exact S8 (g:=d) (h:=e) (u:=b) (v:=b2) (aL.upd iQ _ _ hb) (aL.upd iQ _ _ rJ) aQ dw dn dl ds ew en (by lia) (by lia) rfl rfl λσ H' j=>q σ H' ⟨(aL.upd iQ).trans j.1,j.2⟩
def Er(K:Frag)(j:Int):TE:=bp (jV K) (aW 11) (tC (.int j))
def S9(K:Frag):List V→Hp→VK→Prop:=λxs H Q=>∃p ys,xs=[.ref p]∧(di K H p ys∨bc K H p ys)∧Q (.int ys.length) H
def Es(K:Frag):TS:=cI (eG (Bc (jx (bp (eS λi j=>.bl (decide (j<i))) (ko (S9 K) (aY (Er K 0) bV)) (aW 3))) (Bc (jx (bp (eS λi j=>.bl (decide (j<i))) (Er K 1) (tC (.int 4)))) (jx (bp (eS λi j=>.bl (decide (j<i))) (Er K 2) (tC (.int 4)))))) (fK (aW 1)) ik) (fK (aW 11))
theorem acZ(hJ:uM p a c m b d.l d.r b2 e.l e.r H σ H')(ha:WT H a d)(q1:∀H',aL H H'→WT H' a d→D.rt (.ref a) H')(q2:∀f g H',aL H H'→WT H' f g→g.wf p→g.cP 64→g.aN.length≤m→g.l+g.r≤8→D.rt (.ref f) H'):Es K D σ H':=by
 obtain⟨sm,f,g,s12,oG,oH,pO,rfl,hf,w1,w2,w3,w4⟩:=hJ;obtain⟨t,gf,gt⟩:=hf;unfold Es;refine wQ (decide ((m:Int)<(g.aN.length:Int))||(decide (4<(g.l:Int))||decide (4<(g.r:Int)))) (λR r=>?_) (λ_=>?_) λz=>?_
 ·refine⟨_,rfl,f,_,0,_,rfl,rfl,.of gf,bu (j:=0) rfl,t,_,rfl,.inl (.of gt),_,rfl,_,_,rfl,rfl,_,rfl,?_⟩;rw[ba];cases hd:decide ((m:Int)<(g.aN.length:Int)) with
  |true=>rw[hd]at r;exact dy r
  |false=>
   rw[hd]at r;refine cD ⟨_,rfl,f,_,1,_,rfl,rfl,.of gf,bu (j:=1) rfl,_,_,rfl,rfl,_,rfl,?_⟩;cases xT:decide (4<(g.l:Int)) with
   |true=>rw[xT]at r;exact dy r
   |false=>
    rw[xT]at r;exact cD ⟨_,rfl,f,_,2,_,rfl,rfl,.of gf,bu (j:=2) rfl,_,_,rfl,rfl,_,rfl,r⟩
 ·exact⟨_,rfl,q1 _ sm (ha.mono sm)⟩
 ·rw[Bool.or_eq_false_iff,Bool.or_eq_false_iff,aG,aG,aG]at z;exact⟨_,rfl,q2 f g _ sm ⟨t,gf,gt⟩ w1 w2 (by lia) (by lia)⟩
def Kt(K:Frag)(E:XK):TS:=cI (dj (aW 1) (tX K 3 (iE (bN 4) (iE (bN 5) (iE (bN 6) rQ)))))
 (cI (dj (iV (Ee K) [] E (aY (aW 0) (aY (bp (rI qK λi j=>.int (i/j)) (aW 2) (tC (.int 6))) bV))) (tX K 3 (iE (bN 7) (iE (bN 8) (iE (bN 9) rQ))))) (cI (dj (bp (rI (λ_ j=>0<j) λi j=>.int (i%j)) (aW 2) (tC (.int 6))) (bN 10)) (cI (dj (aW 1) (bN 11)) (cI (eG (Bb (jx (bp (eS λi j=>.bl (decide (i<j))) (aW 10) (tC (.int 3)))) (jx (bp (eS λi j=>.bl (decide (i≤j))) (aW 8) (aW 6)))) (El K E) (eG (Bb (jx (bp oY (aW 10) (tC (.int 3)))) (jx (bp (eS λi j=>.bl (decide (i≤j))) (aW 9) (aW 5)))) (Em K E) (eG (jx (bp oY (aW 10) (tC (.int 4)))) En (Ep K)))) (Es K)))))
end
def Ta(_K:Frag):Sp:=λvs H Q _=>∃(p c:Int)(a:Addr)(m:Nat)(d:D1.Dr),vs=[.int p,.ref a,.int c,.int (m:Int)]∧p∈cb∧WT H a d∧d.wf p∧d.cP 64∧d.aN.length≤m∧m≤100∧d.l+d.r≤8∧
 ∀f g H',aL H H'→WT H' f g→g.wf p→g.cP 64→g.aN.length≤m→g.l+g.r≤8→Q (.ref f) H'
theorem iR:c8 ["p","one","cell","most","words","left","right","box","into","out","way","found","at","wide","row","some"] ["p","one","cell","most"] (bq Ic):=dv rfl rfl rfl (by decide +kernel) rfl
theorem ac0{fS fB:Addr}{gG ma:FuncData}(F:bZ K "_law_more" "_law_more" Ic f fd)(T:Txt mg)
  (GS:bf P w K mg base bj 1 fS gG ["p","cell"] (Ee K)) (kS:Kp K fS) (bS:Binds K gG ["p","cell"] []) (mS:Mg mg "_law_some_box" fS)
  (GB:bf P w K mg base bj 1 fB ma ["parts"] (w6 K)) (kB:Kp K fB) (bB:Binds K ma ["parts"] []) (mB:Mg mg "_law_beside_all" fB) :
  bf P w K mg base bj 2 f fd ["p","one","cell","most"] (Ta K):=by
 refine F.ok iR (λvs H Q E h=>?_) (λbt A outer s H vs Q E hr h=>?_)
 ·obtain⟨p,c,a,m,d,rfl,_⟩:=h;rfl
 ·obtain⟨p,c,a,m,d,rfl,pp,ha,dw,dn,dm,hm,ds,q⟩:=h;refine⟨Kt K E,?_,?_⟩
  ·unfold Kt;refine aX ?_ ?_
   ·exact lM (pv 1) (o7 rfl (dJ (cj (i:=4) iR.nd rfl (.inl rfl)) (dJ (cj (i:=5) iR.nd rfl (.inl rfl)) (dJ (cj (i:=6) iR.nd rfl (.inl rfl)) jT))))
   refine aX ?_ ?_
   ·exact lM (ck GS hr rfl mS kS bS .nil cu (aK (pv 0) (aK (aV iU (pv 2) aR) aM))) (o7 rfl (dJ (cj (i:=7) iR.nd rfl (.inl rfl)) (dJ (cj (i:=8) iR.nd rfl (.inl rfl)) (dJ (cj (i:=9) iR.nd rfl (.inl rfl)) jT))))
   refine aX ?_ ?_
   ·exact bH (i:=10) iR.nd rfl (.inl rfl) (aV ft (pv 2) aR)
   refine aX ?_ ?_
   ·exact bH (i:=11) iR.nd rfl (.inl rfl) (pv 1)
   refine aX ?_ ?_
   ·refine cN ?_ ?_ ?_
    ·exact PW.pt (rP (cC FJ (pv 10) aR (cx _)) (xJ (cC FK (pv 8) (pv 6) (cx _))))
    ·unfold El Am An xa Al pP;refine aX ?_ ?_
     ·exact bH (i:=12) iR.nd rfl (.inl rfl) (aV ft (aV iU (pv 2) aR) (aV eB (aV jU (pv 6) (pv 8)) aR))
     refine aX ?_ ?_
     ·exact bH (i:=13) iR.nd rfl (.inl rfl) (aV jU (aV jU (pv 6) (pv 8)) (pv 12))
     refine aX ?_ ?_
     ·exact bH (i:=14) iR.nd rfl (.inl rfl) (ck GB hr rfl mB kB bB .nil cu (aK (aV dh (aV dh (aV ky (bE (aK (bE (aK cq aM)) aM)) (pv 12)) (bE (aK (pv 7) aM))) (aV ky (bE (aK (bE (aK cq aM)) aM)) (pv 13))) aM))
     ·refine bg ?_;exact bH (i:=11) iR.nd rfl (.inl rfl) (bE (aK (aV dh (aV dh (bE (aK cq aM)) (pv 4)) (pv 14)) (aK (pv 5) (aK (aV eB (aV jU (pv 6) (pv 8)) (pv 9)) aM))))
    ·refine bg ?_;refine cN ?_ ?_ ?_
     ·exact PW.pt (rP (cC dM (pv 10) aR (cx _)) (xJ (cC FK (pv 9) (pv 5) (cx _))))
     ·unfold Em Am An xa Al pP;refine aX ?_ ?_
      ·exact bH (i:=12) iR.nd rfl (.inl rfl) (aV ft (aV iU (pv 2) aR) (aV eB (aV jU (pv 5) (pv 9)) aR))
      refine aX ?_ ?_
      ·exact bH (i:=13) iR.nd rfl (.inl rfl) (aV jU (aV jU (pv 5) (pv 9)) (pv 12))
      refine aX ?_ ?_
      ·exact bH (i:=14) iR.nd rfl (.inl rfl) (ck GB hr rfl mB kB bB .nil cu (aK (aV dh (aV dh (aV ky (bE (aK (bE (aK cq aM)) aM)) (pv 12)) (bE (aK (pv 7) aM))) (aV ky (bE (aK (bE (aK cq aM)) aM)) (pv 13))) aM))
      ·refine bg ?_;exact bH (i:=11) iR.nd rfl (.inl rfl) (bE (aK (aV dh (aV dh (bE (aK cq aM)) (pv 14)) (pv 4)) (aK (aV eB (aV jU (pv 5) (pv 9)) (pv 8)) (aK (pv 6) aM))))
     ·refine bg ?_;refine cN ?_ ?_ ?_
      ·exact cC dM (pv 10) aR (cx _)
      ·unfold En pP;refine bg ?_;exact bH (i:=11) iR.nd rfl (.inl rfl) (bE (aK (aV dh (bE (aK cq aM)) (pv 4)) (aK (pv 6) (aK (pv 5) aM))))
      ·unfold Ep Ao pP;refine aX ?_ ?_
       ·exact bH (i:=15) iR.nd rfl (.inl rfl) (bE (aK (pv 4) (aK (pv 7) aM)))
       refine aX ?_ ?_
       ·refine cN ?_ ?_ df
        ·exact cC dM (aV ft (aV iU (pv 2) aR) aR) aR (cx _)
        ·refine bg ?_;exact jv (MJ pY PySem.F.slot_list_reverse PySem.F.type_list_reverse WM (pv 15))
       ·refine bg ?_;exact bH (i:=11) iR.nd rfl (.inl rfl) (bE (aK (aV dh (aV dh (bE (aK cq aM)) (bh (cA K rfl) (pv 15) aR (λ_ _=>rfl))) (bh (cA K rfl) (pv 15) aR (λ_ _=>rfl))) (aK (aV eB (pv 5) (pv 8)) (aK (aV eB (pv 6) (pv 9)) aM))))
   ·unfold Es Er;refine aX ?_ ?_
    ·refine cN ?_ ?_ df
     ·exact PW.pt (nT (cC tN (dO (iX K rfl) rfl T.len iY (aK (bh (cA K rfl) (pv 11) aR (λ_ _=>rfl)) aM)) (pv 3) (cx _)) (nT (cC tN (bh (cA K rfl) (pv 11) aR (λ_ _=>rfl)) aR (cx _)) (tM (cC tN (bh (cA K rfl) (pv 11) aR (λ_ _=>rfl)) aR (cx _)))))
     ·exact bg (bY (pv 1))
    ·exact bg (bY (pv 11))
  unfold Kt;obtain⟨b,ga,gb⟩:=ha;refine S6 ⟨_,rfl,qp (.of ga) ?_⟩;refine S6 ⟨_,rfl,_,rfl,c,6,rfl,rfl,⟨by decide,by decide⟩,p,c/6,rfl,pp,λa2 e H1 s1 he ew en el es=>?_⟩;obtain⟨b2,rK,qv⟩:=he;refine qp (.of rK) ?_;refine i7 ⟨_,rfl,c,6,rfl,rfl,(by decide:(0:Int)<6),?_⟩;refine i7 ⟨_,rfl,?_⟩;have pK:=s1 _ _ gb;have ha1:WT H1 a d:=⟨b,s1 _ _ ga,pK⟩;refine Ir (uM p a c m b d.l d.r b2 e.l e.r H1) (λN hN=>?_) (λσ H' hJ=>acZ hJ ha1 (λH' s' h'=>q a d H' (s1.trans s') h' dw dn dm ds) (λf g H' s' h'=>q f g H' (s1.trans s') h'));refine Kr (decide (c%6<3)&&decide ((e.l:Int)≤d.r)) (λR r=>S7 (λR r=>⟨_,rfl,_,_,rfl,rfl,_,rfl,r⟩) (λR r=>⟨_,rfl,_,rfl,_,_,rfl,rfl,_,rfl,r⟩) r) (λz=>?_) λ_=>?_
  ·rw[eF,decide_eq_true_iff,decide_eq_true_iff]at z;exact acU pK qv dw dn (by lia) ds ew en el es (by lia) hN
  refine Kr (decide (V.int (c%6)=V.int 3)&&decide ((e.r:Int)≤d.l)) (λR r=>S7 (λR r=>⟨_,rfl,rfl,_,rfl,r⟩) (λR r=>⟨_,rfl,_,rfl,_,_,rfl,rfl,_,rfl,r⟩) r) (λz=>?_) λ_=>?_
  ·rw[eF,decide_eq_true_iff,decide_eq_true_iff]at z;exact acV pK qv dw dn (by lia) ds ew en el es (by lia) hN
  refine Kr (decide (V.int (c%6)=V.int 4)) (λR r=>⟨_,rfl,rfl,_,rfl,r⟩) (λz=>?_) λ_=>?_
  ·exact acW pK dw dn (by lia) ds hN
  ·have cE:d.aN.length≤100:=by lia
   exact acY (K:=K) (p:=p) (c:=c) (a:=a) (b:=b) (b2:=b2) (f:=a) (m:=m) (d:=d) (e:=e) (s12:=none) (oG:=none) (oH:=none) (pO:=none) (H:=H1) (N:=N) pK qv dw dn cE ds ew en el es hN
def Tb(_K:Frag):Sp:=λvs H Q _=>∃(p:Int)(a:Addr)(m:Nat)(ns:List Int),vs=[.int p,.ref a,.int (m:Int)]∧p∈cb∧H a=some (.lst (ns.map V.int))∧ns.length≤1000∧3≤m∧m≤100∧
 ∀f g H',aL H H'→WT H' f g→g.wf p→g.cP 64→g.aN.length≤m→g.l+g.r≤8→Q (.ref f) H'
theorem Ap:c8 ["p","cells","most","one","k"] ["p","cells","most"] (bq Ie):=dv rfl rfl rfl (by decide +kernel) rfl
theorem ac1{fS fM:Addr}{gG iJ:FuncData}(F:bZ K "_law_grown" "_law_grown" Ie f fd)(T:Txt mg)
  (GS:bf P w K mg base bj 1 fS gG ["p","cell"] (Ee K)) (kS:Kp K fS) (bS:Binds K gG ["p","cell"] []) (mS:Mg mg "_law_some_box" fS)
  (GM:bf P w K mg base bj 2 fM iJ ["p","one","cell","most"] (Ta K)) (kM:Kp K fM) (bM:Binds K iJ ["p","one","cell","most"] []) (mM:Mg mg "_law_more" fM) :
  bf P w K mg base bj 3 f fd ["p","cells","most"] (Tb K):=by
 refine F.ok Ap (λvs H Q E h=>?_) (λbt A outer s H vs Q E hr h=>?_)
 ·obtain⟨p,a,m,ns,rfl,_⟩:=h;rfl
 ·obtain⟨p,a,m,ns,rfl,pp,ga,hl,m3,ac2,q⟩:=h;have nj:dk 1 _:=hr.mono (by lia);have z:(10000:Nat)≤sizeLine:=by decide
  refine⟨_,aX (bH (i:=3) Ap.nd rfl (.inl rfl) (bE (aK (bE (aK cq aM)) (aK aR (aK aR aM))))) (aX (jw jR rfl (vk rfl T.range (aK (dO (iX K rfl) rfl T.len iY (aK (pv 1) aM)) aM)) (cj (i:=4) Ap.nd rfl (.inl rfl)) (bg (cN (cC dM (pv 4) aR (cx _)) (bg (bH (i:=3) Ap.nd rfl (.inl rfl) (ck GS nj rfl mS kS bS .nil cu (aK (pv 0) (aK (bh (cA K rfl) (pv 1) aR (λ_ _=>rfl)) aM))))) (bg (bH (i:=3) Ap.nd rfl (.inl rfl) (ck GM hr rfl mM kM bM .nil cu (aK (pv 0) (aK (pv 3) (aK (bh (cA K rfl) (pv 1) (pv 4) (λ_ _=>rfl)) (aK (pv 2) aM)))))))))) (bg (bY (pv 3)))),?_⟩;refine⟨by show 1≤sizeLine;lia,λl0 h0=>⟨by show 3≤sizeLine;lia,λl1 h1=>?_⟩⟩;have Tc:WT (upd (upd H l0 (.lst [.str (Str.ofString "id")])) l1 (.lst [.ref l0,.int 1,.int 1])) l1 .id:=⟨l0,aQ,aL.upd h1 _ _ aQ⟩;have s0:aL H (upd (upd H l0 (.lst [.str (Str.ofString "id")])) l1 (.lst [.ref l0,.int 1,.int 1])):=(aL.upd h0).trans (.upd h1);generalize upd (upd H l0 (.lst [.str (Str.ofString "id")])) l1 (.lst [.ref l0,.int 1,.int 1])=H0 at s0 Tc ⊢;have eN:(ns.map V.int).length=ns.length:=ba _;refine⟨_,rfl,a,_,rfl,.inl (.of (s0 _ _ ga)),_,rfl,by lia,by lia,xO (n:=(ns.map V.int).length) (λ_ σ H'=>aL H H'∧∃f g s4,σ=[some (.int p),some (.ref a),some (.int (m:Int)),some (.ref f),s4]∧WT H' f g∧g.wf p∧g.cP 64∧g.aN.length≤m∧g.l+g.r≤8) ⟨s0,l1,.id,none,rfl,Tc,True.intro,True.intro,by show 1≤m;lia,by decide⟩ ?_ ?_⟩
  ·rintro k σ H1 hk ⟨sm,f,g,s4,rfl,hf,g1,g2,g3,g4⟩;rw[eN]at hk;rw[kl];dsimp only[bN];refine⟨_,rfl,rfl,_,rfl,?_⟩;obtain⟨c,hc⟩:∃c,ns[k]?=some c:=⟨_,cg hk⟩;split
   ·rename_i z
    have e:(k:Int)=0:=V.int.inj (aI z);have e0:k=0:=by lia
    subst e0;refine⟨_,rfl,_,rfl,a,_,0,.int c,rfl,rfl,.of (sm _ _ ga),bu (j:=0) (by rw[eE,hc];rfl),p,c,rfl,pp,λf' g' H2 s2 fE w1 w2 w3 w4=>?_⟩;exact⟨sm.trans s2,f',g',_,rfl,fE,w1,w2,by lia,by lia⟩
   ·refine⟨_,rfl,_,rfl,_,rfl,_,rfl,a,_,(k:Int),.int c,rfl,rfl,.of (sm _ _ ga),bu (j:=k) (by rw[eE,hc];rfl),_,rfl,p,c,f,m,g,rfl,pp,hf,g1,g2,g3,ac2,g4,λf' g' H2 s2 fE w1 w2 w3 w4=>?_⟩;exact⟨sm.trans s2,f',g',_,rfl,fE,w1,w2,w3,w4⟩
  ·rintro σ H1 ⟨sm,f,g,s4,rfl,hf,g1,g2,g3,g4⟩;exact⟨_,rfl,q f g H1 sm hf g1 g2 g3 g4⟩
end S21
namespace D1
variable{i:Nat}{s:List Wd}
noncomputable def nM(p k:Int):Wd→List Wd
 | .n n=>[.n ((n+1+k)%p)]
 | .w x=>if PySem.Str.ofString x=PySem.Str.ofString "id" then[.w "times",.n (2%p)]else if PySem.Str.ofString x=PySem.Str.ofString "copy" then[.w "back",.w "add"]else if PySem.Str.ofString x=PySem.Str.ofString "add" then[.w "back",.w "copy"]else if PySem.Str.ofString x=PySem.Str.ofString "end" then[.w "back",.w "none"]else if PySem.Str.ofString x=PySem.Str.ofString "none" then[.w "back",.w "end"]else if PySem.Str.ofString x=PySem.Str.ofString "swap" then[.w "beside",.w "id",.w "id"]else if PySem.Str.ofString x=PySem.Str.ofString "cup" then[.w "beside",.w "none",.w "none"] else[.w x]
noncomputable def sub(xs:List Wd)(i:Nat)(s:List Wd):List Wd:=xs.take i++s++xs.drop (i+1)
theorem ac3{a b:List Wd}(h:i<a.length):sub (a++b) i s=sub a i s++b:=by
 unfold sub;rw[List.take_append_of_le_length (by lia),List.drop_append_of_le_length (by lia),i9,i9,i9]
theorem ac4{a b:List Wd}(h:a.length≤i):sub (a++b) i s=a++sub b (i-a.length) s:=by
 unfold sub;rw[List.take_append,List.drop_append,lH h,List.drop_eq_nil_of_le (by lia),uW,show i+1-a.length=i-a.length+1 by lia,i9,i9,i9]
theorem Td{h:Wd}{xs:List Wd}:sub (h::xs) (i+1) s=h::sub xs i s:=rfl
theorem Te{p k:Int}{h:String}(hh:nM p k (.w h)=[.w h]){x:Dr→Dr→Dr}{a b:Dr}{u:Wd}(hx:∀a b,(x a b).aN=.w h::(a.aN++b.aN))(e:(x a b).aN[i]?=some u)
  (rq:∀i,a.aN[i]?=some u→∃a':Dr,a'.aN=sub a.aN i (nM p k u)∧a'.wf p∧a'.bz=a.bz∧∀B,4≤B→a.cP B→a'.cP B)
  (rA:∀i,b.aN[i]?=some u→∃b':Dr,b'.aN=sub b.aN i (nM p k u)∧b'.wf p∧b'.bz=b.bz∧∀B,4≤B→b.cP B→b'.cP B) (wa:a.wf p) (wb:b.wf p) :
  ∃a' b':Dr,(x a' b').aN=sub (x a b).aN i (nM p k u)∧a'.wf p∧b'.wf p∧a'.bz=a.bz∧b'.bz=b.bz∧(∀B,4≤B→a.cP B→a'.cP B)∧∀B,4≤B→b.cP B→b'.cP B:=by
 rw[hx]at e;cases i with
 |zero=>
  cases e;refine⟨a,b,?_,wa,wb,rfl,rfl,λ_ _ z=>z,λ_ _ z=>z⟩;rw[hh,hx];rfl
 |succ i=>
  rw[List.getElem?_cons_succ]at e;by_cases hi:i<a.aN.length
  ·rw[gy hi]at e;obtain⟨a',h1,h2,h3,h4⟩:=rq i e;refine⟨a',b,?_,h2,wb,h3,rfl,h4,λ_ _ z=>z⟩;rw[hx,hx,Td,ac3 hi,h1]
  ·rw[iC (by lia)]at e;obtain⟨b',h1,h2,h3,h4⟩:=rA _ e;refine⟨a,b',?_,wa,h2,rfl,h3,λ_ _ z=>z,h4⟩;rw[hx,hx,Td,ac4 (by lia),h1]
theorem sS{p k:Int}{d:Dr}{h:String}{u:Wd}(hd:d.aN=[.w h])(e:d.aN[i]?=some u)(d':Dr)(h1:d'.aN=nM p k (.w h))(h2:d'.wf p)(h3:d'.bz=d.bz)(h4:∀B,4≤B→d'.cP B):∃d':Dr,d'.aN=sub d.aN i (nM p k u)∧d'.wf p∧d'.bz=d.bz∧∀B,4≤B→d.cP B→d'.cP B:=by
 rw[hd]at e;cases i with
 |zero=>
  cases e;refine⟨d',?_,h2,h3,λB h4B _=>h4 B h4B⟩;rw[hd,h1];show _=[]++nM p k (.w h)++[];rw[iB,uW]
 |succ i=>cases e
theorem xf{p k:Int}(hp:0<p):∀(d:Dr)(i:Nat)(u:Wd),d.wf p→d.aN[i]?=some u→∃d':Dr,d'.aN=sub d.aN i (nM p k u)∧d'.wf p∧d'.bz=d.bz∧∀B,4≤B→d.cP B→d'.cP B
 | .id,i,u,_,e=>sS rfl e (.times (2%p)) rfl ⟨jr _ (by lia),js _ hp⟩ rfl λ_ _=>True.intro
 | .swap,i,u,_,e=>sS rfl e (.cK .id .id) rfl ⟨True.intro,True.intro⟩ rfl λB hB=>⟨True.intro,True.intro,hB⟩
 | .copy,i,u,_,e=>sS rfl e (.back .add) rfl True.intro rfl λ_ _=>True.intro
 | .fin,i,u,_,e=>sS rfl e (.back .none) rfl True.intro rfl λ_ _=>True.intro
 | .add,i,u,_,e=>sS rfl e (.back .copy) rfl True.intro rfl λ_ _=>True.intro
 | .none,i,u,_,e=>sS rfl e (.back .fin) rfl True.intro rfl λ_ _=>True.intro
 | .kh,i,u,_,e=>sS rfl e (.cK .none .none) rfl ⟨True.intro,True.intro⟩ rfl λB hB=>⟨True.intro,True.intro,fg (show 0+0+(1+1)≤4 by decide) hB⟩
 | .empty,i,u,_,e=>sS rfl e .empty rfl True.intro rfl λ_ _=>True.intro
 | .times n,i,u,h,e=>by
  match i,e with
  |0,e=>cases e;exact⟨.times n,rfl,h,rfl,λ_ _ z=>z⟩
  |1,e=>cases e;exact⟨.times ((n+1+k)%p),rfl,⟨jr _ (by lia),js _ hp⟩,rfl,λ_ _ _=>True.intro⟩
  |i+2,e=>cases e
 | .back d,i,u,h,e=>by
  match i,e with
  |0,e=>cases e;exact⟨.back d,rfl,h,rfl,λ_ _ z=>z⟩
  |i+1,e=>
   obtain⟨d',h1,h2,h3,h4⟩:=xf (k:=k) hp d i u h e;refine⟨.back d',?_,h2,?_,h4⟩
   ·show Wd.w "back"::d'.aN=_;rw[h1];rfl
   ·show(d'.bz.2,d'.bz.1)=(d.bz.2,d.bz.1);rw[h3]
 | .cK a b,i,u,h,e=>by
  obtain⟨a',b',h1,h2,h3,h4,h5,h6,h7⟩:=Te (k:=k) (x:=.cK) (h := "beside") rfl (λ_ _=>rfl) e (λi e=>xf hp a i u h.1 e) (λi e=>xf hp b i u h.2 e) h.1 h.2;refine⟨.cK a' b',h1,⟨h2,h3⟩,?_,λB hB z=>⟨h6 B hB z.1,h7 B hB z.2.1,?_⟩⟩
  ·show(a'.bz.1+b'.bz.1,a'.bz.2+b'.bz.2)=_;rw[h4,h5];rfl
  ·show a'.bz.1+b'.bz.1+(a'.bz.2+b'.bz.2)≤B;rw[h4,h5];exact z.2.2
 | .aZ a b,i,u,h,e=>by
  obtain⟨a',b',h1,h2,h3,h4,h5,h6,h7⟩:=Te (k:=k) (x:=.aZ) (h := "then") rfl (λ_ _=>rfl) e (λi e=>xf hp a i u h.1 e) (λi e=>xf hp b i u h.2.1 e) h.1 h.2.1;refine⟨.aZ a' b',h1,⟨h2,h3,?_⟩,?_,λB hB z=>⟨h6 B hB z.1,h7 B hB z.2.1,?_⟩⟩
  ·show a'.bz.2=b'.bz.1;rw[h4,h5];exact h.2.2
  ·show(a'.bz.1,b'.bz.2)=_;rw[h4,h5];rfl
  ·show a'.bz.1+b'.bz.2≤B;rw[h4,h5];exact z.2.2
theorem Tf(p k:Int)(u:Wd):(nM p k u).length≤3:=by
 unfold nM;split
 ·exact va rfl
 ·repeat' split
  all_goals exact va rfl
end D1
namespace S21
open PySem L2 Bw
variable{H:Hp}{i:Nat}{aU:List (Key×V)}{σ:St}
theorem Tg:∀(more aU:List (Key×V)),((aU++more).map (·.1)).Nodup→ue aU more=aU++more
 | [],aU,_=>by rw[iB];rfl
 |p::more,aU,h=>by
  have hv:dU aU p.1=none:=by
   unfold dU;rw[Option.map_eq_none_iff,List.find?_eq_none];intro q hq z;rw[aH]at z;rw[dE,kj,List.nodup_append]at h;exact h.2.2 q.1 (AQ hq) p.1 dN z
  show ue (gF aU p.1 p.2) more=_;rw[Ol _ hv,Tg more (aU++[(p.1,p.2)]) (by rw[i9];exact h),i9];rfl
noncomputable def kW:D1.Wd→Key
 | .n n=>.inl n
 | .w x=>.inr (Str.ofString x)
theorem ac5(u:D1.Wd):kV (kW u)=cG u:=by cases u<;>rfl
noncomputable def xg(v1 v2 v3 v4:Addr):List (Key×V):=[(.inr (Str.ofString "id"),.ref v1),(.inr (Str.ofString "copy"),.ref v2),(.inr (Str.ofString "add"),.ref v3),(.inr (Str.ofString "end"),.ref v4)]
noncomputable def xh(v1 v2 v3 v4 v5 v6 v7:Addr):List (Key×V):=xg v1 v2 v3 v4++[(.inr (Str.ofString "none"),.ref v5)]++[(.inr (Str.ofString "swap"),.ref v6)]++[(.inr (Str.ofString "cup"),.ref v7)]
structure Th(p:Int)(H:Hp)(v1 v2 v3 v4 v5 v6 v7:Addr):Prop where
 h1:H v1=some (.lst ([D1.Wd.w "times",.n (2%p)].map cG))
 h2:H v2=some (.lst ([D1.Wd.w "back",.w "add"].map cG))
 h3:H v3=some (.lst ([D1.Wd.w "back",.w "copy"].map cG))
 h4:H v4=some (.lst ([D1.Wd.w "back",.w "none"].map cG))
 h5:H v5=some (.lst ([D1.Wd.w "back",.w "end"].map cG))
 h6:H v6=some (.lst ([D1.Wd.w "beside",.w "id",.w "id"].map cG))
 h7:H v7=some (.lst ([D1.Wd.w "beside",.w "none",.w "none"].map cG))
theorem ac6{p k:Int}{v1 v2 v3 v4 v5 v6 v7:Addr}(h:Th p H v1 v2 v3 v4 v5 v6 v7)(u:D1.Wd):(∃v,dU (xh v1 v2 v3 v4 v5 v6 v7) (kW u)=some (.ref v)∧H v=some (.lst ((D1.nM p k u).map cG)))∨(dU (xh v1 v2 v3 v4 v5 v6 v7) (kW u)=none∧((∃n,u=.n n)∨∃x,u=.w x∧D1.nM p k u=[u])):=by
 have ng:∀{x y:Str}{v:Addr}{r:List (Key×V)},¬x=y→dU ((Sum.inr y,V.ref v)::r) (Sum.inr x:Key)=dU r (.inr x):=λh=>n9 λz=>h (Sum.inr.inj z).symm;cases u with
 |n n=>exact .inr ⟨rfl,.inl ⟨n,rfl⟩⟩
 |w x=>
  show(∃v,dU _ (Sum.inr (Str.ofString x):Key)=_∧_)∨(dU _ (Sum.inr (Str.ofString x):Key)=_∧_);unfold xh xg D1.nM;simp only[tu,uW];by_cases e1:Str.ofString x=Str.ofString "id"
  ·rw[af e1];exact .inl ⟨v1,jh (aj Sum.inr e1.symm),h.h1⟩
  rw[ag e1,ng e1];by_cases e2:Str.ofString x=Str.ofString "copy"
  ·rw[af e2];exact .inl ⟨v2,jh (aj Sum.inr e2.symm),h.h2⟩
  rw[ag e2,ng e2];by_cases e3:Str.ofString x=Str.ofString "add"
  ·rw[af e3];exact .inl ⟨v3,jh (aj Sum.inr e3.symm),h.h3⟩
  rw[ag e3,ng e3];by_cases e4:Str.ofString x=Str.ofString "end"
  ·rw[af e4];exact .inl ⟨v4,jh (aj Sum.inr e4.symm),h.h4⟩
  rw[ag e4,ng e4];by_cases e5:Str.ofString x=Str.ofString "none"
  ·rw[af e5];exact .inl ⟨v5,jh (aj Sum.inr e5.symm),h.h5⟩
  rw[ag e5,ng e5];by_cases e6:Str.ofString x=Str.ofString "swap"
  ·rw[af e6];exact .inl ⟨v6,jh (aj Sum.inr e6.symm),h.h6⟩
  rw[ag e6,ng e6];by_cases e7:Str.ofString x=Str.ofString "cup"
  ·rw[af e7];exact .inl ⟨v7,jh (aj Sum.inr e7.symm),h.h7⟩
  rw[ag e7,ng e7];exact .inr ⟨rfl,.inr ⟨x,rfl,rfl⟩⟩
theorem sub_self{xs:List D1.Wd}{u:D1.Wd}(h:xs[i]?=some u):D1.sub xs i [u]=xs:=by
 obtain⟨hi,rfl⟩:=dz.mp h;unfold D1.sub;rw[i9,List.singleton_append,← List.drop_eq_getElem_cons hi,List.take_append_drop]
theorem ac7{xs:List D1.Wd}{u:D1.Wd}(hi:i<xs.length):D1.sub xs i [u]=xs.set i u:=by
 unfold D1.sub;rw[List.set_eq_take_append_cons_drop,af hi,i9];rfl
def Aq(K:Frag):TE:=bp (jV K) (aW 3) (aW 4)
def xi(x y:String):TE:=cS (aY (tC (.str (Str.ofString x))) (aY (tC (.str (Str.ofString y))) bV))
def Et:TE:=OA [(tC (.str (Str.ofString "id")),cS (aY (tC (.str (Str.ofString "times"))) (aY (bp (rI (λ_ j=>0<j) λi j=>.int (i%j)) (tC (.int 2)) (aW 0)) bV))),(tC (.str (Str.ofString "copy")),xi "back" "add"),(tC (.str (Str.ofString "add")),xi "back" "copy"),(tC (.str (Str.ofString "end")),xi "back" "none")]
def Ti(K:Frag)(te:TE):TT:=tB (ko (λxs H Q=>∃(x:V)(b:Bool),xs=[x,.ty "int"]∧((∃i,x=.int i∧kitOne K (.type "int") (.type "int")=some b)∨∃s,x=.str s∧kitOne K (.type "str") (.type "int")=some b)∧Q (.bl b) H) (aY te (aY (tC (.ty "int")) bV)))
def Ku(x y z:String):TE:=cS (aY (tC (.str (Str.ofString x))) (aY (tC (.str (Str.ofString y))) (aY (tC (.str (Str.ofString z))) bV)))
def Kv(K:Frag):TS:=cI (dj (ko (λxs H Q=>∃a ys,xs=[.ref a]∧(di K H a ys∨bc K H a ys)∧∀p,H p=none→Q (.ref p) (upd H p (.lst ys))) (aY (aW 1) bV)) (bN 3))
 (cI (dj (bp (rI (λ_ j=>0<j) λi j=>.int (i%j)) (aW 2) (ko (S9 K) (aY (aW 1) bV))) (bN 4)) (cI (dj Et (bN 5)) (cI (yM (aW 5) (tC (.str (Str.ofString "none"))) (xi "back" "end")) (cI (yM (aW 5) (tC (.str (Str.ofString "swap"))) (Ku "beside" "id" "id")) (cI (yM (aW 5) (tC (.str (Str.ofString "cup"))) (Ku "beside" "none" "none")) (cI (eG (jx (Ow (Aq K) (aW 5))) (fK (bp eh (bp eh (iG (rY K) (aW 3) jd (hU (aW 4))) (Ov (aW 5) (Aq K))) (iG (rY K) (aW 3) (hU (bp (eS λi j=>.int (i+j)) (aW 4) (tC (.int 1)))) jd))) ik) (cI (eG (Ti K (Aq K)) (dj (bp (rI (λ_ j=>0<j) λi j=>.int (i%j)) (bp (eS λi j=>.int (i+j)) (bp (eS λi j=>.int (i+j)) (Aq K) (tC (.int 1))) (bp (rI (λ_ j=>0<j) λi j=>.int (i%j)) (bp (rI qK λi j=>.int (i/j)) (aW 2) (tC (.int 97))) (aW 0))) (aW 0)) (Mf (aW 3) (aW 4) MG)) ik) (fK (aW 3)))))))))
theorem ac8{t u:TS}{D:Ends}(h:t { D with nx:=u D } σ H):cI t u D σ H:=h
theorem xj{v ld:Addr}{xs:List V}{o:HO}(h:H v=some (.lst xs))(g:H ld=some (.dK aU)):(upd H ld o) v=some (.lst xs):=by
 rw[cy (λe=>by rw[e,g]at h;cases h)];exact h
theorem Kw{x:Str}{xs:List V}{ta:TA}{u:TS}{D:Ends}{H1:Hp}{ld:Addr}(hσ:σ[i]?=some (some (.ref ld)))(xk:∀Q:List V→Hp→Prop,Q xs H→ta σ H Q)(hx:xs.length≤100)(s:aL H1 H)(hl:H1 ld=none)(g:H ld=some (.dK aU))(hn:dU aU (.inr x)=none)(hz:aU.length<100)
  (q:∀v H',aL H1 H'→H' ld=some (.dK (aU++[(.inr x,.ref v)]))→H' v=some (.lst xs)→(∀a ys,H a=some (.lst ys)→H' a=some (.lst ys))→u D σ H'):cI (yM (aW i) (tC (.str x)) (cS ta)) u D σ H:=by
 have z:(100:Nat)≤sizeLine:=by decide
 refine ac8 (xk _ ⟨by lia,λv hv=>⟨_,hσ,ld,_,rfl,vO.k (k:=.inr x) (aL.upd hv _ _ g) (by lia),?_⟩⟩);have gd:=aL.upd hv (o:=.lst xs) _ _ g;rw[Ol _ hn];exact q v _ ((s.trans (.upd hv)).put hl) aQ (xj aQ gd) λa ys ha=>xj (aL.upd hv _ _ ha) gd
theorem valN{ks:List Key}{k:Key}(e:aU.map (·.1)=ks)(h:(ks++[k]).Nodup):dU aU k=none:=by
 unfold dU;rw[Option.map_eq_none_iff,List.find?_eq_none];intro x hx z;rw[aH]at z;rw[List.nodup_append]at h;exact h.2.2 x.1 (e▸AQ hx) k dN z
theorem ac9{R:VK}{p:Int}(h0:σ[0]?=some (some (.int p)))(p0:0<p)(q:∀ld v1 v2 v3 v4 H',aL H H'→H ld=none→H' ld=some (.dK (xg v1 v2 v3 v4))→H' v1=some (.lst ([D1.Wd.w "times",.n (2%p)].map cG))→H' v2=some (.lst ([D1.Wd.w "back",.w "add"].map cG))→H' v3=some (.lst ([D1.Wd.w "back",.w "copy"].map cG))→H' v4=some (.lst ([D1.Wd.w "back",.w "none"].map cG))→R (.ref ld) H'):Et σ H R:=by
 unfold Et;intro ld ke;have s0:aL H (upd H ld (.dK [])):=.upd ke;have g0:(upd H ld (.dK [])) ld=some (.dK []):=aQ;generalize upd H ld (.dK [])=H0 at s0 g0 ⊢;have z2:2≤sizeLine:=by decide
 unfold si;refine⟨_,h0,2,p,rfl,rfl,p0,z2,λv1 e1=>?_⟩;unfold si;refine⟨z2,λv2 e2=>?_⟩;unfold si;refine⟨z2,λv3 e3=>?_⟩;unfold si;refine⟨z2,λv4 e4=>?_⟩;unfold si;have S1:=aL.upd (H:=H0) e1 (o:=.lst ([D1.Wd.w "times",.n (2%p)].map cG));have S2:=aL.upd e2 (o:=.lst ([D1.Wd.w "back",.w "add"].map cG));have S3:=aL.upd e3 (o:=.lst ([D1.Wd.w "back",.w "copy"].map cG));have S4:=aL.upd e4 (o:=.lst ([D1.Wd.w "back",.w "none"].map cG));have gl:=S4 _ _ (S3 _ _ (S2 _ _ (S1 _ _ g0)));refine⟨gl,xg v1 v2 v3 v4,rfl,by show 4≤15;decide,?_⟩;have nd:((([]:List (Key×V))++xg v1 v2 v3 v4).map (·.1)).Nodup:=by
  show([Sum.inr (Str.ofString "id"),Sum.inr (Str.ofString "copy"),Sum.inr (Str.ofString "add"),Sum.inr (Str.ofString "end")]:List Key).Nodup;decide +kernel
 rw[Tg _ _ nd,uW];exact q ld v1 v2 v3 v4 _ ((s0.trans (S1.trans (S2.trans (S3.trans S4)))).put ke) ke aQ (xj (S4 _ _ (S3 _ _ (S2 _ _ aQ))) gl) (xj (S4 _ _ (S3 _ _ aQ)) gl) (xj (S4 _ _ aQ) gl) (xj aQ gl)
def Tj(_K:Frag):Sp:=λvs H Q _=>∃(p c:Int)(a:Addr)(d:D1.Dr),vs=[.int p,.ref a,.int c]∧p∈cb∧WL H a d∧d.wf p∧d.cP 64∧d.aN.length≤1000∧
 ∀f g H',aL H H'→WL H' f g→g.wf p→g.cP 64→g.aN.length≤d.aN.length+2→g.bz=d.bz→Q (.ref f) H'
theorem Eu:c8 ["p","words","cell","found","at","pairs"] ["p","words","cell"] (bq Ig):=dv rfl rfl rfl (by decide +kernel) rfl
theorem ada{f:Addr}{fd:FuncData}(F:bZ K "_law_swapped" "_law_swapped" Ig f fd)(T:Txt mg):bf P w K mg base bj 1 f fd ["p","words","cell"] (Tj K):=by
 refine F.ok Eu (λvs H Q E h=>?_) (λbt A outer s H vs Q E hr h=>?_)
 ·obtain⟨p,c,a,d,rfl,_⟩:=h;rfl
 ·obtain⟨p,c,a,d,rfl,pp,ga,wf,nr,hl,q⟩:=h;have hu:=hr.units;have lj:=Nat.lt_of_le_of_lt (Nat.add_le_add_left (show 1≤64 by decide) _) hu;refine⟨Kv K,?_,?_⟩
  ·unfold Kv;refine aX ?_ ?_
   ·exact bH (i:=3) Eu.nd rfl (.inl rfl) (fw (yo K rfl) rfl T.list qU (aK (pv 1) aM))
   refine aX ?_ ?_
   ·exact bH (i:=4) Eu.nd rfl (.inl rfl) (aV ft (pv 2) (dO (iX K rfl) rfl T.len iY (aK (pv 1) aM)))
   refine aX ?_ ?_
   ·refine bH (i:=5) ?_ ?_ ?_ ?_ ?_ ?_
    ·exact Eu.nd
    ·rfl
    ·exact Or.inl rfl
    ·unfold Et xi;refine Zk ?_ ?_ ?_ ?_ ?_
     ·refine Ce ?_ ?_ ?_
      ·exact cq
      ·exact bE (aK cq (aK (aV ft aR (pv 0)) aM))
      refine Ce ?_ ?_ ?_
      ·exact cq
      ·exact bE (aK cq (aK cq aM))
      refine Ce ?_ ?_ ?_
      ·exact cq
      ·exact bE (aK cq (aK cq aM))
      refine Ce ?_ ?_ ?_
      ·exact cq
      ·exact bE (aK cq (aK cq aM))
      exact Zj
     ·rfl
     ·rfl
     ·exact List.cons_ne_nil _ _
     ·exact va rfl
    ·rfl
    ·exact .inl rfl
   refine aX ?_ ?_
   ·unfold xi;exact Cc lj (pv 5) cq (bE (aK cq (aK cq aM))) rfl
   unfold Ku;refine aX ?_ ?_
   ·exact Cc lj (pv 5) cq (bE (aK cq (aK cq (aK cq aM)))) rfl
   refine aX ?_ ?_
   ·exact Cc lj (pv 5) cq (bE (aK cq (aK cq (aK cq aM)))) rfl
   unfold Ti Aq;refine aX ?_ ?_
   ·refine cN ?_ ?_ df
    ·exact Fl (Zg lj (bh (cA K rfl) (pv 3) (pv 4) (λ_ _=>rfl)) (pv 5)) rfl
    ·refine bg ?_;refine bY ?_;exact aV dh (aV dh (dB (fH K rfl) (pv 3) dZ (cZ (pv 4))) (yN lj (pv 5) (bh (cA K rfl) (pv 3) (pv 4) (λ_ _=>rfl)) (λ_ _=>rfl))) (dB (fH K rfl) (pv 3) (cZ (aV eB (pv 4) aR)) dZ)
   refine aX ?_ ?_
   ·refine cN ?_ ?_ df
    ·exact ju (dO (SE K rfl (T := "int")) rfl T.isinstance n8 (aK (bh (cA K rfl) (pv 3) (pv 4) (λ_ _=>rfl)) (aK (qT rfl T.int yv) aM)))
    ·refine bg ?_;exact lM (aV ft (aV eB (aV eB (bh (cA K rfl) (pv 3) (pv 4) (λ_ _=>rfl)) aR) (aV ft (aV iU (pv 2) aR) (pv 0))) (pv 0)) (Ft (pv 3) (pv 4) FY)
   ·exact bg (bY (pv 3))
  have p0:0<p:=by have:=(eI p pp).1;lia
  have z:(10000:Nat)≤sizeLine:=by decide
  have eN:(d.aN.map cG).length=d.aN.length:=ba _;have aak:=D1.words_pos d;unfold Kv;refine i7 ⟨_,rfl,a,_,rfl,.inl (.of ga),λlf qk=>?_⟩;have s1:aL H (upd H lf (.lst (d.aN.map cG))):=.upd qk;have Tn:(upd H lf (.lst (d.aN.map cG))) lf=some (.lst (d.aN.map cG)):=aQ;generalize upd H lf (.lst (d.aN.map cG))=H1 at s1 Tn ⊢;refine i7 ⟨_,rfl,_,rfl,a,_,rfl,.inl (.of (s1 _ _ ga)),c,_,rfl,rfl,by show(0:Int)<_;lia,?_⟩;dsimp only;have b0:=jr c (show(((d.aN.map cG).length:Nat):Int)≠0 by lia);have b1:=js c (show(0:Int)<(((d.aN.map cG).length:Nat):Int) by lia);obtain⟨i,hi⟩:∃i:Nat,c%(((d.aN.map cG).length:Nat):Int)=(i:Int):=⟨(c%(((d.aN.map cG).length:Nat):Int)).toNat,by lia⟩;rw[hi];have j6:i<d.aN.length:=by lia
  clear b0 b1 hi;obtain⟨u,jL⟩:∃u,d.aN[i]?=some u:=⟨_,cg j6⟩;refine i7 (ac9 rfl p0 λld v1 v2 v3 v4 H2 s2 ke gd a1 a2 a3 a4=>?_);have D8:=s2 _ _ Tn;refine Kw (xs:=[.str (Str.ofString "back"),.str (Str.ofString "end")]) rfl (λQ q=>q) (by show 2≤100;decide) s2 ke gd (valN (ks:=[.inr (Str.ofString "id"),.inr (Str.ofString "copy"),.inr (Str.ofString "add"),.inr (Str.ofString "end")]) rfl (by decide +kernel)) (by show 4<100;decide) λv5 H3 s3 JL a5 b3=>?_;refine Kw (xs:=[.str (Str.ofString "beside"),.str (Str.ofString "id"),.str (Str.ofString "id")]) rfl (λQ q=>q) (by show 3≤100;decide) s3 ke JL (valN (ks:=[.inr (Str.ofString "id"),.inr (Str.ofString "copy"),.inr (Str.ofString "add"),.inr (Str.ofString "end"),.inr (Str.ofString "none")]) rfl (by decide +kernel)) (by show 5<100;decide) λv6 H4 s4 uG a6 b4=>?_;refine Kw (xs:=[.str (Str.ofString "beside"),.str (Str.ofString "none"),.str (Str.ofString "none")]) rfl (λQ q=>q) (by show 3≤100;decide) s4 ke uG (valN (ks:=[.inr (Str.ofString "id"),.inr (Str.ofString "copy"),.inr (Str.ofString "add"),.inr (Str.ofString "end"),.inr (Str.ofString "none"),.inr (Str.ofString "swap")]) rfl (by decide +kernel)) (by show 6<100;decide) λv7 H6 s6 Ew a7 b6=>?_;have hP:Th p H6 v1 v2 v3 v4 v5 v6 v7:=⟨b6 _ _ (b4 _ _ (b3 _ _ a1)),b6 _ _ (b4 _ _ (b3 _ _ a2)),b6 _ _ (b4 _ _ (b3 _ _ a3)),b6 _ _ (b4 _ _ (b3 _ _ a4)),b6 _ _ (b4 _ _ a5),b6 _ _ a6,a7⟩;have qw:=b6 _ _ (b4 _ _ (b3 _ _ D8));have e7:xg v1 v2 v3 v4++[((Sum.inr (Str.ofString "none"):Key),V.ref v5)]++[((Sum.inr (Str.ofString "swap"):Key),V.ref v6)]++[((Sum.inr (Str.ofString "cup"):Key),V.ref v7)]=xh v1 v2 v3 v4 v5 v6 v7:=rfl;rw[e7]at Ew;clear a1 a2 a3 a4 a5 a6 a7 gd JL uG b3 b4 b6 s2 s3 s4 D8;have Kx:=s1.trans s6;have xl:o5 (d.aN.map cG) (i:Int)=some (cG u):=bu (by rw[eE,jL];rfl);obtain⟨g,w1,w2,w3,w4⟩:=D1.xf (k:=c/97%p) p0 d i u wf jL;have lg:g.aN.length≤d.aN.length+2:=by
   have:=D1.Tf p (c/97%p) u
   rw[w1];unfold D1.sub;rw[bK,bK,cH,dH];lia
  have dg:∀H',H' ld=some (.dK (xh v1 v2 v3 v4 v5 v6 v7))→oa H' ld (cG u) (dU (xh v1 v2 v3 v4 v5 v6 v7) (kW u)):=λH' h'=>by
   rw[← ac5];exact oa.k h'
  have ixI:mX (d.aN.map cG).length (i:Int)=some i:=by
   unfold mX;rw[af (by lia),af (by lia),show((i:Nat):Int).toNat=i by lia]
  rcases ac6 (k:=c/97%p) hP u with⟨v,e1,e2⟩|⟨e1,e2⟩
  ·rw[e1]at dg;have lsw:=D1.Tf p (c/97%p) u;refine wQ true (λR r=>⟨_,rfl,_,rfl,lf,_,_,_,rfl,rfl,.of qw,xl,_,rfl,ld,_,rfl,dg _ Ew,_,rfl,r⟩) (λ_=>?_) (λz=>nomatch z);refine⟨_,rfl,_,rfl,(i:Int),rfl,lf,_,rfl,.of qw,λt1 h1=>?_⟩;refine⟨_,rfl,_,rfl,_,rfl,lf,_,_,_,rfl,rfl,.of (aL.upd h1 _ _ qw),xl,ld,_,rfl,dg _ (aL.upd h1 _ _ Ew),t1,v,_,_,rfl,rfl,aQ,aL.upd h1 _ _ e2,?_,λt2 h2=>?_⟩
   ·rw[D5 (by lia),cH,ba,ba];lia
   refine⟨_,rfl,_,rfl,(i:Int),1,rfl,rfl,((i+1:Nat):Int),rfl,lf,_,rfl,.of (aL.upd h2 _ _ (aL.upd h1 _ _ qw)),λt3 h3=>?_⟩;refine⟨t2,t3,_,_,rfl,rfl,aL.upd h3 _ _ aQ,aQ,?_,λt4 h4=>?_⟩
   ·rw[D5 (by lia),J2 (by lia),bK,cH,dH,ba,ba];lia
   refine q t4 g _ (Kx.trans ((aL.upd h1).trans ((aL.upd h2).trans ((aL.upd h3).trans (.upd h4))))) ?_ w2 (w4 64 (by decide) nr) lg w3;show _=_;rw[aQ,w1,D5 (by lia),J2 (by lia)];unfold D1.sub;rw[dE,dE,List.map_take,List.map_drop]
  ·rw[e1]at dg;refine wQ false (λR r=>⟨_,rfl,_,rfl,lf,_,_,_,rfl,rfl,.of qw,xl,_,rfl,ld,_,rfl,dg _ Ew,_,rfl,r⟩) (λz=>nomatch z) (λ_=>?_);rcases e2 with⟨n,rfl⟩|⟨x,rfl,e2⟩
   ·refine wQ true (λR r=>⟨_,rfl,_,rfl,lf,_,_,_,rfl,rfl,.of qw,xl,_,true,rfl,.inl ⟨n,rfl,BR K⟩,_,rfl,r⟩) (λ_=>?_) (λz=>nomatch z);refine⟨_,rfl,_,rfl,lf,_,_,_,rfl,rfl,.of qw,xl,n,1,rfl,rfl,_,rfl,c,97,rfl,rfl,⟨by decide,by decide⟩,_,rfl,c/97,p,rfl,rfl,p0,_,_,rfl,rfl,_,rfl,_,p,rfl,rfl,p0,_,rfl,_,rfl,lf,_,(i:Int),i,rfl,rfl,qw,ixI,_,rfl,?_⟩;refine q lf g _ (Kx.write qk) ?_ w2 (w4 64 (by decide) nr) lg w3;show _=_;rw[aQ,w1];show _=some (HO.lst ((D1.sub d.aN i [D1.Wd.n ((n+1+c/97%p)%p)]).map cG));rw[ac7 j6,List.map_set];rfl
   ·refine wQ false (λR r=>⟨_,rfl,_,rfl,lf,_,_,_,rfl,rfl,.of qw,xl,_,false,rfl,.inr ⟨_,rfl,Hc K⟩,_,rfl,r⟩) (λz=>nomatch z) (λ_=>?_);rw[e2,sub_self jL]at w1;refine⟨_,rfl,q lf g _ Kx ?_ w2 (w4 64 (by decide) nr) lg w3⟩;show _=_;rw[w1];exact qw
end S21
namespace L2
open PySem PySem.Spec PyProof.Rows
open PySem.W (Looks)
section
variable{X:Cx}{C W f:Addr}{k:Nat}{fd:FuncData}{ps:List Str}{sp:Sp}{x wn n y:Str}{p cp ep wp np yp ap hp pos:Pos}{e:Expr}{es:List Expr}{t:TA}{ix ie:Nat}
end
end L2
namespace S21
open PySem L2 Bw
variable{H:Hp}{Pt a b f fW:Addr}{ds:List (List V)}{fd ow:FuncData}{p:Int}{x:List V}
noncomputable abbrev To:List Value:=[.type "ValueError",.type "Exception",.type "BaseException",.type "object"]
noncomputable def cB(K:Frag)(x:Str):Addr:=match nsIn K mainGlobals x with
 |some (some (.ref a))=>a
 |_=>0
noncomputable def sT(K:Frag)(x:Str):Bool:=nsIn K mainGlobals x==some (some (.ref (cB K x)))
noncomputable def Ky(K:Frag):List Addr:=[cB K "BadWires",cB K "NoDrawing",cB K "NoMove",cB K "NoRun"]
noncomputable def Ex(K:Frag)(c:Str)(bl bs:Bool):Bool:=
 sT K c&&PySem.W.excIn K (cB K c) To "ValueError.__new__"&&(PySem.W.exmOne K (.ref (cB K c)) (.ref (cB K "WireError"))==some true) &&
 (PySem.W.kitAny K (.ref (cB K c)) ((Ky K).map Value.ref)==some false)&&(kitOne K (.ref (cB K c)) (.type "ValueError")==some true) &&
 (kitOne K (.ref (cB K c)) (.ref (cB K "Late"))==some bl)&&(kitOne K (.ref (cB K c)) (.ref (cB K "BadSides"))==some bs) &&
 (PySem.W.clsIn K (cB K c)).isSome&&(PySem.W.findIn K (.ref (cB K c)) "__getattribute__"==some (some (.builtin "BaseException.__getattribute__")))&&(PySem.W.findIn K (.ref (cB K c)) "__getattr__"==some none) &&
 (PySem.W.findIn K (.ref (cB K c)) "__class__"==some (some (.builtin "object.__class__")))&&(PySem.W.specialIn K (.builtin "object.__class__") "__get__"==some (some (.builtin "getset_descriptor.__get__"))) &&
 (PySem.W.takesIn K (.builtin "object.__class__")==some true)&&(PySem.W.mroIn K (cB K c) (.type "object")==some true)&&(PySem.W.mroIn K (cB K c) (.type "BaseException")==some true)
noncomputable def Kz(K:Frag):Bool:=
 sT K "WireError"&&sT K "BadWires"&&sT K "NoDrawing"&&sT K "NoMove"&&sT K "NoRun"&&(nsIn K mainGlobals "ValueError"==some none)&&Ex K "Late" true false&&Ex K "BadSides" false true
structure xm(K:Frag)(mg:Str→Option Value)(c:Str)(bl bs:Bool):Prop where
 mC:mg c=some (.ref (cB K c))
 exc:PySem.W.excIn K (cB K c) To "ValueError.__new__"=true
 exm:PySem.W.exmOne K (.ref (cB K c)) (.ref (cB K "WireError"))=some true
 oth:PySem.W.kitAny K (.ref (cB K c)) ((Ky K).map Value.ref)=some false
 kV:kitOne K (.ref (cB K c)) (.type "ValueError")=some true
 kL:kitOne K (.ref (cB K c)) (.ref (cB K "Late"))=some bl
 kS:kitOne K (.ref (cB K c)) (.ref (cB K "BadSides"))=some bs
 Z:qt K (cB K c)
structure KA(K:Frag)(mg:Str→Option Value):Prop where
 mW:mg "WireError"=some (.ref (cB K "WireError"))
 m1:mg "BadWires"=some (.ref (cB K "BadWires"))
 m2:mg "NoDrawing"=some (.ref (cB K "NoDrawing"))
 m3:mg "NoMove"=some (.ref (cB K "NoMove"))
 m4:mg "NoRun"=some (.ref (cB K "NoRun"))
 val:mg "ValueError"=none
 L:xm K mg "Late" true false
 S:xm K mg "BadSides" false true
theorem Tp{K:Frag}{mg:Str→Option Value}{h:Heap}{c:Str}{bl bs:Bool}(X:K.In h)(G:h.Ns mainGlobals mg)(e:Ex K c bl bs=true):xm K mg c bl bs:=by
 unfold Ex sT at e;simp only[eF,beq_iff_eq]at e;obtain⟨⟨⟨⟨⟨⟨⟨⟨⟨⟨⟨⟨⟨⟨h1,h2⟩,h3⟩,h4⟩,h5⟩,h6⟩,h7⟩,h8⟩,h9⟩,Gy⟩,h11⟩,Tq⟩,h13⟩,h14⟩,Hz⟩:=e;exact⟨de X G h1,h2,h3,h4,h5,h6,h7,⟨h8,h9,Gy,h11,Tq,h13,h14,Hz⟩⟩
theorem KC{K:Frag}{mg:Str→Option Value}{h:Heap}(X:K.In h)(G:h.Ns mainGlobals mg)(e:Kz K=true):KA K mg:=by
 unfold Kz sT at e;simp only[eF,beq_iff_eq]at e;obtain⟨⟨⟨⟨⟨⟨⟨h1,h2⟩,h3⟩,h4⟩,h5⟩,h6⟩,h7⟩,h8⟩:=e;exact⟨de X G h1,de X G h2,de X G h3,de X G h4,de X G h5,mH X G h6,Tp X G h7,Tp X G h8⟩
theorem Tr:∀{cs:List Addr}{its:List Value},Vals (cs.map V.ref) its→its=cs.map Value.ref
 | [],_,.nil=>rfl
 |c::cs,_,.cons r rr=>by
  have e:=Tr rr;cases(show _=Value.ref c from r)
  rw[e];rfl
theorem adb{X:Cx}(K:Frag)(hK:X.K=K){C:Addr}{cs:List Addr}{b:Bool}(Z:qt K C)(e:PySem.W.kitAny K (.ref C) (cs.map Value.ref)=some b) :
  fq X (.builtin "isinstance") (λxs H Q=>∃a t,xs=[.ref a,.ref t]∧H a=some (mn C a)∧H t=some (.tup (cs.map V.ref))∧Q (.bl b) H):=by
 subst hK;intro aJ s σ H vs us Q I r h;obtain⟨a,t,rfl,ha,ht,q⟩:=h;obtain⟨u,v,rfl,ru,rv⟩:=vals2 r;cases(show u=Value.ref a from ru)
 cases(show v=Value.ref t from rv)
 obtain⟨_,its,rr,o,h1,h2,n,h3⟩:=(show ek X.prog X.w H s.heap t (.tup (cs.map V.ref)) from I.br t _ ht)
 have ei:=Tr rr;subst ei;obtain⟨oc,od,oda,lQ⟩:=o;have h2:oc=.type "tuple":=h2;have h3:oda=.seq (cs.map Value.ref).toArray n:=h3;subst h2 h3;exact PySem.W.kia_tup (Sz Z) I.eR (show ExcAt C a s.heap from(I.br a _ ha).1) h1 e (λz=>nomatch z) λtk=>⟨.bl b,H,I.tok tk,rfl,q⟩
def mv(d:Drw):Prop:=nW (.str (Str.ofString "late")) d.aN=true
theorem Drw.flat:∀d:Drw,d.aN.all kq=true
 | .box _ _ _ _=>rfl
 | .times _=>rfl
 | .back d=>by show(V.str "back"::d.aN).all kq=true;rw[List.all_cons,Drw.flat d];rfl
 | .cK a b=>by show(V.str "beside"::(a.aN++b.aN)).all kq=true;rw[List.all_cons,List.all_append,Drw.flat a,Drw.flat b];rfl
 | .aZ a b=>by show(V.str "then"::(a.aN++b.aN)).all kq=true;rw[List.all_cons,List.all_append,Drw.flat a,Drw.flat b];rfl
def KD(K:Frag)(H:Hp)(aw:Addr):Prop:=∃ws:List V,bc K H aw ws∧ws.all kq=true∧nW (.str "late") ws=true
theorem Ts{d:Drw}(l:mv d)(h:bc K H a d.aN):KD K H a:=⟨_,h,d.flat,l⟩
theorem ade{b:Bool}{A B:Prop}(h:b=true)(q:A):if(if false=true then !b else b)=true then A else B:=by
 subst h;simpa using q
def Tt(K:Frag):Sp:=λvs H _ E=>∃aw,vs=[.ref aw]∧KD K H aw∧E (.ref (cB K "Late")) none H
theorem adf(F:bZ K "refuse_late" "refuse_late" Cz f fd)(Y:xm K mg "Late" true false):bf P w K mg base (i6 P w (cB K "Late")) 1 f fd ["words"] (Tt K):=by
 refine F.wV PK (λvs H Q E h=>?_) (λbt A outer s H vs Q E hr h=>?_)
 ·obtain⟨aw,rfl,_⟩:=h;rfl
 ·obtain⟨aw,rfl,⟨ws,hw,hf,hn⟩,q⟩:=h;refine⟨_,bg (cN (cC (NI K rfl) cq (pv 0) rfl) (bg (So (E:=E) rfl rfl Y.mC Y.exc PySem.F.excBase_ValueError (aK cq aM) Sk)) df),?_⟩;exact⟨_,rfl,aw,ws,rfl,.inr hw,rfl,hf,_,rfl,ade hn ⟨(by show 1≤sizeLine;decide),q⟩⟩
def Ey(K:Frag):Sp:=λvs H _ E=>∃(p:Int)(aw:Addr),vs=[.int p,.ref aw]∧KD K H aw∧E (.ref (cB K "Late")) none H
theorem adg{fL:Addr}{kZ:FuncData}(F:bZ K "forms" "forms" jF f fd)
  (GL:bf P w K mg base (i6 P w (cB K "Late")) 1 fL kZ ["words"] (Tt K)) (kL:Kp K fL) (bL:Binds K kZ ["words"] []) (mL:Mg mg "refuse_late" fL):bf P w K mg base (i6 P w (cB K "Late")) 2 f fd ["p","words"] (Ey K):=by
 refine F.wV PV (λvs H Q E h=>?_) (λbt A outer s H vs Q E hr h=>?_)
 ·obtain⟨p,aw,rfl,_⟩:=h;rfl
 ·obtain⟨p,aw,rfl,hw,q⟩:=h;refine⟨_,aX (jv (ck (E:=E) GL hr rfl mL kL bL .nil zX (aK (pv 1) aM))) vi,?_⟩;exact⟨_,rfl,aw,rfl,hw,q⟩
theorem adh{fF:Addr}{lC:FuncData}(F:bZ K "plain" "plain" Cy f fd)
  (GF:bf P w K mg base (i6 P w (cB K "Late")) 2 fF lC ["p","words"] (Ey K)) (kF:Kp K fF) (bF:Binds K lC ["p","words"] []) (mF:Mg mg "forms" fF):bf P w K mg base (i6 P w (cB K "Late")) 3 f fd ["p","words"] (Ey K):=by
 refine F.wV PX (λvs H Q E h=>?_) (λbt A outer s H vs Q E hr h=>?_)
 ·obtain⟨p,aw,rfl,_⟩:=h;rfl
 ·obtain⟨p,aw,rfl,hw,q⟩:=h;refine⟨_,bg (bY (bh (cT K rfl) (yN (By hr) (ck (E:=E) GF hr rfl mF kF bF .nil zX (aK (pv 0) (aK (pv 1) aM))) aR (λ_ _=>rfl)) aR (λ_ _=>rfl))),?_⟩;exact⟨_,rfl,_,rfl,p,aw,rfl,hw,q⟩
def Tu(K:Frag):Sp:=λvs H _ E=>∃(a b:Addr)(x y x' y':Int),vs=[.ref a,.ref b]∧bc K H a [.int x,.int y]∧bc K H b [.int x',.int y']∧¬(x=x'∧y=y')∧E (.ref (cB K "BadSides")) none H
theorem adi(F:bZ K "refuse_sides" "refuse_sides" CC f fd)(Y:xm K mg "BadSides" false true):bf P w K mg base (i6 P w (cB K "BadSides")) 1 f fd ["one","other"] (Tu K):=by
 refine F.wV Rl (λvs H Q E h=>?_) (λbt A outer s H vs Q E hr h=>?_)
 ·obtain⟨a,b,x,y,x',y',rfl,_⟩:=h;rfl
 ·obtain⟨a,b,x,y,x',y',rfl,ha,hb,ne,q⟩:=h;have hu:=hr.units;refine⟨_,bg (cN (cC (BV K rfl hu) (pv 0) (pv 1) (cx _)) (bg (So (E:=E) rfl rfl Y.mC Y.exc PySem.F.excBase_ValueError (aK cq aM) Sk)) df),?_⟩;refine⟨_,rfl,_,rfl,.tuple [.int x,.int y],.tuple [.int x',.int y'],.tuple ha (.cons (.int _) (.cons (.int _) .nil)),.tuple hb (.cons (.int _) (.cons (.int _) .nil)),rfl,rfl,_,rfl,?_⟩;refine Ip (λz=>ne ?_) ⟨(by show 1≤sizeLine;decide),q⟩;injection z with z;injection z with z1 z;injection z with z2 _;exact⟨Dat.int.inj z1,Dat.int.inj z2⟩
def KG(K:Frag):Sp:=λvs H _ E=>∃(p:Int)(a b:Addr)(d e:Drw),vs=[.int p,.ref a,.ref b]∧d.eX p∧e.eX p∧¬d.bz=e.bz∧d.aN.length≤900000∧e.aN.length≤900000∧bc K H a d.aN∧bc K H b e.aN∧∀H',aL H H'→E (.ref (cB K "BadSides")) none H'
theorem adj{fR:Addr}{mj:FuncData}(F:bZ K "compared" "compared" y3 f fd)
  (GR:bf P w K mg base (i6 P w (cB K "BadSides")) 1 fR mj ["one","other"] (Tu K)) (kR:Kp K fR) (bR:Binds K mj ["one","other"] []) (mR:Mg mg "refuse_sides" fR)
  (GW:bf P w K mg base bj 6 fW ow ["words"] (DB K)) (kW:Kp K fW) (bW:Binds K ow ["words"] []) (mW:Mg mg "wires" fW) :
  bf P w K mg base (i6 P w (cB K "BadSides")) 7 f fd ["p","one","other"] (KG K):=by
 refine F.wV rB (λvs H Q E h=>?_) (λbt A outer s H vs Q E hr h=>?_)
 ·obtain⟨p,a,b,d,e,rfl,_⟩:=h;rfl
 ·obtain⟨p,a,b,d,e,rfl,hd,he,ne,ld,le,ha,hb,q⟩:=h;have r1:dk 1 _:=hr.mono (by lia);have r6:dk 6 _:=hr.mono (by lia);refine⟨_,aX (jv (ck (E:=E) GR r1 rfl mR kR bR .nil zX (aK (ck GW r6 rfl mW kW bW .nil cu (aK (pv 1) aM)) (aK (ck GW r6 rfl mW kW bW .nil cu (aK (pv 2) aM)) aM)))) vi,?_⟩;refine⟨_,rfl,p,a,d,rfl,hd,ld,ha,λv1 H1 s1 oE=>⟨_,rfl,p,b,e,rfl,he,le,s1.bo hb,λv2 H2 s2 ml=>?_⟩⟩;exact⟨v1,v2,_,_,_,_,rfl,s2.bo oE,ml,λz=>ne (Prod.ext (Int.ofNat.inj z.1) (Int.ofNat.inj z.2)),q H2 (s1.trans s2)⟩
def KH(K:Frag)(Pt:Addr):Sp:=λvs H _ E=>∃(p:Int)(a b:Addr)(d e:Drw),vs=[.int p,.ref a,.ref b]∧d.eX p∧e.eX p∧d.bz=e.bz∧d.aN.length≤900000∧e.aN.length≤900000∧bc K H a d.aN∧bc K H b e.aN∧fi H Pt (ig fX) ij∧
 (mv d∨(p∈cb∧Ok p d∧mv e))∧∀H',aL (S21.del Pt H) H'→fi H' Pt (ig fX) ij→E (.ref (cB K "Late")) none H'
theorem adk{fR fP:Addr}{mj rC:FuncData}(F:bZ K "compared" "compared" y3 f fd)
  (GR:bf P w K mg base bj 1 fR mj ["one","other"] (JK K)) (kR:Kp K fR) (bR:Binds K mj ["one","other"] []) (mR:Mg mg "refuse_sides" fR)
  (GW:bf P w K mg base bj 6 fW ow ["words"] (DB K)) (kW:Kp K fW) (bW:Binds K ow ["words"] []) (mW:Mg mg "wires" fW)
  (GP:bf P w K mg base bj 10 fP rC ["p","words"] (Jp K Pt)) (kP:Kp K fP) (bP:Binds K rC ["p","words"] []) (mP:Mg mg "plain" fP)
  (GX:bf P w K mg base (i6 P w (cB K "Late")) 3 fP rC ["p","words"] (Ey K)) :
  bf P w K mg base (i6 P w (cB K "Late")) 11 f fd ["p","one","other"] (KH K Pt):=by
 refine F.wV rB (λvs H Q E h=>?_) (λbt A outer s H vs Q E hr h=>?_)
 ·obtain⟨p,a,b,d,e,rfl,_⟩:=h;rfl
 ·obtain⟨p,a,b,d,e,rfl,hd,he,rE,ld,le,ha,hb,kg,hl,q⟩:=h;have r1:dk 1 _:=hr.mono (by lia);have r3:dk 3 _:=hr.mono (by lia);have r6:dk 6 _:=hr.mono (by lia);have hs1:e.cU=d.cU:=aj Prod.fst rE.symm;have jC:e.cL=d.cL:=aj Prod.snd rE.symm;rcases hl with hl|⟨pp,od,hl⟩
  ·refine⟨_,aX (jv (ck GR r1 rfl mR kR bR .nil cu (aK (ck GW r6 rfl mW kW bW .nil cu (aK (pv 1) aM)) (aK (ck GW r6 rfl mW kW bW .nil cu (aK (pv 2) aM)) aM)))) (aX (bH (i:=3) rB.nd rfl (.inl rfl) (ck (E:=E) GX r3 rfl mP kP bP .nil zX (aK (pv 0) (aK (pv 1) aM)))) vi),?_⟩;refine⟨_,rfl,p,a,d,rfl,hd,ld,ha,λv1 H1 s1 oE=>⟨_,rfl,p,b,e,rfl,he,le,s1.bo hb,λv2 H2 s2 ml=>?_⟩⟩;rw[hs1,jC]at ml;refine⟨v1,v2,_,_,rfl,s2.bo oE,ml,?_⟩;exact⟨_,rfl,_,rfl,p,a,rfl,Ts hl ((s1.trans s2).bo ha),q H2 (aL.sE (s1.trans s2)) (kg.mono (s1.trans s2))⟩
  ·refine⟨_,aX (jv (ck GR r1 rfl mR kR bR .nil cu (aK (ck GW r6 rfl mW kW bW .nil cu (aK (pv 1) aM)) (aK (ck GW r6 rfl mW kW bW .nil cu (aK (pv 2) aM)) aM)))) (aX (bH (i:=3) rB.nd rfl (.inl rfl) (ck GP hr rfl mP kP bP .nil cu (aK (pv 0) (aK (pv 1) aM)))) (aX (bH (i:=4) rB.nd rfl (.inl rfl) (ck (E:=E) GX r3 rfl mP kP bP .nil zX (aK (pv 0) (aK (pv 2) aM)))) vi)),?_⟩;refine⟨_,rfl,p,a,d,rfl,hd,ld,ha,λv1 H1 s1 oE=>⟨_,rfl,p,b,e,rfl,he,le,s1.bo hb,λv2 H2 s2 ml=>?_⟩⟩;rw[hs1,jC]at ml;refine⟨v1,v2,_,_,rfl,s2.bo oE,ml,?_⟩;have s12:=s1.trans s2;have pG:=kg.mono s12;refine⟨_,rfl,_,rfl,p,a,d,rfl,pp,od.1,od.2,ld,s12.bo ha,pG,λf1 FS H3 s3 pH _ _=>?_⟩;obtain⟨ps2,DQ⟩:=pG.tab;have hb3:=s3.bo (bc.del DQ (s12.bo hb));exact⟨_,rfl,_,rfl,p,b,rfl,Ts hl hb3,q H3 (wO (aL.sE s12) s3) pH⟩
def nN(H:Hp)(a:Addr)(d:Drw):Prop:=∃b,H a=some (.lst [.ref b,.int (d.cU:Int),.int (d.cL:Int)])∧H b=some (.lst d.aN)
theorem nN.mono{H':Hp}{d:Drw}(h:nN H a d)(s:aL H H'):nN H' a d:=let ⟨b,g1,g2⟩:=h;⟨b,s _ _ g1,s _ _ g2⟩
theorem Ez{d:D1.Dr}(h:WT H a d):nN H a (conv d):=by
 obtain⟨b,g1,g2⟩:=h;refine⟨b,?_,?_⟩
 ·rw[mh,lE];exact g1
 ·rw[lF];exact g2
theorem bf.or{CX:oQ}{k:Nat}{ps:List Str}{sp xR:Sp}(F:bf P w K mg base CX k f fd ps sp)(G:bf P w K mg base CX k f fd ps xR):bf P w K mg base CX k f fd ps (λvs H Q E=>sp vs H Q E∨xR vs H Q E):=
 ⟨λvs H Q E q=>q.elim (F.len vs H Q E) (G.len vs H Q E),λA outer s H args us vs Q E hr he hb hv hs=>hs.elim (F.run A outer s H args us vs Q E hr he hb hv) (G.run A outer s H args us vs Q E hr he hb hv)⟩
def KI(K:Frag)(Pt:Addr)(c:Str)(bl:Bool)(EA:Sp):Sp:=λvs H Q _=>∃(p:Int)(a b:Addr)(wt:Bool)(d e:Drw),vs=[.int p,.ref a,.ref b,.bl wt]∧nN H a d∧nN H b e∧fi H Pt (ig fX) ij∧(wt&&decide (d.bz=e.bz))=bl∧
 (∀ta tb H1,aL H H1→bc K H1 ta d.aN→bc K H1 tb e.aN→∀(Q:VK)(E:XK),(∀H2,aL (S21.del Pt H1) H2→fi H2 Pt (ig fX) ij→E (.ref (cB K c)) none H2)→EA [.int p,.ref ta,.ref tb] H1 Q E)∧
 ∀H',aL (S21.del Pt H) H'→fi H' Pt (ig fX) ij→Q (.bl true) H'
theorem EB:c8 ["p","one","other","waits","caught","e","late"] ["p","one","other","waits"] (bq CJ):=dv rfl rfl rfl (by decide +kernel) rfl
theorem tV(a b:Int):kqdOk 8 (.list [.int a,.int b])=true:=rfl
theorem adl{x y x' y':Nat}(i:Decidable (Dat.list [.int (x:Int),.int (y:Int)]=.list [.int (x':Int),.int (y':Int)])):@decide (Dat.list [.int (x:Int),.int (y:Int)]=.list [.int (x':Int),.int (y':Int)]) i=decide ((x,y)=(x',y')):=by
 by_cases h:(x,y)=(x',y')
 ·injection h with h1 h2;subst h1 h2;rw[aE rfl,aE rfl]
 ·rw[ae h,ae];intro z;injection z with z;injection z with z1 z;injection z with z2 _;injection z1 with z1;injection z2 with z2;exact h (by rw[Int.ofNat.inj z1,Int.ofNat.inj z2])
theorem Tv{fC:Addr}{gQ:FuncData}{c:Str}{bl:Bool}{EA:Sp}(F:bZ K "_law_refused" "_law_refused" CJ f fd)(T:Txt mg)(Y:KA K mg)(C:xm K mg c bl (!bl))
  (GE:bf P w K mg base (i6 P w (cB K c)) 11 fC gQ ["p","one","other"] EA) (kC:Kp K fC) (bC:Binds K gQ ["p","one","other"] []) (mC:Mg mg "compared" fC) :
  bf P w K mg base bj 12 f fd ["p","one","other","waits"] (KI K Pt c bl EA):=by
 refine F.ok EB (λvs H Q E h=>?_) (λbt A outer s H vs Q E hr h=>?_)
 ·obtain⟨p,a,b,wt,d,e,rfl,_⟩:=h;rfl
 ·obtain⟨p,a,b,wt,d,e,rfl,⟨wa,ga,jo⟩,⟨wb,gb,sU⟩,kg,KJ,hE,q⟩:=h;have hu:=hr.units;have r11:dk 11 _:=hr.mono (by lia);refine⟨_,aX (bH (i:=4) EB.nd rfl (.inl rfl) oT) (aX (acn (ix:=4) (ie:=5) (λ_ _ z=>z) rfl rfl GE r11 rfl mC kC bC (aK (pv 0) (aK (fw (lV K rfl) rfl T.tuple jY (aK (bh (cA K rfl) (pv 1) aR (λ_ _=>rfl)) aM)) (aK (fw (lV K rfl) rfl T.tuple jY (aK (bh (cA K rfl) (pv 2) aR (λ_ _=>rfl)) aM)) aM))) rfl Y.mW C.exm EB.nd rfl rfl rfl rfl (by decide)) (aX (cN (PW.pt (nT (p4 (ju (dO (acw K rfl C.Z C.kV) rfl T.isinstance n8 (aK (pv 4) (aK (qT rfl Y.val acx) aM))))) (tM (ju (dO (adb K rfl (cs:=Ky K) C.Z C.oth) rfl T.isinstance n8 (aK (pv 4) (aK (fu (aK (lK (v:=.ref _) rfl Y.m1 rfl) (aK (lK (v:=.ref _) rfl Y.m2 rfl) (aK (lK (v:=.ref _) rfl Y.m3 rfl) (aK (lK (v:=.ref _) rfl Y.m4 rfl) aM))))) aM))))))) (bg (bY tL)) df) (aX (bH (i:=6) EB.nd rfl (.inl rfl) (Fo (pv 3) (Fm (nV (yr K rfl hu) (dB (fH K rfl) (pv 1) (cZ aR) dZ) (dB (fH K rfl) (pv 2) (cZ aR) dZ) (cx _))))) (bg (bY (Fo (nV dM (dO (SD K rfl C.Z C.kL) rfl T.isinstance n8 (aK (pv 4) (aK (lK (v:=.ref _) rfl Y.L.mC rfl) aM))) (pv 6) (cx _)) (Fm (nV dM (dO (SD K rfl C.Z C.kS) rfl T.isinstance n8 (aK (pv 4) (aK (lK (v:=.ref _) rfl Y.S.mC rfl) aM))) (VC (pv 6)) (cx _))))))))),?_⟩;refine⟨_,rfl,_,rfl,a,_,0,.ref wa,rfl,rfl,.of ga,bu (j:=0) rfl,wa,_,rfl,.inl ⟨.of jo,λta xk=>?_⟩⟩;have sa:=aL.upd xk (o:=.tup d.aN);refine⟨_,rfl,b,_,0,.ref wb,rfl,rfl,.of (sa _ _ gb),bu (j:=0) rfl,wb,_,rfl,.inl ⟨.of (sa _ _ sU),λtb vP=>?_⟩⟩;have sb:=aL.upd vP (o:=.tup e.aN);have s1:=sa.trans sb;refine hE ta tb _ s1 (.of (sb _ _ aQ)) (.of aQ) _ _ λH2 s2 pG ea hea=>?_;have sV:=kg.mono s1;obtain⟨ps1,sW⟩:=sV.tab;have na:a≠Pt:=λz=>by have:=s1 _ _ ga;rw[z,sW]at this;exact nomatch this
  have nb:b≠Pt:=λz=>by have:=s1 _ _ gb;rw[z,sW]at this;exact nomatch this
  have rK:=s2 _ _ ((wk na).trans (s1 _ _ ga));have qv:=s2 _ _ ((wk nb).trans (s1 _ _ gb));have s3:=aL.upd hea (o:=mn (cB K c) ea);have sD:aL (S21.del Pt H) (upd H2 ea (mn (cB K c) ea)):=pF (wO (aL.sE s1) s2) s3;have g:(upd H2 ea (mn (cB K c) ea)) ea=some (mn (cB K c) ea):=aQ;have Tw:=s3 _ _ rK;have Tx:=s3 _ _ qv;have pH:=pG.mono s3;generalize upd H2 ea (mn (cB K c) ea)=H3 at sD g Tw Tx pH;refine⟨_,rfl,ea,rfl,g,true,rfl,cD ?_⟩;refine⟨_,rfl,by show 4≤sizeLine;decide,λt ht=>?_⟩;have st:=aL.upd ht (o:=.tup [.ref (cB K "BadWires"),.ref (cB K "NoDrawing"),.ref (cB K "NoMove"),.ref (cB K "NoRun")]);refine⟨ea,t,rfl,st _ _ g,aQ,false,rfl,cD ?_⟩;have fin:∀H4,aL H3 H4→fK (L9 (bp oY (ko (λxs H Q=>∃a,xs=[.ref a,.ref (cB K "Late")]∧H a=some (mn (cB K c) a)∧Q (.bl bl) H) (aY (aW 4) (aY (tC (.ref (cB K "Late"))) bV))) (aW 6)) (bp oY (ko (λxs H Q=>∃a,xs=[.ref a,.ref (cB K "BadSides")]∧H a=some (mn (cB K c) a)∧Q (.bl (!bl)) H) (aY (aW 4) (aY (tC (.ref (cB K "BadSides"))) bV))) (Ma (aW 6)))) ⟨λ_ _=>False,Q,λ_ _=>False,λ_ _=>False⟩ [some (.int p),some (.ref a),some (.ref b),some (.bl wt),some (.ref ea),none,some (.bl bl)] H4:=λH4 s4=>by
   refine⟨_,rfl,ea,rfl,s4 _ _ g,_,rfl,rfl,_,rfl,?_⟩;rw[aE rfl];refine dy ⟨_,rfl,ea,rfl,s4 _ _ g,_,rfl,_,rfl,rfl,?_⟩;rw[aE rfl];exact q _ (pF sD s4) (pH.mono s4)
  cases wt with
  |false=>
   have hb:bl=false:=KJ.symm;refine⟨_,rfl,_,rfl,cD ?_⟩;rw[hb]at fin ⊢;exact fin _ st
  |true=>
   refine⟨_,rfl,_,rfl,dy ?_⟩;refine⟨_,rfl,1,rfl,a,_,rfl,.of (st _ _ Tw),λx1 h1=>?_⟩;have q1:=aL.upd h1 (o:=.lst (fh [.ref wa,.int (d.cU:Int),.int (d.cL:Int)] (some 1) none));refine⟨_,rfl,1,rfl,b,_,rfl,.of (q1 _ _ (st _ _ Tx)),λx2 h2=>?_⟩;have q2:=aL.upd h2 (o:=.lst (fh [.ref wb,.int (e.cU:Int),.int (e.cL:Int)] (some 1) none));refine⟨.list [.int (d.cU:Int),.int (d.cL:Int)],.list [.int (e.cU:Int),.int (e.cL:Int)],.list (.of (q2 _ _ aQ)) (.cons (.int _) (.cons (.int _) .nil)),.list (.of aQ) (.cons (.int _) (.cons (.int _) .nil)),tV _ _,tV _ _,?_⟩;have hb:decide ((d.cU,d.cL)=(e.cU,e.cL))=bl:=by rw[Bool.true_and]at KJ;exact KJ
   simp only[AN,if_false];rw[adl,hb];exact fin _ (st.trans (q1.trans q2))
theorem adm{n:Nat}{R:LL}(pp:p∈cb)(hR:Bw.bw p n R):cz p (cz p R)=cz p R:=by
 have o:=gP pp hR;exact vU.red pp o.rws hR ⟨o.sub,o.sup⟩
theorem Ar(ns:List Int)(lo hi:Option Int):∃ms:List Int,fh (ns.map V.int) lo hi=ms.map V.int∧ms.length≤ns.length:=by
 refine⟨(ns.drop (HT.cF ns.length 0 lo)).take (HT.cF ns.length ns.length hi-HT.cF ns.length 0 lo),?_,?_⟩
 ·unfold fh;rw[ba,List.map_take,List.map_drop]
 ·rw[cH,dH];lia
theorem Tz:kqdOk 8 (.tuple [.str (Str.ofString "same")])=true:=by
 simp[kqdOk]
 kernel_rfl
theorem As{xs:List V}{ps:Array Value}(hP:H Pt=some (.e9 ps))(h:H b=some (.lst xs)):S21.del Pt H b=some (.lst xs):=by
 rw[wk (λz=>by rw[z,hP]at h;cases h)];exact h
theorem TC(pp:p∈cb){d:D1.Dr}(h:d.wf p):Bw.bw p (d.l+d.r) (cz p (d.aO p))∧cz p (cz p (d.aO p))=cz p (d.aO p)∧(cz p (d.aO p)).length≤d.l+d.r:=by
 obtain⟨r1,_,_⟩:=D1.DK pp h
 have:=y6 r1
 exact⟨(gP pp r1).rws,adm pp r1,by lia⟩
def TF(K:Frag)(Pt:Addr):Sp:=λvs H Q _=>∃(p:Int)(a b:Addr)(d e:D1.Dr),vs=[.int p,.ref a,.ref b]∧p∈cb∧WT H a d∧WT H b e∧d.wf p∧e.wf p∧d.cP 64∧e.cP 64∧d.bz=e.bz∧d.aN.length≤1000∧e.aN.length≤1000∧d.l+d.r≤100∧fi H Pt (ig fX) ij∧
 ∀H',aL (S21.del Pt H) H'→fi H' Pt (ig fX) ij→Q (.bl true) H'
theorem xn:c8 ["p","one","other","found","rows","others","row","number"] ["p","one","other"] (bq Il):=dv rfl rfl rfl (by decide +kernel) rfl
theorem adn{fC fM fS:Addr}{gQ iJ gG:FuncData}(F:bZ K "_law_told" "_law_told" Il f fd)(T:Txt mg)
  (GC:bf P w K mg base bj 11 fC gQ ["p","one","other"] (Rp K Pt)) (kC:Kp K fC) (bC:Binds K gQ ["p","one","other"] []) (mC:Mg mg "compared" fC)
  (GM:bf P w K mg base bj 4 fM iJ ["p","words"] (SF K)) (kM:Kp K fM) (bM:Binds K iJ ["p","words"] []) (mM:Mg mg "_law_meaning" fM)
  (GS:bf P w K mg base bj 3 fS gG ["p","rows","row"] (R0 K)) (kS:Kp K fS) (bS:Binds K gG ["p","rows","row"] []) (mS:Mg mg "_law_spans" fS) :
  bf P w K mg base bj 12 f fd ["p","one","other"] (TF K Pt):=by
 refine F.ok xn (λvs H Q E h=>?_) (λbt A outer s H vs Q E hr h=>?_)
 ·obtain⟨p,a,b,d,e,rfl,_⟩:=h;rfl
 ·obtain⟨p,a,b,d,e,rfl,pp,⟨wa,ga,jo⟩,⟨wb,gb,sU⟩,dw,ew,dn,en,rE,ld,le,ad6,kg,q⟩:=h;have hu:=hr.units;have r3:dk 3 _:=hr.mono (by lia);have r4:dk 4 _:=hr.mono (by lia);have jj:(1000:Nat)≤sizeLine:=by decide
  refine⟨_,aX (bH (i:=3) xn.nd rfl (.inl rfl) (ck GC hr rfl mC kC bC .nil cu (aK (pv 0) (aK (fw (lV K rfl) rfl T.tuple jY (aK (bh (cA K rfl) (pv 1) aR (λ_ _=>rfl)) aM)) (aK (fw (lV K rfl) rfl T.tuple jY (aK (bh (cA K rfl) (pv 2) aR (λ_ _=>rfl)) aM)) aM))))) (aX (bH (i:=4) xn.nd rfl (.inl rfl) (bh (cA K rfl) (ck GM r4 rfl mM kM bM .nil cu (aK (pv 0) (aK (bh (cA K rfl) (pv 1) aR (λ_ _=>rfl)) aM))) aR (λ_ _=>rfl))) (aX (bH (i:=5) xn.nd rfl (.inl rfl) (bh (cA K rfl) (ck GM r4 rfl mM kM bM .nil cu (aK (pv 0) (aK (bh (cA K rfl) (pv 2) aR (λ_ _=>rfl)) aM))) aR (λ_ _=>rfl))) (aX (cN (cC (yr K rfl hu) (pv 4) (pv 5) (cx _)) (bg (bY (nV (yr K rfl hu) (pv 3) (fu (aK cq aM)) (cx _)))) df) (aX (cN (PW.pt (nT (p4 (ju (dO (NH K rfl (T := "tuple")) rfl T.isinstance n8 (aK (pv 3) (aK (qT rfl T.tuple jY) aM))))) (nT (cC oZ (dO (iX K rfl) rfl T.len iY (aK (pv 3) aM)) aR (cx _)) (nT (cC oZ (bh (cT K rfl) (pv 3) aR (λ_ _=>rfl)) cq (cx _)) (tM (p4 (ju (dO (NH K rfl (T := "tuple")) rfl T.isinstance n8 (aK (bh (cT K rfl) (pv 3) aR (λ_ _=>rfl)) (aK (qT rfl T.tuple jY) aM)))))))))) (bg (bY tL)) df) (aX (bH (i:=6) xn.nd rfl (.inl rfl) (bh (cT K rfl) (pv 3) aR (λ_ _=>rfl))) (aX (jw jR rfl (n6 K rfl (pv 6)) (cj (i:=7) xn.nd rfl (.inl rfl)) (bg (cN (PW.pt (nT (p4 (ju (dO (BU (T := "int") K rfl) rfl T.isinstance n8 (aK (pv 7) (aK (qT rfl T.int yv) aM))))) (nT (ju (dO (BU (T := "bool") K rfl) rfl T.isinstance n8 (aK (pv 7) (aK (qT rfl T.bool NK) aM)))) (tM (p4 (V4 FK FJ aR (pv 7) (pv 0))))))) (bg (bY tL)) df))) (aX (cN (PW.pt (nT (cC oZ (dO (iX K rfl) rfl T.len iY (aK (pv 6) aM)) (aV eB (bh (cA K rfl) (pv 1) aR (λ_ _=>rfl)) (bh (cA K rfl) (pv 1) aR (λ_ _=>rfl))) (cx _)) (nT (ju (dO (BU (T := "bool") K rfl) rfl T.isinstance n8 (aK (bh (cT K rfl) (pv 3) aR (λ_ _=>rfl)) (aK (qT rfl T.bool NK) aM)))) (tM (cC (YD K rfl) (bh (cT K rfl) (pv 3) aR (λ_ _=>rfl)) (bE (aK aR (aK aR aM))) rfl))))) (bg (bY tL)) df) (bg (bY (Fo (nV dM (ck GS r3 rfl mS kS bS .nil cu (aK (pv 0) (aK (pv 4) (aK (pv 6) aM)))) (nV dM (bh (cT K rfl) (pv 3) aR (λ_ _=>rfl)) aR (cx _)) (cx _)) (Fm (nV dM (ck GS r3 rfl mS kS bS .nil cu (aK (pv 0) (aK (pv 5) (aK (pv 6) aM)))) (nV dM (bh (cT K rfl) (pv 3) aR (λ_ _=>rfl)) aR (cx _)) (cx _))))))))))))),?_⟩;obtain⟨hR,ado,nR⟩:=TC pp dw;obtain⟨gU,TH,nR'⟩:=TC pp ew;have eP:=Rg pp dw dn;have KL:=Rg pp ew en;have hl:e.l=d.l:=aj Prod.fst rE.symm;have eU:e.r=d.r:=aj Prod.snd rE.symm;rw[hl,eU]at gU nR';have lw1:(conv d).aN.length≤900000:=by rw[lF,ba];lia
  have lw2:(conv e).aN.length≤900000:=by rw[lF,ba];lia
  refine⟨_,rfl,_,rfl,a,_,0,.ref wa,rfl,rfl,.of ga,bu (j:=0) rfl,wa,_,rfl,.inl ⟨.of jo,λta xk=>?_⟩⟩;have sa:=aL.upd xk (o:=.tup (d.aN.map cG));refine⟨_,rfl,b,_,0,.ref wb,rfl,rfl,.of (sa _ _ gb),bu (j:=0) rfl,wb,_,rfl,.inl ⟨.of (sa _ _ sU),λtb vP=>?_⟩⟩;have sb:=aL.upd vP (o:=.tup (e.aN.map cG));have s1:=sa.trans sb;have KN:bc K (upd (upd H ta (.tup (d.aN.map cG))) tb (.tup (e.aN.map cG))) ta (conv d).aN:=by rw[lF];exact .of (sb _ _ aQ)
  have KO:bc K (upd (upd H ta (.tup (d.aN.map cG))) tb (.tup (e.aN.map cG))) tb (conv e).aN:=by rw[lF];exact .of aQ
  generalize upd (upd H ta (.tup (d.aN.map cG))) tb (.tup (e.aN.map cG))=H1 at s1 KN KO ⊢;have sV:=kg.mono s1;obtain⟨ps1,sW⟩:=sV.tab;have back:∀{H2:Hp},aL (S21.del Pt H1) H2→H2 a=some (.lst [.ref wa,.int (d.l:Int),.int (d.r:Int)])∧H2 wa=some (.lst (d.aN.map cG))∧H2 b=some (.lst [.ref wb,.int (e.l:Int),.int (e.r:Int)])∧H2 wb=some (.lst (e.aN.map cG)):=λs2=>
   ⟨s2 _ _ (As sW (s1 _ _ ga)),s2 _ _ (As sW (s1 _ _ jo)),s2 _ _ (As sW (s1 _ _ gb)),s2 _ _ (As sW (s1 _ _ sU))⟩
  refine⟨p,ta,tb,conv d,conv e,rfl,pp,DO dw dn,DO ew en,(pE d).trans (rE.trans (pE e).symm),lw1,lw2,KN,KO,sV,λsame t H2 s2 ED ht=>?_,λns t v row i H2 s2 ED ht hv gI hi=>?_⟩
  ·obtain⟨rK,EE,qv,EF⟩:=back s2;refine⟨_,rfl,_,rfl,a,_,0,.ref wa,rfl,rfl,.of rK,bu (j:=0) rfl,p,wa,d,rfl,pp,EE,dw,dn,by lia,λm1 H3 x1 X1 s3 EG hx1 Au=>⟨m1,_,2,_,rfl,rfl,.of EG,bu (j:=2) rfl,?_⟩⟩;refine⟨_,rfl,_,rfl,b,_,0,.ref wb,rfl,rfl,.of (s3 _ _ qv),bu (j:=0) rfl,p,wb,e,rfl,pp,s3 _ _ EF,ew,en,by lia,λm2 H4 x2 X2 s4 EH hx2 EI=>⟨m2,_,2,_,rfl,rfl,.of EH,bu (j:=2) rfl,?_⟩⟩;refine⟨_,rfl,_,rfl,_,_,.tuple (s4.bo hx1) (Au.mono s4),.tuple hx2 EI,vY _,vY _,_,rfl,Iu (by rw[← eP,← KL,same]) ?_⟩;refine⟨_,rfl,by show 1≤sizeLine;lia,λu jL=>⟨.tuple [.str (Str.ofString "same")],.tuple [.str (Str.ofString "same")],.tuple ((s3.trans (s4.trans (.upd jL))).bo ht) (.cons (.str _) .nil),.tuple (.of aQ) (.cons (.str _) .nil),Tz,Tz,?_⟩⟩;simp only[AN,if_false,decide_true];exact q _ (pF (pF (wO (aL.sE s1) s2) (s3.trans s4)) (.upd jL)) (ED.mono (s3.trans (s4.trans (.upd jL))))
  ·obtain⟨rK,EE,qv,EF⟩:=back s2;refine⟨_,rfl,_,rfl,a,_,0,.ref wa,rfl,rfl,.of rK,bu (j:=0) rfl,p,wa,d,rfl,pp,EE,dw,dn,by lia,λm1 H3 x1 X1 s3 EG hx1 Au=>⟨m1,_,2,_,rfl,rfl,.of EG,bu (j:=2) rfl,?_⟩⟩;refine⟨_,rfl,_,rfl,b,_,0,.ref wb,rfl,rfl,.of (s3 _ _ qv),bu (j:=0) rfl,p,wb,e,rfl,pp,s3 _ _ EF,ew,en,by lia,λm2 H4 x2 X2 s4 EH hx2 EI=>⟨m2,_,2,_,rfl,rfl,.of EH,bu (j:=2) rfl,?_⟩⟩;have TJ:¬cz p (d.aO p)=cz p (e.aO p):=λz=>ns (by rw[eP,KL,z]);refine⟨_,rfl,_,rfl,_,_,.tuple (s4.bo hx1) (Au.mono s4),.tuple hx2 EI,vY _,vY _,_,rfl,Iq (λz=>TJ (Ro (Dat.tuple.inj z))) ?_⟩;rw[eP,KL]at hi;have rj:(conv d).cU+(conv d).cL=d.l+d.r:=by rw[mh,lE]
   rw[rj]at gI;generalize cz p (d.aO p)=R at *;generalize cz p (e.aO p)=R' at *;have xo:=s3.trans s4;have ph:=xo.bo ht;have rl:=xo.bo hv;have TK:=xo _ _ rK;have adp:=s4.bo hx1;have adq:=Au.mono s4;have sD4:aL (S21.del Pt H) H4:=pF (wO (aL.sE s1) s2) xo;have zK:=ED.mono xo;clear hx1 Au ht hv rK EE qv EF EG EH xo s3 s4 s2 back sW sV KN KO s1 sa sb xk vP ED ns TJ;have jD:nW (.int i) [.int 0,.int 1]=true:=by rcases hi with⟨rfl,_⟩|⟨rfl,_⟩<;>rfl
   refine⟨_,rfl,t,_,true,rfl,ph,NC K,_,rfl,cD ?_⟩;refine⟨_,rfl,t,_,rfl,.inr ph,rfl,_,rfl,oh (λz=>absurd rfl z) (λ_=>?_)⟩;refine⟨_,rfl,t,_,0,_,rfl,rfl,ph,bu (j:=0) rfl,rfl,_,rfl,oh (λz=>absurd rfl z) (λ_=>?_)⟩;refine⟨_,rfl,t,_,1,_,rfl,rfl,ph,bu (j:=1) rfl,v,_,true,rfl,rl,NC K,_,rfl,cD ?_⟩;refine⟨_,rfl,t,_,1,_,rfl,rfl,ph,bu (j:=1) rfl,?_⟩;refine⟨_,rfl,v,rfl,⟨_,rl⟩,Bi (xs:=row.map V.int) (λ_ σ H'=>H'=H4∧∃s7,σ=[some (.int p),some (.ref a),some (.ref b),some (.ref t),some (.ref x1),some (.ref x2),some (.ref v),s7]) ⟨rfl,_,rfl⟩ (λ_ σ H' _ ⟨z,_⟩=>by rw[z];exact rl) ?_ ?_⟩
   ·rintro j x σ H5 hx ⟨rfl,s7,rfl⟩;rw[eE]at hx;cases ej:row[j]? with
    |none=>rw[ej]at hx;cases hx
    |some u=>
     rw[ej]at hx;cases hx;have hb:=gI.2 u (da ej);refine⟨_,rfl,u,true,rfl,BR K,true,rfl,cD ⟨_,rfl,u,false,rfl,NB K,false,rfl,cD ?_⟩⟩;refine⟨_,rfl,0,u,rfl,rfl,_,rfl,?_⟩;rw[aE hb.1];refine dy ⟨_,rfl,u,p,rfl,rfl,_,rfl,?_⟩;rw[aE hb.2];exact cD ⟨rfl,_,rfl⟩
   rintro σ H5 ⟨rfl,s7,rfl⟩;refine⟨_,rfl,v,_,rfl,.inr rl,_,rfl,a,_,1,_,rfl,rfl,.of TK,bu (j:=1) rfl,_,rfl,a,_,2,_,rfl,rfl,.of TK,bu (j:=2) rfl,_,_,rfl,rfl,rfl,_,rfl,oh (λz=>absurd ?_ z) (λ_=>?_)⟩
   ·rw[ba,gI.1];rfl
   refine⟨_,rfl,t,_,2,_,rfl,rfl,ph,bu (j:=2) rfl,i,false,rfl,NB K,false,rfl,cD ?_⟩;refine⟨_,rfl,t,_,2,_,rfl,rfl,ph,bu (j:=2) rfl,by show 2≤sizeLine;lia,λl2 h2=>⟨l2,_,rfl,.inl (.of aQ),rfl,rfl,_,rfl,?_⟩⟩;rw[jD];refine cD ?_;have s6:=aL.upd h2 (o:=.lst [.int 0,.int 1]);have EJ:=s6.bo ph;have EK:=s6.bo rl;have TL:=s6.bo adp;have TM:=adq.mono s6;have KP:=s6.bo hx2;have KQ:=EI.mono s6;have KR:=pF sD4 s6;have sX:=zK.mono s6;generalize upd H5 l2 (.lst [.int 0,.int 1])=H6 at s6 EJ EK TL TM KP KQ KR sX ⊢;refine⟨_,rfl,_,rfl,_,rfl,p,x1,v,X1,R,row,d.l+d.r,rfl,pp,TL,TM,EK,hR,gI,ado,by lia,by lia,λH7 s7=>?_⟩;refine⟨_,rfl,t,_,2,_,rfl,rfl,s7.bo EJ,bu (j:=2) rfl,rfl,rfl,?_⟩;rcases hi with⟨rfl,KS,KU⟩|⟨rfl,KS,KU⟩
   ·rw[@aE _ (Classical.propDecidable _) KS];refine⟨_,rfl,dy ?_⟩;refine⟨_,rfl,_,rfl,_,rfl,p,x2,v,X2,R',row,d.l+d.r,rfl,pp,s7.bo KP,KQ.mono s7,s7.bo EK,gU,gI,TH,by lia,by lia,λH8 s8=>?_⟩;refine⟨_,rfl,t,_,2,_,rfl,rfl,(s7.trans s8).bo EJ,bu (j:=2) rfl,rfl,rfl,?_⟩;rw[@ae _ (Classical.propDecidable _) KU];exact q _ (pF KR (s7.trans s8)) (sX.mono (s7.trans s8))
   ·rw[@ae _ (Classical.propDecidable _) KU];refine⟨_,rfl,dy ?_⟩;refine⟨_,rfl,_,rfl,_,rfl,p,x2,v,X2,R',row,d.l+d.r,rfl,pp,s7.bo KP,KQ.mono s7,s7.bo EK,gU,gI,TH,by lia,by lia,λH8 s8=>?_⟩;refine⟨_,rfl,t,_,2,_,rfl,rfl,(s7.trans s8).bo EJ,bu (j:=2) rfl,rfl,rfl,?_⟩;rw[@aE _ (Classical.propDecidable _) KS];exact q _ (pF KR (s7.trans s8)) (sX.mono (s7.trans s8))
def ki(H:Hp)(vs:List V)(xs:List (List V)):Prop:=vs.length=xs.length∧∀(i:Nat)(v:V)(x:List V),vs[i]?=some v→xs[i]?=some x→∃a,v=.ref a∧H a=some (.lst x)
theorem ki.mono{H':Hp}{vs:List V}{xs:List (List V)}(h:ki H vs xs)(s:aL H H'):ki H' vs xs:=⟨h.1,λi v d e1 e2=>let ⟨a,e,w⟩:=h.2 i v d e1 e2;⟨a,e,s _ _ w⟩⟩
theorem ki.append{vs ws:List V}{es:List (List V)}(h:ki H vs ds)(k:ki H ws es):ki H (vs++ws) (ds++es):=⟨by rw[bK,bK,h.1,k.1],λi v d e1 e2=>by
 by_cases hi:i<vs.length
 ·rw[gy hi]at e1;rw[gy (by rw[← h.1];exact hi)]at e2;exact h.2 i v d e1 e2
 ·rw[iC (by lia)]at e1;rw[iC (by rw[← h.1];lia),← h.1]at e2;exact k.2 _ v d e1 e2⟩
theorem ki.one(h:H b=some (.lst x)):ki H [.ref b] [x]:=⟨rfl,λi v d' e1 e2=>by
 cases i with
 |zero=>cases e1;cases e2;exact⟨b,rfl,h⟩
 |succ i=>cases e1⟩
theorem ki.rep(h:H b=some (.lst x))(n:Nat):ki H (List.replicate n (.ref b)) (List.replicate n x):=⟨by rw[dq,dq],λi v d' e1 e2=>by
 have m1:=mE (da e1);have m2:=mE (da e2);subst m1 m2;exact⟨b,rfl,h⟩⟩
theorem ki.last{L:List V}(h:ki H L ds)(hn:ds≠[]):∃VS b es d,L=VS++[.ref b]∧ds=es++[d]∧ki H VS es∧H b=some (.lst d):=by
 obtain⟨es,d,rfl⟩:∃es d,ds=es++[d]:=⟨_,_,(AU hn).symm⟩;have hL:L≠[]:=λz=>by rw[z]at h;have:=h.1;simp at this
 obtain⟨VS,v,rfl⟩:∃VS v,L=VS++[v]:=⟨_,_,(AU hL).symm⟩;have hl:VS.length=es.length:=by have:=h.1;simp at this;exact this
 obtain⟨b,rfl,hb⟩:=h.2 VS.length v d (LO) (by rw[hl];exact LO);refine⟨VS,b,es,d,rfl,rfl,⟨hl,λi v d' e1 e2=>?_⟩,hb⟩;have h1:i<VS.length:=(dz.mp e1).1;exact h.2 i v d' (by rw[gy h1];exact e1) (by rw[gy (by lia)];exact e2)
noncomputable def mw(xs:List (List V)):List V:=xs.flatMap λx=>V.str (Str.ofString "beside")::x
theorem EL{B:Nat}:∀(es:List (List V)),(∀e∈es,e.length≤B)→(mw es).length≤es.length*(B+1)
 | [],_=>jq _
 |e::es,h=>by
  have h1:=h e (.head _);have h2:=EL es λx hx=>h x (.tail _ hx);show((V.str (Str.ofString "beside")::e)++mw es).length≤(es.length+1)*(B+1);rw[bK,eO,Nat.add_mul];lia
theorem ads(es:List (List V))(e:List V):mw (es++[e])=mw es++([V.str (Str.ofString "beside")]++e):=by
 unfold mw;rw[List.flatMap_append];show _++((V.str (Str.ofString "beside")::e)++[])=_;rw[iB];rfl
noncomputable def jO:List Drw→Drw
 | []=>.box "empty" 0 0 []
 | [d]=>d
 |d::e::ds=>.cK d (jO (e::ds))
theorem TN:∀(es:List Drw)(d:Drw),(jO (es++[d])).aN=mw (es.map Drw.aN)++d.aN
 | [],d=>rfl
 | [e],d=>by
  show V.str "beside"::(e.aN++d.aN)=((V.str (Str.ofString "beside")::e.aN)++[])++d.aN;rw[iB];rfl
 |e::f::es,d=>by
  show V.str "beside"::(e.aN++(jO ((f::es)++[d])).aN)=_;rw[TN (f::es) d];show _=(V.str (Str.ofString "beside")::e.aN)++mw ((f::es).map Drw.aN)++d.aN;rw[i9,tu]
def adt(ds:List Drw):Prop:=∀d∈ds,d.bz=(1,1)
theorem TQ:∀ds:List Drw,adt ds→(jO ds).bz=(ds.length,ds.length)
 | [],_=>rfl
 | [d],h=>h d (.head _)
 |d::e::ds,h=>by
  show(d.bz.1+(jO (e::ds)).bz.1,d.bz.2+(jO (e::ds)).bz.2)=_;rw[TQ (e::ds) λx hx=>h x (.tail _ hx),h d (.head _),eO (a:=d)];simp only[Nat.add_comm 1]
theorem TR{p:Int}:∀ds:List Drw,(∀d∈ds,d.eX p)→(jO ds).eX p
 | [],_=>.inl (by decide)
 | [_],h=>h _ (.head _)
 |d::e::ds,h=>⟨h d (.head _),TR (e::ds) λx hx=>h x (.tail _ hx)⟩
theorem KW{x:V}{a b:List V}(h:nW (.str (Str.ofString "late")) a=true):nW (.str (Str.ofString "late")) (x::(a++b))=true:=by
 unfold nW at h ⊢;rw[List.any_cons,List.any_append,h,Bool.true_or,Bool.or_true]
theorem TU{x:V}{a b:List V}(h:nW (.str (Str.ofString "late")) b=true):nW (.str (Str.ofString "late")) (x::(a++b))=true:=by
 unfold nW at h ⊢;rw[List.any_cons,List.any_append,h,Bool.or_true,Bool.or_true]
theorem TV:∀ds:List Drw,(∃d∈ds,mv d)→mv (jO ds)
 | [],h=>by obtain⟨_,h,_⟩:=h;cases h
 | [d],h=>by
  obtain⟨x,hx,l⟩:=h;rw[cR.mp hx]at l;exact l
 |d::e::ds,h=>by
  obtain⟨x,hx,l⟩:=h;rcases(dP.mp hx)with z|z
  ·subst z;exact KW l
  ·exact TU (TV (e::ds) ⟨x,z,l⟩)
def KY(_K:Frag):Sp:=λvs H Q _=>∃(a b:Addr)(VS:List V)(es:List (List V))(d:List V),vs=[.ref a]∧H a=some (.lst (VS++[.ref b]))∧ki H VS es∧H b=some (.lst d)∧es.length≤50∧(∀e∈es,e.length≤50)∧d.length≤50∧∀c H',aL H H'→H' c=some (.lst (mw es++d))→Q (.ref c) H'
theorem adu(F:bZ K "_law_beside_all" "_law_beside_all" CI f fd):bf P w K mg base bj 1 f fd ["parts"] (KY K):=by
 refine F.ok sR (λvs H Q E h=>?_) (λbt A outer s H vs Q E hr h=>?_)
 ·obtain⟨a,b,VS,es,d,rfl,_⟩:=h;rfl
 ·obtain⟨a,b,VS,es,d,rfl,ga,hV,hb,le,lw,lw',q⟩:=h;have z:(10000:Nat)≤sizeLine:=by decide
  refine⟨_,aX (bH (i:=1) sR.nd rfl (.inl rfl) (bE aM)) (aX (jw jR rfl (ir K rfl (dB (fH K rfl) (pv 0) dZ (cZ (rT rV aR)))) (cj (i:=2) sR.nd rfl (.inl rfl)) (bg (bH (i:=1) sR.nd rfl (.inl rfl) (aV dh (aV dh (pv 1) (bE (aK cq aM))) (pv 2))))) (bg (bY (aV dh (pv 1) (bh (cA K rfl) (pv 0) (rT rV aR) (λ_ _=>rfl)))))),?_⟩;refine⟨by decide,λl0 h0=>?_⟩;have s0:aL H (upd H l0 (.lst [])):=.upd h0;have g0:(upd H l0 (.lst [])) l0=some (.lst (mw [])):=aQ;generalize upd H l0 (.lst [])=H0 at s0 g0 ⊢;refine⟨_,rfl,_,rfl,_,rfl,a,_,rfl,.of (s0 _ _ ga),λl1 h1=>?_⟩;rw[show(-1:Int)=-1 from rfl,SN]
  have s1:aL H (upd H0 l1 (.lst VS)):=s0.trans (.upd h1);have g1:(upd H0 l1 (.lst VS)) l1=some (.lst VS):=aQ;have Ak:(upd H0 l1 (.lst VS)) l0=some (.lst (mw (es.take 0))):=aL.upd h1 _ _ g0;generalize upd H0 l1 (.lst VS)=H1 at s1 g1 Ak ⊢;refine⟨l1,rfl,⟨_,.of g1⟩,vm (xs:=VS) (λi σ H'=>aL H1 H'∧∃lp s2,σ=[some (.ref a),some (.ref lp),s2]∧H' lp=some (.lst (mw (es.take i)))) ⟨.refl _,l0,none,rfl,Ak⟩ (λi σ H' _ ⟨sm,_⟩=>.of (sm _ _ g1)) ?_ ?_⟩
  ·rintro i x σ H2 hx ⟨sm,lp,s2,rfl,g⟩;have hi:i<es.length:=by
    have:=(dz.mp hx).1
    have:=hV.1
    lia
   obtain⟨e,he⟩:∃e,es[i]?=some e:=⟨_,cg hi⟩;obtain⟨c,rfl,hc⟩:=hV.2 i _ e hx he;have hw:=EL (B:=50) (es.take i) λy hy=>lw _ (nQ hy);have zM:=lw e (da he);have hl:(es.take i).length≤50:=by rw[cH];lia
   dsimp only[bN];refine⟨_,rfl,by show 1≤sizeLine;lia,λt ht=>⟨_,_,_,_,rfl,rfl,aL.upd ht _ _ g,aQ,by show _+1≤sizeLine;lia,λt2 h2=>?_⟩⟩;refine⟨_,rfl,_,_,_,_,rfl,rfl,aQ,(s1.trans (sm.trans ((aL.upd ht).trans (.upd h2)))) _ _ hc,by rw[bK];show _+1+_≤sizeLine;lia,λt3 h3=>?_⟩;refine⟨sm.trans ((aL.upd ht).trans ((aL.upd h2).trans (.upd h3))),t3,_,rfl,?_⟩;rw[aQ,gq,he];show _=some (HO.lst (mw (es.take i++[e])));rw[ads,i9]
  rintro σ H2 ⟨sm,lp,s2,rfl,g⟩;rw[hV.1,km]at g;have hw:=EL (B:=50) es lw;have sc:=s1.trans sm;refine⟨_,rfl,_,rfl,1,rfl,a,_,-1,.ref b,rfl,rfl,.of (sc _ _ ga),ME _ _,_,b,_,_,rfl,rfl,g,sc _ _ hb,by lia,λt ht=>?_⟩;exact q t _ (sc.trans (.upd ht)) aQ
noncomputable def jP(i:Nat):Drw:=if i=0 then .box (Str.ofString "late") 1 1 []else .back (.box (Str.ofString "late") 1 1 [])
theorem KZ(i:Nat):(jP i).bz=(1,1)∧(jP i).eX p∧mv (jP i)∧(jP i).aN.length≤2:=by
 unfold jP;split
 ·exact⟨rfl,.inr ⟨rfl,rfl,rfl⟩,by unfold mv;decide +kernel,by decide⟩
 ·exact⟨rfl,.inr ⟨rfl,rfl,rfl⟩,by unfold mv;decide +kernel,by decide⟩
noncomputable def EN:Drw:=.box (Str.ofString "id") 1 1 [[1,1]]
theorem adv:EN.eX p:=.inl (by decide)
noncomputable def gX(k i m:Nat):List Drw:=List.replicate k EN++[jP i]++List.replicate m EN
theorem TX(k i m:Nat):(jO (gX k i m)).bz=(k+1+m,k+1+m)∧(jO (gX k i m)).eX p∧mv (jO (gX k i m)):=by
 obtain⟨s,w,l,_⟩:=KZ (p:=p) i;have mem:∀d∈gX k i m,d=EN∨d=jP i:=λd hd=>by
  unfold gX at hd;rw[c9,c9]at hd;rcases hd with(h|h)|h
  ·exact .inl (mE h)
  ·exact .inr (cR.mp h)
  ·exact .inl (mE h)
 have hl:(gX k i m).length=k+1+m:=by
  unfold gX;rw[bK,bK,dq,dq];rfl
 refine⟨?_,TR _ λd hd=>?_,TV _ ⟨jP i,?_,l⟩⟩
 ·rw[TQ _ λd hd=>?_,hl];rcases mem d hd with rfl|rfl
  ·rfl
  ·exact s
 ·rcases mem d hd with rfl|rfl
  ·exact adv
  ·exact w
 ·unfold gX;exact lG _ (gY _ (cR.mpr rfl))
def Av(te:TE)(σ:St)(H:Hp)(ds:List (List V)):Prop:=∀H',aL H H'→∀R:VK,(∀a VS eV,aL H' eV→eV a=some (.lst VS)→ki eV VS ds→R (.ref a) eV)→te σ H' R
section
variable{σ:St}{H:Hp}
theorem TY{ta tb:TE}{es:List (List V)}(h1:Av ta σ H ds)(h2:Av tb σ H es)(hl:ds.length+es.length≤100):Av (bp eh ta tb) σ H (ds++es):=λH' s R q=>by
 have z:(100:Nat)≤sizeLine:=by decide
 refine h1 H' s _ λa VS H1 s1 ga hV=>h2 H1 (s.trans s1) _ λb WS H2 s2 gb hW=>?_;refine⟨a,b,_,_,rfl,rfl,s2 _ _ ga,gb,by rw[hV.1,hW.1];lia,λc hc=>?_⟩;exact q c _ _ (s1.trans (s2.trans (.upd hc))) aQ (((hV.mono s2).append hW).mono (.upd hc))
theorem adw{i:Nat}(h:σ[i]?=some (some (.ref b)))(hb:H b=some (.lst x)):Av (cS (aY (aW i) bV)) σ H [x]:=λH' s R q=>
 ⟨_,h,by show 1≤sizeLine;decide,λa ha=>q a _ _ (.upd ha) aQ (.one ((s.trans (.upd ha)) _ _ hb))⟩
theorem TZ{te:TE}{k:Nat}(h:∀H',aL H H'→∀R:VK,R (.int (k:Int)) H'→te σ H' R)(hk:k≤100):Av (bp vt (cS (aY (cS (aY (tC (.str (Str.ofString "id"))) bV)) bV)) te) σ H (List.replicate k [.str (Str.ofString "id")]):=λH' s R q=>by
 have z:(100:Nat)≤sizeLine:=by decide
 refine⟨by show 1≤sizeLine;decide,λb hb=>⟨by show 1≤sizeLine;decide,λa ha=>h _ (s.trans ((aL.upd hb).trans (.upd ha))) _ ⟨a,(k:Int),[.ref b],rfl,rfl,aQ,by lia,by lia,by show 1*(k:Int).toNat≤sizeLine;lia,λc hc=>?_⟩⟩⟩;refine q c _ _ ((aL.upd hb).trans ((aL.upd ha).trans (.upd hc))) aQ ?_;rw[show(k:Int).toNat=k by lia,zE];exact .rep (((aL.upd ha).trans (.upd hc)) _ _ aQ) k
end
def T4(_K:Frag):Sp:=λvs H Q _=>∃(p c:Int)(a:Addr)(d:D1.Dr),vs=[.ref a,.int c]∧WT H a d∧d.wf p∧d.aN.length≤200∧d.l≤20∧d.r≤20∧
 ∀f g H',aL H H'→nN H' f g→g.eX p→mv g→g.aN.length≤500→Q (.ref f) H'
theorem rL:c8 ["one","cell","words","left","right","late","many","at","row"] ["one","cell"] (bq Ii):=dv rfl rfl rfl (by decide +kernel) rfl
theorem adx(k i m:Nat):∃es x,(gX k i m).map Drw.aN=es++[x]∧(jO (gX k i m)).aN=mw es++x∧es.length=k+m∧(∀e∈es,e.length≤50)∧x.length≤50:=by
 have cM:gX k i m≠[]:=by unfold gX;simp
 obtain⟨es,d,e⟩:∃es d,gX k i m=es++[d]:=⟨_,_,(AU cM).symm⟩;have hl:(gX k i m).length=k+1+m:=by
  unfold gX;rw[bK,bK,dq,dq];rfl
 have mem:∀d∈gX k i m,d.aN.length≤50:=λd hd=>by
  unfold gX at hd;rw[c9,c9]at hd;rcases hd with(h|h)|h
  ·rw[mE h];decide
  ·rw[cR.mp h];have:=(KZ (p:=2) i).2.2.2;lia
  ·rw[mE h];decide
 rw[e]at mem hl ⊢;rw[bK]at hl;refine⟨es.map Drw.aN,d.aN,dE,TN es d,by rw[ba];have:[d].length=1:=rfl;lia,λx hx=>?_,mem d (gY _ dN)⟩;obtain⟨y,hy,rfl⟩:=cY.mp hx;exact mem y (lG _ hy)
theorem ady{fB:Addr}{ma:FuncData}(F:bZ K "_law_waiting" "_law_waiting" Ii f fd)(T:Txt mg)
  (GB:bf P w K mg base bj 1 fB ma ["parts"] (KY K)) (kB:Kp K fB) (bB:Binds K ma ["parts"] []) (mB:Mg mg "_law_beside_all" fB) :
  bf P w K mg base bj 2 f fd ["one","cell"] (T4 K):=by
 refine F.ok rL (λvs H Q E h=>?_) (λbt A outer s H vs Q E hr h=>?_)
 ·obtain⟨p,c,a,d,rfl,_⟩:=h;rfl
 ·obtain⟨p,c,a,d,rfl,⟨wa,ga,jo⟩,dw,dl,ll,lr,q⟩:=h;have z:(10000:Nat)≤sizeLine:=by decide
  refine⟨_,aX (lM (pv 0) (o7 rfl (dJ (cj (i:=2) rL.nd rfl (.inl rfl)) (dJ (cj (i:=3) rL.nd rfl (.inl rfl)) (dJ (cj (i:=4) rL.nd rfl (.inl rfl)) jT))))) (aX (bH (i:=5) rL.nd rfl (.inl rfl) (bh (cA K rfl) (bE (aK (bE (aK cq aM)) (aK (bE (aK cq (aK cq aM))) aM))) (aV ft (pv 1) aR) (λ_ _=>rfl))) (aX (bH (i:=6) rL.nd rfl (.inl rfl) (dO (FP rfl) rfl T.max Im (aK (pv 3) (aK (pv 4) aM)))) (aX (cN (cC tN (pv 4) aR (cx _)) (bg (bH (i:=6) rL.nd rfl (.inl rfl) (pv 4))) df) (aX (cN (cC dM (pv 6) aR (cx _)) (bg (bY (bE (aK (aV dh (aV dh (bE (aK cq aM)) (pv 5)) (pv 2)) (aK aR (aK aR aM)))))) df) (aX (bH (i:=7) rL.nd rfl (.inl rfl) (aV ft (aV iU (pv 1) aR) (pv 6))) (aX (bH (i:=8) rL.nd rfl (.inl rfl) (ck GB hr rfl mB kB bB .nil cu (aK (aV dh (aV dh (aV ky (bE (aK (bE (aK cq aM)) aM)) (pv 7)) (bE (aK (pv 5) aM))) (aV ky (bE (aK (bE (aK cq aM)) aM)) (aV jU (aV jU (pv 6) (pv 7)) aR))) aM))) (aX (cN (cC tN (pv 4) aR (cx _)) (bg (bY (bE (aK (aV dh (aV dh (bE (aK cq aM)) (pv 2)) (pv 8)) (aK (pv 3) (aK (pv 4) aM)))))) df) (bg (bY (bE (aK (aV dh (aV dh (bE (aK cq aM)) (pv 8)) (pv 2)) (aK (pv 3) (aK (pv 4) aM))))))))))))),?_⟩;refine⟨_,rfl,qp (.of ga) ?_⟩;refine⟨by show 1≤sizeLine;lia,λb1 h1=>⟨by show 2≤sizeLine;lia,λb2 h2=>⟨by show 2≤sizeLine;lia,λb3 h3=>?_⟩⟩⟩;have s1:=aL.upd h1 (o:=.lst [.str (Str.ofString "late")]);have s2:=aL.upd h2 (o:=.lst [.str (Str.ofString "back"),.str (Str.ofString "late")]);have s3:=aL.upd h3 (o:=.lst [.ref b1,.ref b2]);have g1:=s3 _ _ (s2 _ _ (aQ (H:=H) (a:=b1) (o:=.lst [.str (Str.ofString "late")])));have g2:=s3 _ _ (aQ (H:=upd H b1 (.lst [.str (Str.ofString "late")])) (a:=b2) (o:=.lst [.str (Str.ofString "back"),.str (Str.ofString "late")]));have sA:=s1.trans (s2.trans s3);have g3:(upd (upd (upd H b1 (.lst [.str (Str.ofString "late")])) b2 (.lst [.str (Str.ofString "back"),.str (Str.ofString "late")])) b3 (.lst [.ref b1,.ref b2])) b3=some (.lst [.ref b1,.ref b2]):=aQ;generalize upd (upd (upd H b1 (.lst [.str (Str.ofString "late")])) b2 (.lst [.str (Str.ofString "back"),.str (Str.ofString "late")])) b3 (.lst [.ref b1,.ref b2])=H1 at sA g1 g2 g3 ⊢;clear s1 s2 s3 h1 h2 h3;have m0:=jr c (show(2:Int)≠0 by decide);have m1:=js c (show(0:Int)<2 by decide);obtain⟨i,hi⟩:∃i:Nat,c%2=(i:Int):=⟨(c%2).toNat,by lia⟩;obtain⟨bl,ebl,T5⟩:∃bl,([V.ref b1,V.ref b2])[i]?=some (.ref bl)∧H1 bl=some (.lst (jP i).aN):=by
   rcases(show i=0∨i=1 by lia)with rfl|rfl
   ·exact⟨b1,rfl,g1⟩
   ·exact⟨b2,rfl,g2⟩
  refine⟨_,rfl,c,2,rfl,rfl,(by decide:(0:Int)<2),b3,_,c%2,.ref bl,rfl,rfl,.of g3,by rw[hi];exact bu ebl,?_⟩;have K0:=sA _ _ jo;obtain⟨Ls,Lw,Ll,Ln⟩:=KZ (p:=p) i;have cw:(conv d).aN=d.aN.map cG:=lF d;refine⟨_,rfl,_,rfl,(d.l:Int),(d.r:Int),rfl,?_⟩;dsimp only;have T6:∀k m,k+1+m≤20→∃es x,es++[x]=List.replicate k [V.str (Str.ofString "id")]++[(jP i).aN]++List.replicate m [V.str (Str.ofString "id")]∧(jO (gX k i m)).aN=mw es++x∧es.length=k+m∧(∀e∈es,e.length≤50)∧x.length≤50:=λk m _=>by
   obtain⟨es,x,e1,e2,e3,e4,e5⟩:=adx k i m;refine⟨es,x,?_,e2,e3,e4,e5⟩;rw[← e1];unfold gX;rw[dE,dE,xv,xv];rfl
  have T7:∀(k m:Nat)(σ:St)(te:TE)(E:XK)(R:VK),k+1+m≤20→σ[7]?=some (some (.int (k:Int)))→σ[5]?=some (some (.ref bl))→(∀H',aL H1 H'→∀R:VK,R (.int (m:Int)) H'→te σ H' R)→
    (∀t H2,aL H1 H2→H2 t=some (.lst (jO (gX k i m)).aN)→R (.ref t) H2)→
    iV (KY K) [] E (aY (bp eh (bp eh (bp vt (cS (aY (cS (aY (tC (.str (Str.ofString "id"))) bV)) bV)) (aW 7)) (cS (aY (aW 5) bV))) (bp vt (cS (aY (cS (aY (tC (.str (Str.ofString "id"))) bV)) bV)) te)) bV) σ H1 R:=by
   intro k m σ te E R K1 e7 e5 hte r;obtain⟨es,x,e1,e2,e3,e4,e6⟩:=T6 k m K1;refine TY (TY (TZ (λH' _ R q=>⟨_,e7,q⟩) (by lia)) (adw e5 T5) (by rw[dq];show k+1≤100;lia)) (TZ hte (by lia)) (by rw[bK,dq,dq];show k+1+m≤100;lia) H1 (.refl _) _ λla VS H2 s2 uv hV=>?_;rw[← e1]at hV;obtain⟨VS',b',es',x',rfl,ee,hV',gN⟩:=hV.last (by simp);obtain⟨rfl,h⟩:=List.append_inj' ee rfl;obtain rfl:=(List.cons.inj h).1;exact⟨la,b',VS',es,x,rfl,uv,hV',gN,by lia,e4,e6,λt H3 s3 ht=>r t H3 (s2.trans s3) (by rw[e2];exact ht)⟩
  have T8:∀k m,k+1+m≤20→(jO (gX k i m)).aN.length≤200:=λk m K1=>by
   obtain⟨es,x,e1,e2,e3,e4,e5⟩:=T6 k m K1;have c1:∀e∈es++[x],e.length≤2:=λe he=>by
    rw[e1,c9,c9]at he;rcases he with(h|h)|h
    ·rw[mE h];decide
    ·rw[cR.mp h];exact Ln
    ·rw[mE h];decide
   have c2:=EL (B:=2) es λe he=>c1 e (lG _ he);have c3:=c1 x (gY _ dN);rw[e2,bK];lia
  by_cases h0:0<d.r
  ·refine⟨_,rfl,_,_,rfl,rfl,_,rfl,?_⟩;rw[aE (show(0:Int)<(d.r:Int) by lia)];refine dy ⟨_,rfl,?_⟩;refine⟨_,rfl,rfl,_,rfl,?_⟩;rw[ae (show ¬V.int (d.r:Int)=V.int 0 from λz=>by injection z;lia)]
   refine cD ⟨_,rfl,c,2,rfl,rfl,⟨by decide,by decide⟩,_,rfl,c/2,(d.r:Int),rfl,rfl,(show(0:Int)<(d.r:Int) by lia),?_⟩;have n0:=jr (c/2) (show(d.r:Int)≠0 by lia);have n1:=js (c/2) (show(0:Int)<(d.r:Int) by lia);obtain⟨k,hk⟩:∃k:Nat,c/2%(d.r:Int)=(k:Int):=⟨(c/2%(d.r:Int)).toNat,by lia⟩;rw[show(λi j:Int=>V.int (i%j)) (c/2) (d.r:Int)=V.int (k:Int) from by show V.int _=_;rw[hk]]
   dsimp only[bN];show cI (dj (iV _ _ _ _) (bN 8)) _ _ _ _;refine i7 ?_;refine T7 k (d.r-k-1) _ _ _ _ (by lia) rfl rfl (λH' _ R q=>⟨_,rfl,_,rfl,_,_,rfl,rfl,_,_,rfl,rfl,by show R (V.int ((d.r:Int)-(k:Int)-1)) H';rw[show((d.r:Int)-(k:Int)-1)=((d.r-k-1:Nat):Int) by lia];exact q⟩) λt H2 s2 ht=>?_;obtain⟨R1,R2,R3⟩:=TX (p:=p) k i (d.r-k-1);have wl:=T8 k (d.r-k-1) (by lia);rw[show k+1+(d.r-k-1)=d.r by lia]at R1;generalize jO (gX k i (d.r-k-1))=u at ht R1 R2 R3 wl;refine⟨_,rfl,_,_,rfl,rfl,_,rfl,?_⟩;rw[aE (show(0:Int)<(d.r:Int) by lia)];refine dy ⟨by show 1≤sizeLine;lia,λx1 h1=>?_⟩;refine⟨_,rfl,x1,wa,_,_,rfl,rfl,aQ,(s2.trans (.upd h1)) _ _ K0,by rw[ba];show 1+_≤sizeLine;lia,λx2 h2=>?_⟩;refine⟨_,rfl,x2,t,_,_,rfl,rfl,aQ,((aL.upd h1).trans (.upd h2)) _ _ ht,by rw[bK,ba];show 1+_+_≤sizeLine;lia,λx3 h3=>?_⟩;refine⟨_,rfl,_,rfl,by show 3≤sizeLine;lia,λy hy=>?_⟩;have ul:u.cU=d.r:=by show u.bz.1=_;rw[R1]
   have ur:u.cL=d.r:=by show u.bz.2=_;rw[R1]
   refine q y (.aZ (conv d) u) _ (sA.trans (s2.trans ((aL.upd h1).trans ((aL.upd h2).trans ((aL.upd h3).trans (.upd hy)))))) ⟨x3,?_,?_⟩ ⟨Drw.md (mi dw),R2,by rw[lE,ul]⟩ (TU R3) ?_
   ·show _=some (HO.lst [.ref x3,.int (((conv d).cU:Nat):Int),.int ((u.cL:Nat):Int)]);rw[aQ,mh,ur]
   ·show _=some (HO.lst (V.str "then"::((conv d).aN++u.aN)));rw[cw];exact aL.upd hy _ _ aQ
   ·show(V.str "then"::((conv d).aN++u.aN)).length≤500;rw[eO,bK,cw,ba];lia
  ·have er:d.r=0:=by lia
   refine⟨_,rfl,_,_,rfl,rfl,_,rfl,?_⟩;rw[ae (show ¬(0:Int)<(d.r:Int) by lia)];refine cD ?_;rw[show(if(d.r:Int)>(d.l:Int)then(d.r:Int)else(d.l:Int))=(d.l:Int) by rw[ag (by lia)]]
   refine⟨_,rfl,rfl,_,rfl,?_⟩;by_cases CQ:d.l=0
   ·rw[aE (show V.int (d.l:Int)=V.int 0 by rw[CQ];rfl)];refine dy ⟨by show 1≤sizeLine;lia,λx1 h1=>?_⟩;refine⟨_,rfl,x1,bl,_,_,rfl,rfl,aQ,aL.upd h1 _ _ T5,by show 1+_≤sizeLine;lia,λx2 h2=>?_⟩;refine⟨_,rfl,x2,wa,_,_,rfl,rfl,aQ,((aL.upd h1).trans (.upd h2)) _ _ K0,by rw[bK,ba];show 1+_+_≤sizeLine;lia,λx3 h3=>?_⟩;refine⟨by show 3≤sizeLine;lia,λy hy=>?_⟩;have el:(jP i).cU=1:=aj Prod.fst Ls;have er':(jP i).cL=1:=aj Prod.snd Ls;refine q y (.cK (jP i) (conv d)) _ (sA.trans ((aL.upd h1).trans ((aL.upd h2).trans ((aL.upd h3).trans (.upd hy))))) ⟨x3,?_,?_⟩ ⟨Lw,Drw.md (mi dw)⟩ (KW Ll) ?_
    ·show _=some (HO.lst [.ref x3,.int (((jP i).cU+(conv d).cU:Nat):Int),.int (((jP i).cL+(conv d).cL:Nat):Int)]);rw[aQ,mh,lE,el,er',CQ,er];rfl
    ·show _=some (HO.lst (V.str "beside"::((jP i).aN++(conv d).aN)));rw[cw];exact aL.upd hy _ _ aQ
    ·show(V.str "beside"::((jP i).aN++(conv d).aN)).length≤500;rw[eO,bK,cw,ba];lia
   ·rw[ae (show ¬V.int (d.l:Int)=V.int 0 from λz=>by injection z;lia)]
    refine cD ⟨_,rfl,c,2,rfl,rfl,⟨by decide,by decide⟩,_,rfl,c/2,(d.l:Int),rfl,rfl,(show(0:Int)<(d.l:Int) by lia),?_⟩;have n0:=jr (c/2) (show(d.l:Int)≠0 by lia);have n1:=js (c/2) (show(0:Int)<(d.l:Int) by lia);obtain⟨k,hk⟩:∃k:Nat,c/2%(d.l:Int)=(k:Int):=⟨(c/2%(d.l:Int)).toNat,by lia⟩;rw[show(λi j:Int=>V.int (i%j)) (c/2) (d.l:Int)=V.int (k:Int) from by show V.int _=_;rw[hk]]
    dsimp only[bN];show cI (dj (iV _ _ _ _) (bN 8)) _ _ _ _;refine i7 ?_;refine T7 k (d.l-k-1) _ _ _ _ (by lia) rfl rfl (λH' _ R q=>⟨_,rfl,_,rfl,_,_,rfl,rfl,_,_,rfl,rfl,by show R (V.int ((d.l:Int)-(k:Int)-1)) H';rw[show((d.l:Int)-(k:Int)-1)=((d.l-k-1:Nat):Int) by lia];exact q⟩) λt H2 s2 ht=>?_;obtain⟨R1,R2,R3⟩:=TX (p:=p) k i (d.l-k-1);have wl:=T8 k (d.l-k-1) (by lia);rw[show k+1+(d.l-k-1)=d.l by lia]at R1;generalize jO (gX k i (d.l-k-1))=u at ht R1 R2 R3 wl;refine⟨_,rfl,_,_,rfl,rfl,_,rfl,?_⟩;rw[ae (show ¬(0:Int)<(d.r:Int) by lia)];refine cD ⟨by show 1≤sizeLine;lia,λx1 h1=>?_⟩;refine⟨_,rfl,x1,t,_,_,rfl,rfl,aQ,aL.upd h1 _ _ ht,by show 1+_≤sizeLine;lia,λx2 h2=>?_⟩;refine⟨_,rfl,x2,wa,_,_,rfl,rfl,aQ,(s2.trans ((aL.upd h1).trans (.upd h2))) _ _ K0,by rw[bK,ba];show 1+_+_≤sizeLine;lia,λx3 h3=>?_⟩;refine⟨_,rfl,_,rfl,by show 3≤sizeLine;lia,λy hy=>?_⟩;have ul:u.cU=d.l:=by show u.bz.1=_;rw[R1]
    have ur:u.cL=d.l:=by show u.bz.2=_;rw[R1]
    refine q y (.aZ u (conv d)) _ (sA.trans (s2.trans ((aL.upd h1).trans ((aL.upd h2).trans ((aL.upd h3).trans (.upd hy)))))) ⟨x3,?_,?_⟩ ⟨R2,Drw.md (mi dw),by rw[mh,ur]⟩ (KW R3) ?_
    ·show _=some (HO.lst [.ref x3,.int ((u.cU:Nat):Int),.int (((conv d).cL:Nat):Int)]);rw[aQ,lE,ul]
    ·show _=some (HO.lst (V.str "then"::(u.aN++(conv d).aN)));rw[cw];exact aL.upd hy _ _ aQ
    ·show(V.str "then"::(u.aN++(conv d).aN)).length≤500;rw[eO,bK,cw,ba];lia
def T9(_K:Frag):Sp:=λvs H Q _=>∃(p c:Int)(a b:Addr)(d e:D1.Dr),vs=[.ref a,.ref b,.int c]∧WT H a d∧WT H b e∧d.wf p∧e.wf p∧d.cP 64∧d.aN.length≤200∧e.aN.length≤200∧d.l≤20∧d.r≤20∧e.l≤20∧e.r≤20∧
 ∀t u v d' e' H',aL H H'→H' t=some (.lst [.ref u,.ref v])→nN H' u d'→nN H' v e'→d'.eX p→e'.eX p→(mv d'∨(Ok p d'∧mv e'))→d'.aN.length≤500→e'.aN.length≤500→Q (.ref t) H'
theorem Aw:c8 ["one","other","cell","way"] ["one","other","cell"] (bq Ij):=dv rfl rfl rfl (by decide +kernel) rfl
theorem adz(F:bZ K "_law_pair" "_law_pair" Ij f fd)
  (GW:bf P w K mg base bj 2 fW ow ["one","cell"] (T4 K)) (kW:Kp K fW) (bW:Binds K ow ["one","cell"] []) (mW:Mg mg "_law_waiting" fW) :
  bf P w K mg base bj 3 f fd ["one","other","cell"] (T9 K):=by
 refine F.ok Aw (λvs H Q E h=>?_) (λbt A outer s H vs Q E hr h=>?_)
 ·obtain⟨p,c,a,b,d,e,rfl,_⟩:=h;rfl
 ·obtain⟨p,c,a,b,d,e,rfl,ha,hb,dw,ew,dn,ld,le,l1,l2,l3,l4,q⟩:=h;have z2:2≤sizeLine:=by decide
  refine⟨_,aX (bH (i:=3) Aw.nd rfl (.inl rfl) (aV ft (pv 2) aR)) (aX (cN (cC dM (pv 3) aR (cx _)) (aX (bH (i:=0) Aw.nd rfl (.inl rfl) (ck GW hr rfl mW kW bW .nil cu (aK (pv 0) (aK (aV iU (pv 2) aR) aM)))) (bg (bY (bE (aK (pv 0) (aK (pv 0) aM)))))) df) (aX (cN (cC oZ (pv 3) aR (cx _)) (bg (bH (i:=0) Aw.nd rfl (.inl rfl) (ck GW hr rfl mW kW bW .nil cu (aK (pv 0) (aK (aV iU (pv 2) aR) aM))))) df) (aX (cN (cC oZ (pv 3) aR (cx _)) (bg (bH (i:=1) Aw.nd rfl (.inl rfl) (ck GW hr rfl mW kW bW .nil cu (aK (pv 1) (aK (aV iU (pv 2) aR) aM))))) df) (bg (bY (bE (aK (pv 0) (aK (pv 1) aM)))))))),?_⟩;have oc:Ok p (conv d):=DO dw dn;have lc:(conv d).aN.length≤500:=by rw[lF,ba];lia
  have le':(conv e).aN.length≤500:=by rw[lF,ba];lia
  refine⟨_,rfl,c,4,rfl,rfl,(by decide:(0:Int)<4),?_⟩;have m0:=jr c (show(4:Int)≠0 by decide);have m1:=js c (show(0:Int)<4 by decide);have hw:c%4=0∨c%4=1∨c%4=2∨c%4=3:=by lia
  have first:∀{k:Int},c%4=k→(λi j:Int=>V.int (i%j)) c 4=V.int k:=λh=>by show V.int _=_;rw[h]
  rcases hw with h|h|h|h
  ·rw[first h];refine⟨_,rfl,rfl,_,rfl,cD ?_⟩;refine⟨_,rfl,rfl,_,rfl,dy ?_⟩;refine⟨_,rfl,_,rfl,c,4,rfl,rfl,⟨by decide,by decide⟩,p,c/4,a,d,rfl,ha,dw,ld,l1,l2,λu d' H1 s1 hu w1 t1 n1=>?_⟩;refine⟨_,rfl,rfl,_,rfl,cD ?_⟩;refine⟨_,rfl,_,rfl,z2,λt ht=>?_⟩;exact q t u b d' (conv e) _ (s1.trans (.upd ht)) aQ (hu.mono (.upd ht)) ((Ez hb).mono (s1.trans (.upd ht))) w1 (Drw.md (mi ew)) (.inl t1) n1 le'
  ·rw[first h];refine⟨_,rfl,rfl,_,rfl,cD ?_⟩;refine⟨_,rfl,rfl,_,rfl,cD ?_⟩;refine⟨_,rfl,rfl,_,rfl,dy ?_⟩;refine⟨_,rfl,_,rfl,c,5,rfl,rfl,⟨by decide,by decide⟩,p,c/5,b,e,rfl,hb,ew,le,l3,l4,λu e' H1 s1 hu w1 t1 n1=>?_⟩;refine⟨_,rfl,_,rfl,z2,λt ht=>?_⟩;exact q t a u (conv d) e' _ (s1.trans (.upd ht)) aQ ((Ez ha).mono (s1.trans (.upd ht))) (hu.mono (.upd ht)) (Drw.md (mi dw)) w1 (.inr ⟨oc,t1⟩) lc n1
  ·rw[first h];refine⟨_,rfl,rfl,_,rfl,cD ?_⟩;refine⟨_,rfl,rfl,_,rfl,dy ?_⟩;refine⟨_,rfl,_,rfl,c,4,rfl,rfl,⟨by decide,by decide⟩,p,c/4,a,d,rfl,ha,dw,ld,l1,l2,λu d' H1 s1 hu w1 t1 n1=>?_⟩;refine⟨_,rfl,rfl,_,rfl,dy ?_⟩;refine⟨_,rfl,_,rfl,c,5,rfl,rfl,⟨by decide,by decide⟩,p,c/5,b,e,rfl,hb.mono s1,ew,le,l3,l4,λv e' H2 s2 hv w2 t2 n2=>?_⟩;refine⟨_,rfl,_,rfl,z2,λt ht=>?_⟩;exact q t u v d' e' _ (s1.trans (s2.trans (.upd ht))) aQ (hu.mono (s2.trans (.upd ht))) (hv.mono (.upd ht)) w1 w2 (.inl t1) n1 n2
  ·rw[first h];refine⟨_,rfl,rfl,_,rfl,dy ?_⟩;refine⟨_,rfl,_,rfl,c,4,rfl,rfl,⟨by decide,by decide⟩,p,c/4,a,d,rfl,ha,dw,ld,l1,l2,λu d' H1 s1 hu w1 t1 n1=>?_⟩;refine⟨_,rfl,_,rfl,z2,λt ht=>?_⟩;exact q t u u d' d' _ (s1.trans (.upd ht)) aQ (hu.mono (.upd ht)) (hu.mono (.upd ht)) w1 w1 (.inl t1) n1 n1
theorem EO{α:Type}(n:Nat)(x:α):List.replicate (n+1) x=List.replicate n x++[x]:=by
 rw[List.replicate_succ']
def Ua(_K:Frag):Sp:=λvs H Q _=>∃(p c:Int)(a b:Addr)(d e:D1.Dr),vs=[.int p,.ref a,.int c,.ref b]∧p∈cb∧WT H a d∧WT H b e∧d.wf p∧e.wf p∧d.cP 64∧e.cP 64∧d.aN.length≤100∧e.aN.length≤100∧d.l+d.r≤8∧e.l+e.r≤8∧
 ∀f g H',aL H H'→WT H' f g→g.wf p→g.cP 64→g.aN.length≤150→g.l+g.r≤8→Q (.ref f) H'
theorem Ax:c8 ["p","one","cell","next_one","words","left","right","way"] ["p","one","cell","next_one"] (bq Ih):=dv rfl rfl rfl (by decide +kernel) rfl
theorem adA{fS fB:Addr}{gG ma:FuncData}(F:bZ K "_law_other" "_law_other" Ih f fd)
  (GS:bf P w K mg base bj 1 fS gG ["p","words","cell"] (Tj K)) (kS:Kp K fS) (bS:Binds K gG ["p","words","cell"] []) (mS:Mg mg "_law_swapped" fS)
  (GB:bf P w K mg base bj 1 fB ma ["parts"] (w6 K)) (kB:Kp K fB) (bB:Binds K ma ["parts"] []) (mB:Mg mg "_law_beside_all" fB) :
  bf P w K mg base bj 2 f fd ["p","one","cell","next_one"] (Ua K):=by
 refine F.ok Ax (λvs H Q E h=>?_) (λbt A outer s H vs Q E hr h=>?_)
 ·obtain⟨p,c,a,b,d,e,rfl,_⟩:=h;rfl
 ·obtain⟨p,c,a,b,d,e,rfl,pp,⟨wa,ga,jo⟩,hb,dw,ew,dn,en,ld,le,ds,es,q⟩:=h;have z:(1000:Nat)≤sizeLine:=by decide
  refine⟨_,aX (lM (pv 1) (o7 rfl (dJ (cj (i:=4) Ax.nd rfl (.inl rfl)) (dJ (cj (i:=5) Ax.nd rfl (.inl rfl)) (dJ (cj (i:=6) Ax.nd rfl (.inl rfl)) jT))))) (aX (bH (i:=7) Ax.nd rfl (.inl rfl) (aV ft (pv 2) aR)) (aX (cN (cC dM (pv 7) aR (cx _)) (bg (bY (pv 1))) df) (aX (cN (cC FJ (pv 7) aR (cx _)) (bg (bY (bE (aK (ck GS hr rfl mS kS bS .nil cu (aK (pv 0) (aK (pv 4) (aK (aV iU (pv 2) aR) aM)))) (aK (pv 5) (aK (pv 6) aM)))))) df) (aX (cN (cC dM (pv 7) aR (cx _)) (bg (bY (bE (aK (ck GS hr rfl mS kS bS .nil cu (aK (pv 0) (aK (ck GS hr rfl mS kS bS .nil cu (aK (pv 0) (aK (pv 4) (aK (aV iU (pv 2) aR) aM)))) (aK (aV iU (pv 2) aR) aM)))) (aK (pv 5) (aK (pv 6) aM)))))) df) (aX (cN (PW.pt (rP (cC dM (pv 7) aR (cx _)) (xJ (cC tN (pv 5) aR (cx _))))) (bg (bY (bE (aK (aV dh (aV dh (bE (aK cq aM)) (ck GB hr rfl mB kB bB .nil cu (aK (aV ky (bE (aK (bE (aK cq aM)) aM)) (pv 5)) aM))) (pv 4)) (aK (pv 5) (aK (pv 6) aM)))))) df) (aX (cN (cC dM (pv 7) aR (cx _)) (bg (bY (bE (aK (aV dh (bE (aK cq (aK cq aM))) (pv 4)) (aK (pv 5) (aK (pv 6) aM)))))) df) (bg (bY (pv 3))))))))),?_⟩;refine⟨_,rfl,qp (.of ga) ?_⟩;refine⟨_,rfl,c,7,rfl,rfl,(by decide:(0:Int)<7),?_⟩;have m0:=jr c (show(7:Int)≠0 by decide);have m1:=js c (show(0:Int)<7 by decide);have hw:c%7=0∨(c%7=1∨c%7=2)∨c%7=3∨c%7=4∨c%7=5∨c%7=6:=by lia
  have first:∀{k:Int},c%7=k→(λi j:Int=>V.int (i%j)) c 7=V.int k:=λh=>by show V.int _=_;rw[h]
  have ER:∀{H1:Hp}{t:Addr}{g:D1.Dr},aL H H1→H1 t=some (.lst (g.aN.map cG))→g.wf p→g.cP 64→g.aN.length≤150→g.bz=d.bz→∀x,H1 x=none→Q (.ref x) (upd H1 x (.lst [.ref t,.int (d.l:Int),.int (d.r:Int)])):=λ{H1 t g} s1 ht w1 w2 w3 w4 x hx=>by
   have e1:g.l=d.l:=aj Prod.fst w4;have e2:g.r=d.r:=aj Prod.snd w4;refine q x g _ (s1.trans (.upd hx)) ⟨t,?_,aL.upd hx _ _ ht⟩ w1 w2 w3 (by lia);rw[aQ,e1,e2]
  rcases hw with h|h|h|h|h|h
  ·rw[first h];refine⟨_,rfl,rfl,_,rfl,dy ?_⟩;exact⟨_,rfl,q a d H (.refl _) ⟨wa,ga,jo⟩ dw dn (by lia) ds⟩
  ·obtain⟨k,hk,Tq⟩:∃k:Int,c%7=k∧(k=1∨k=2):=⟨_,rfl,h⟩;rw[first hk];refine⟨_,rfl,rfl,_,rfl,?_⟩;rw[ae (show ¬V.int k=V.int 0 from λz=>by injection z;lia)]
   refine cD ⟨_,rfl,_,_,rfl,rfl,_,rfl,?_⟩;rw[aE (show k<3 by lia)];refine dy ⟨_,rfl,_,rfl,_,rfl,c,7,rfl,rfl,⟨by decide,by decide⟩,p,c/7,wa,d,rfl,pp,jo,dw,dn,by lia,λt g H1 s1 ht w1 w2 w3 w4=>?_⟩;exact⟨_,rfl,_,rfl,by show 3≤sizeLine;lia,ER s1 ht w1 w2 (by lia) w4⟩
  ·rw[first h];refine⟨_,rfl,rfl,_,rfl,cD ?_⟩;refine⟨_,rfl,_,_,rfl,rfl,_,rfl,cD ?_⟩;refine⟨_,rfl,rfl,_,rfl,dy ?_⟩;refine⟨_,rfl,_,rfl,_,rfl,_,rfl,c,7,rfl,rfl,⟨by decide,by decide⟩,p,c/7,wa,d,rfl,pp,jo,dw,dn,by lia,λt g H1 s1 ht w1 w2 w3 w4=>?_⟩;refine⟨_,rfl,c,49,rfl,rfl,⟨by decide,by decide⟩,p,c/49,t,g,rfl,pp,ht,w1,w2,by lia,λt' g' H2 s2 ug v1 v2 v3 v4=>?_⟩;exact⟨_,rfl,_,rfl,by show 3≤sizeLine;lia,ER (s1.trans s2) ug v1 v2 (by lia) (v4.trans w4)⟩
  ·rw[first h];refine⟨_,rfl,rfl,_,rfl,cD ?_⟩;refine⟨_,rfl,_,_,rfl,rfl,_,rfl,cD ?_⟩;refine⟨_,rfl,rfl,_,rfl,cD ?_⟩;refine⟨_,rfl,rfl,_,rfl,dy ?_⟩;refine⟨_,rfl,_,_,rfl,rfl,_,rfl,?_⟩;by_cases hl:0<d.l
   ·rw[aE (show(0:Int)<(d.l:Int) by lia)];refine dy ⟨by show 1≤sizeLine;lia,λx0 h0=>?_⟩;refine⟨by show 1≤sizeLine;lia,λy0 k0=>⟨by show 1≤sizeLine;lia,λy1 k1=>⟨_,rfl,y1,(d.l:Int),[.ref y0],rfl,rfl,aQ,by lia,by lia,by show 1*(d.l:Int).toNat≤sizeLine;lia,λy2 k2=>?_⟩⟩⟩;obtain⟨n,hn⟩:∃n,d.l=n+1:=⟨d.l-1,by lia⟩;have q1:=aL.upd k1 (o:=.lst [.ref y0]);have sY:=(aL.upd h0 (o:=.lst [.str (Str.ofString "then")])).trans ((aL.upd k0 (o:=.lst [.str (Str.ofString "id")])).trans (q1.trans (aL.upd k2 (o:=.lst ((List.replicate (d.l:Int).toNat [V.ref y0]).flatten)))));rw[show(d.l:Int).toNat=d.l by lia,zE]at *;have Ub:=((q1.trans (aL.upd k2 (o:=.lst (List.replicate d.l (V.ref y0))))) _ _ (aQ (H:=upd H x0 (.lst [.str (Str.ofString "then")])) (a:=y0) (o:=.lst [.str (Str.ofString "id")])));have gx0:=(((aL.upd k0 (o:=.lst [.str (Str.ofString "id")])).trans (q1.trans (aL.upd k2 (o:=.lst (List.replicate d.l (V.ref y0)))))) _ _ (aQ (H:=H) (a:=x0) (o:=.lst [.str (Str.ofString "then")])));refine⟨y2,y0,List.replicate n (.ref y0),List.replicate n .id,.id,rfl,?_,jN.rep (d:=.id) (show WL _ y0 D1.Dr.id from Ub) n,Ub,by rw[dq];lia,λe he=>by rw[mE he];decide,by decide,λt H3 s3 ht=>?_⟩
    ·rw[aQ,hn,EO]
    have gw3:=s3 _ _ (sY _ _ jo);have gx3:=s3 _ _ gx0;have uw:∀x∈List.replicate n D1.Dr.id++[D1.Dr.id],x=.id:=λx hx=>by
     rcases(c9.mp hx)with h|h
     ·exact mE h
     ·exact cR.mp h
    have ul:(D1.jM (List.replicate n .id++[.id])).l=d.l:=by rw[D1.Ag,← EO,D1.Ai,hn]
    have ur:(D1.jM (List.replicate n .id++[.id])).r=d.l:=by rw[D1.Ah,← EO,D1.Aj,hn]
    have u1:(D1.jM (List.replicate n .id++[.id])).wf p:=D1.Kk _ λx hx=>by rw[uw x hx];exact True.intro
    have u2:(D1.jM (List.replicate n .id++[.id])).cP 64:=D1.Kl _ (λx hx=>by rw[uw x hx];exact True.intro) (by rw[← EO,D1.Ai,D1.Aj];lia);have u3:(D1.jM (List.replicate n .id++[.id])).aN.length≤40:=by
     have:=D1.Af (B:=1) (List.replicate n .id) λx hx=>by rw[mE hx];decide
     rw[dq]at this;rw[D1.Ej,bK];show _+1≤40;lia
    generalize D1.jM (List.replicate n .id++[.id])=u at ht ul ur u1 u2 u3;refine⟨x0,t,_,_,rfl,rfl,gx3,ht,by rw[ba];show 1+_≤sizeLine;lia,λx2 h2=>?_⟩;refine⟨_,rfl,x2,wa,_,_,rfl,rfl,aQ,aL.upd h2 _ _ gw3,by rw[bK,ba,ba];show 1+_+_≤sizeLine;lia,λx3 h3=>?_⟩;refine⟨_,rfl,_,rfl,by show 3≤sizeLine;lia,ER (g:=.aZ u d) (sY.trans (s3.trans ((aL.upd h2).trans (.upd h3)))) ?_ ⟨u1,dw,ur⟩ ⟨u2,dn,by lia⟩ ?_ ?_⟩
    ·rw[aQ];show _=some (HO.lst ((D1.Wd.w "then"::(u.aN++d.aN)).map cG));rw[kj,dE];rfl
    ·show(D1.Wd.w "then"::(u.aN++d.aN)).length≤150;rw[eO,bK];lia
    ·show(u.l,d.r)=(d.l,d.r);rw[ul]
   ·rw[ae (show ¬(0:Int)<(d.l:Int) by lia)];refine cD ?_;refine⟨_,rfl,rfl,_,rfl,cD ?_⟩;exact⟨_,rfl,q b e H (.refl _) hb ew en (by lia) es⟩
  ·rw[first h];refine⟨_,rfl,rfl,_,rfl,cD ?_⟩;refine⟨_,rfl,_,_,rfl,rfl,_,rfl,cD ?_⟩;refine⟨_,rfl,rfl,_,rfl,cD ?_⟩;refine⟨_,rfl,rfl,_,rfl,cD (cD ?_)⟩;refine⟨_,rfl,rfl,_,rfl,dy ?_⟩;refine⟨by show 2≤sizeLine;lia,λx1 h1=>⟨_,rfl,x1,wa,_,_,rfl,rfl,aQ,aL.upd h1 _ _ jo,by rw[ba];show 2+_≤sizeLine;lia,λx2 h2=>?_⟩⟩;exact⟨_,rfl,_,rfl,by show 3≤sizeLine;lia,ER (g:=.back (.back d)) ((aL.upd h1).trans (.upd h2)) aQ dw dn (by show d.aN.length+1+1≤150;lia) rfl⟩
  ·rw[first h];refine⟨_,rfl,rfl,_,rfl,cD ?_⟩;refine⟨_,rfl,_,_,rfl,rfl,_,rfl,cD ?_⟩;refine⟨_,rfl,rfl,_,rfl,cD ?_⟩;refine⟨_,rfl,rfl,_,rfl,cD (cD ?_)⟩;refine⟨_,rfl,rfl,_,rfl,cD ?_⟩;exact⟨_,rfl,q b e H (.refl _) hb ew en (by lia) es⟩
end S21
namespace L2
open PySem PySem.Spec PyProof.Rows
def adB(ta:TA):TI:=λσ H R=>ta σ H λvs H1=>∃j:Int,vs=[.int 0,.int j,.int 21]∧0≤j∧j<1000000∧R (yy 21 ((j+20)/21).toNat) H1
theorem Uc{j:Int}(h:0≤j):Builtin.Range.rangeSize 0 j 21=(((j+20)/21).toNat:Int):=by
 unfold Builtin.Range.rangeSize;rw[af (by decide)];split<;>lia
theorem adC{j:Int}(h:0≤j)(h2:j<1000000):Builtin.Range.small 0 j 21=true:=by
 unfold Builtin.Range.small;rw[Uc h];have fl:∀i:Int,-1000000≤i→i≤1000021→Builtin.Range.rangeFitsLong i=true:=λi a b=>by
  unfold Builtin.Range.rangeFitsLong;rw[eF,aH,aH];lia
 have m0:(0:Int)≤(((j+20)/21).toNat:Int):=Int.natCast_nonneg _;have m1:(((j+20)/21).toNat:Int)≤1000001:=by lia
 generalize (((j+20)/21).toNat:Int)=m at m0 m1 ⊢;have e5:j+(21-1)=j+20:=rfl;rw[e5];have h5:=fl (j+20) (by lia) (by lia);generalize j+20=j' at h5 ⊢;rw[fl j (by lia) (by lia),fl m (by lia) (by lia),h5];have h0:=fl 0 (by decide) (by decide);have h2:=fl 21 (by decide) (by decide);generalize Builtin.Range.rangeFitsLong 0=b0 at h0 ⊢;generalize Builtin.Range.rangeFitsLong 21=b2 at h2 ⊢;subst h0 h2;cases m==0<;>rfl
theorem adD{X:Cx}{tg:Expr}{a b c:Expr}{ta:TA}{p pos:Pos}(hg:Gl X "range")(hm:X.mg "range"=none)(ha:PA X [a,b,c] ta)(hs:starEach [a,b,c] X.env=[(false,eval a X.env),(false,eval b X.env),(false,eval c X.env)]:=by rfl)
  (jC:starEach [b,c] X.env=[(false,eval b X.env),(false,eval c X.env)]:=by rfl):PI X tg (.Call (.Name "range" p) [a,b,c] [] pos) (adB ta):=by
 intro aJ s σ H R I h;refine Call_ (rO I hg hm boot_range (AK (aZ (ha pos aJ s σ H _ I h) λus s1 ⟨vs,H1,I1,r1,q1⟩=>?_) (by rw[hs,jC]) (by rw[jC];rfl)));obtain⟨j,rfl,j0,j1,q⟩:=q1;obtain⟨u1,sZ,rfl,⟨t,rfl⟩,r2⟩:=Hh r1;obtain⟨u2,mx,rfl,⟨t',rfl⟩,r3⟩:=Hh r2;obtain⟨u3,i8,rfl,⟨t2,rfl⟩,r4⟩:=Hh r3;cases r4;refine call_range_3 (by decide) ?_ (Or.inl (PyProof.noPylong_small (by lia)));refine wpAny_pyIter_range (IsRange.new ..) (adC j0 j1) ?_;have up:∀b o,s1.heap.get? b=some o→(s1.heap.push { cls:=.type "range",data:=.fields #[.int 0 t,.int j t',.int 21 t2] }).get? b=some o:=λb o e=>dD _ e;have I2:=I1.kept (t':=s1.toks) up;generalize s1.heap.push { cls:=.type "range",data:=.fields #[.int 0 t,.int j t',.int 21 t2] }=h2 at I2 ⊢;have I3:Inv X aJ σ H1 { s1 with heap:=h2.push { cls:=.type "range_iterator",data:=.fields #[rawInt 0,rawInt (Builtin.Range.rangeSize 0 j 21),rawInt 21] },toks:=s1.toks }:=I2.kept (t':=s1.toks) λb o e=>dD _ e;refine⟨h2.objs.size,[h2.objs.size],_,_,H1,rfl,I3,YE _ 21 ((j+20)/21).toNat,?_,λb hb=>?_,q⟩
 ·have e2:((((j+20)/21).toNat:Nat):Int)-((0:Nat):Int)=Builtin.Range.rangeSize 0 j 21:=by rw[Uc j0];simp
  show IsRangeIter _ _ (0+((0:Nat):Int)*21) _ 21;rw[e2];exact gK _ rfl
 ·cases cR.mp hb;exact I2.nU (bX _) (I2.br.fresh (bX _))
end L2
namespace S21
open PySem L2 Bw
variable{H:Hp}{Pt a b f:Addr}{d e:D1.Dr}{fd:FuncData}{p:Int}{ps:List Str}
def ET(K:Frag)(Pt:Addr):Sp:=λvs H Q _=>∃(a:Addr)(ns:List Int),vs=[.ref a]∧di K H a (ns.map V.int)∧ns.length≤63∧fi H Pt (ig fX) ij∧∀H',Q (.bl true) H'
def EU(K:Frag)(Pt:Addr):Sp:=λvs H Q E=>KI K Pt "Late" true (KH K Pt) vs H Q E∨KI K Pt "BadSides" false (KG K) vs H Q E
theorem nO:c8 ["script","cells","k","p","one","other","waits","long"] ["script"] (bq rg):=dv rfl rfl rfl (by decide +kernel) rfl
structure oI(H:Hp)(p:Int)(n m:Nat)(a b:Addr)(d e:D1.Dr):Prop where
 ha:WT H a d
 hb:WT H b e
 dw:d.wf p
 ew:e.wf p
 dn:d.cP 64
 en:e.cP 64
 ld:d.aN.length≤n
 le:e.aN.length≤n
 ds:d.l+d.r≤m
 es:e.l+e.r≤m
theorem oI.mono{H H':Hp}{p:Int}{n m:Nat}{a b:Addr}{d e:D1.Dr}(t:oI H p n m a b d e)(s:aL H H'):oI H' p n m a b d e:=⟨t.ha.mono s,t.hb.mono s,t.dw,t.ew,t.dn,t.en,t.ld,t.le,t.ds,t.es⟩
theorem oI.swap{n m:Nat}(t:oI H p n m a b d e):oI H p n m b a e d:=⟨t.hb,t.ha,t.ew,t.dw,t.en,t.dn,t.le,t.ld,t.es,t.ds⟩
theorem oI.grow{n m n' m':Nat}(t:oI H p n m a b d e)(h1:n≤n')(h2:m≤m'):oI H p n' m' a b d e:=⟨t.ha,t.hb,t.dw,t.ew,t.dn,t.en,fg t.ld h1,fg t.le h1,fg t.ds h2,fg t.es h2⟩
theorem adE{d e:Drw}{Q:VK}{E:XK}(ha:nN H a d)(hb:nN H b e)(LT:fi H Pt (ig fX) ij)(pp:p∈cb)(dw:d.eX p)(ew:e.eX p)(l1:d.aN.length≤900000)(l2:e.aN.length≤900000)(hl:mv d∨(Ok p d∧mv e))
  (q:∀H',aL (S21.del Pt H) H'→fi H' Pt (ig fX) ij→Q (.bl true) H'):EU K Pt [.int p,.ref a,.ref b,.bl true] H Q E:=by
 by_cases hs:d.bz=e.bz
 ·refine .inl ⟨p,a,b,true,d,e,rfl,ha,hb,LT,by rw[aE hs];rfl,λta tb H1 s1 h1 h2 Q E r=>?_,q⟩;refine⟨p,ta,tb,d,e,rfl,dw,ew,hs,l1,l2,h1,h2,LT.mono s1,?_,r⟩;rcases hl with hl|⟨o,hl⟩
  ·exact .inl hl
  ·exact .inr ⟨pp,o,hl⟩
 ·refine .inr ⟨p,a,b,true,d,e,rfl,ha,hb,LT,by rw[ae hs];rfl,λta tb H1 s1 h1 h2 Q E r=>?_,q⟩;exact⟨p,ta,tb,d,e,rfl,dw,ew,hs,l1,l2,h1,h2,λH' s=>r H' (aL.sE s) ((LT.mono s1).mono s)⟩
theorem adF{wt:Bool}{d e:Drw}{Q:VK}{E:XK}(ha:nN H a d)(hb:nN H b e)(LT:fi H Pt (ig fX) ij)(dw:d.eX p)(ew:e.eX p)(l1:d.aN.length≤900000)(l2:e.aN.length≤900000)(hs:¬d.bz=e.bz)
  (q:∀H',aL (S21.del Pt H) H'→fi H' Pt (ig fX) ij→Q (.bl true) H'):EU K Pt [.int p,.ref a,.ref b,.bl wt] H Q E:=by
 refine .inr ⟨p,a,b,wt,d,e,rfl,ha,hb,LT,by rw[ae hs,Bool.and_false],λta tb H1 s1 h1 h2 Q E r=>?_,q⟩;exact⟨p,ta,tb,d,e,rfl,dw,ew,hs,l1,l2,h1,h2,λH' s=>r H' (aL.sE s) ((LT.mono s1).mono s)⟩
theorem adG{K:Frag}{i j:Nat}{v:Addr}{x y:V}{σ:St}{R:St→Hp→Prop}(h:di K H v [x,y])(q:R ((σ.set i (some x)).set j (some y)) H):tX K 2 (iE (bN i) (iE (bN j) rQ)) (.ref v) σ H R:=⟨v,_,rfl,h,rfl,_,_,rfl,_,_,rfl,rfl,q⟩
theorem Ud{i:Nat}{σ:St}{R:VK}(hi:σ[i]?=some (some (.ref a)))(ha:WT H a d)(hl:d.aN.length≤200)
  (q:∀x H',aL H H'→WT H' x (.aZ (.back d) d)→R (.ref x) H') :
  cS (aY (bp eh (bp eh (cS (aY (tC (.str (Str.ofString "then"))) (aY (tC (.str (Str.ofString "back"))) bV))) (bp (jV K) (aW i) (tC (.int 0)))) (bp (jV K) (aW i) (tC (.int 0)))) (aY (bp (jV K) (aW i) (tC (.int 2))) (aY (bp (jV K) (aW i) (tC (.int 2))) bV))) σ H R:=by
 obtain⟨wa,ga,jo⟩:=ha;have jj:(1000:Nat)≤sizeLine:=by decide
 have gw:H wa=some (.lst (d.aN.map cG)):=jo;refine⟨by show 2≤sizeLine;lia,λx1 h1=>?_⟩;have s1:=aL.upd h1 (o:=.lst [.str (Str.ofString "then"),.str (Str.ofString "back")]);refine⟨_,hi,a,_,0,_,rfl,rfl,.of (s1 _ _ ga),bu (j:=0) rfl,x1,wa,_,_,rfl,rfl,aQ,s1 _ _ gw,by rw[ba];show 2+_≤sizeLine;lia,λx2 h2=>?_⟩;have s2:=s1.trans (aL.upd h2 (o:=.lst ([.str (Str.ofString "then"),.str (Str.ofString "back")]++d.aN.map cG)));refine⟨_,hi,a,_,0,_,rfl,rfl,.of (s2 _ _ ga),bu (j:=0) rfl,x2,wa,_,_,rfl,rfl,aQ,s2 _ _ gw,by rw[bK,ba];show 2+_+_≤sizeLine;lia,λx3 h3=>?_⟩;have s3:=s2.trans (aL.upd h3 (o:=.lst ([.str (Str.ofString "then"),.str (Str.ofString "back")]++d.aN.map cG++d.aN.map cG)));refine⟨_,hi,a,_,2,_,rfl,rfl,.of (s3 _ _ ga),bu (j:=2) rfl,_,hi,a,_,2,_,rfl,rfl,.of (s3 _ _ ga),bu (j:=2) rfl,by show 3≤sizeLine;lia,λy hy=>?_⟩;refine q y _ (s3.trans (.upd hy)) ⟨x3,aQ,?_⟩;show _=some (HO.lst ((D1.Wd.w "then"::((D1.Wd.w "back"::d.aN)++d.aN)).map cG));rw[aL.upd hy _ _ aQ,kj,dE,kj];rfl
theorem Ue(h:d.bz=e.bz):Dat.list [.int (d.l:Int),.int (d.r:Int)]=.list [.int (e.l:Int),.int (e.r:Int)]:=by
 rw[show d.l=e.l from aj Prod.fst h,show d.r=e.r from aj Prod.snd h]
theorem Ug(h:¬d.bz=e.bz):Dat.list [.int (d.l:Int),.int (d.r:Int)]≠.list [.int (e.l:Int),.int (e.r:Int)]:=λz=>by
 injection z with z;injection z with z1 z;injection z with z2 _;injection z1 with z1;injection z2 with z2;exact h (Prod.ext (Int.ofNat.inj z1) (Int.ofNat.inj z2))
theorem adH{fC:Addr}{gQ:FuncData}(F:bZ K "_law_refused" "_law_refused" CJ f fd)(T:Txt mg)(Y:KA K mg)
  (GL:bf P w K mg base (i6 P w (cB K "Late")) 11 fC gQ ["p","one","other"] (KH K Pt)) (GS:bf P w K mg base (i6 P w (cB K "BadSides")) 11 fC gQ ["p","one","other"] (KG K))
  (kC:Kp K fC) (bC:Binds K gQ ["p","one","other"] []) (mC:Mg mg "compared" fC) :
  bf P w K mg base bj 12 f fd ["p","one","other","waits"] (EU K Pt):=bf.or (Tv F T Y Y.L GL kC bC mC) (Tv F T Y Y.S GS kC bC mC)
theorem adI{fP fG fO fQ fR fT:Addr}{rC Uh zI Ui mj kY:FuncData}(F:bZ K "law" "law" rg f fd)(T:Txt mg)
  (GP:bf P w K mg base bj 1 fP rC ["cell"] Ry) (kP:Kp K fP) (bP:Binds K rC ["cell"] []) (mP:Mg mg "_law_prime" fP)
  (GG:bf P w K mg base bj 3 fG Uh ["p","cells","most"] (Tb K)) (kG:Kp K fG) (bG:Binds K Uh ["p","cells","most"] []) (mG:Mg mg "_law_grown" fG)
  (GO:bf P w K mg base bj 2 fO zI ["p","one","cell","next_one"] (Ua K)) (kO:Kp K fO) (bO:Binds K zI ["p","one","cell","next_one"] []) (mO:Mg mg "_law_other" fO)
  (GQ:bf P w K mg base bj 3 fQ Ui ["one","other","cell"] (T9 K)) (kQ:Kp K fQ) (bQ:Binds K Ui ["one","other","cell"] []) (mQ:Mg mg "_law_pair" fQ)
  (GR:bf P w K mg base bj 12 fR mj ["p","one","other","waits"] (EU K Pt)) (kR:Kp K fR) (bR:Binds K mj ["p","one","other","waits"] []) (mR:Mg mg "_law_refused" fR)
  (GT:bf P w K mg base bj 12 fT kY ["p","one","other"] (TF K Pt)) (kT:Kp K fT) (bT:Binds K kY ["p","one","other"] []) (mT:Mg mg "_law_told" fT) :
  bf P w K mg base bj 64 f fd ["script"] (ET K Pt):=by
 refine F.ok nO (λvs H Q E h=>?_) (λbt A outer s H vs Q E hr h=>?_)
 ·obtain⟨a,ns,rfl,_⟩:=h;rfl
 ·obtain⟨a,ns,rfl,ha,yR,kg,q⟩:=h;have hu:=hr.units;have r1:dk 1 _:=hr.mono (by lia);have r2:dk 2 _:=hr.mono (by lia);have r3:dk 3 _:=hr.mono (by lia);have Uj:dk 12 _:=hr.mono (by lia);have jj:(1000:Nat)≤sizeLine:=by decide
  refine⟨_,aX (bH (i:=1) nO.nd rfl (.inl rfl) (dB (fH K rfl) (pv 0) dZ (cZ aR))) (aX (jw jR rfl (adD rfl T.range (aK aR (aK (dO (FP rfl) rfl T.max Im (aK aR (aK (dO (iX K rfl) rfl T.len iY (aK (pv 1) aM)) aM))) (aK aR aM)))) (cj (i:=2) nO.nd rfl (.inl rfl)) (aX (bH (i:=3) nO.nd rfl (.inl rfl) (ck GP r1 rfl mP kP bP .nil cu (aK (dO (yq K rfl rfl) rfl T.sum yw (aK (dB (fH K rfl) (pv 1) (cZ (pv 2)) (cZ (aV eB (pv 2) aR))) aM)) aM))) (aX (bH (i:=4) nO.nd rfl (.inl rfl) (ck GG r3 rfl mG kG bG .nil cu (aK (pv 3) (aK (dB (fH K rfl) (pv 1) (cZ (aV eB (pv 2) aR)) (cZ (aV eB (pv 2) aR))) (aK aR aM))))) (aX (bH (i:=5) nO.nd rfl (.inl rfl) (ck GO r2 rfl mO kO bO .nil cu (aK (pv 3) (aK (pv 4) (aK (dO (yq K rfl rfl) rfl T.sum yw (aK (dB (fH K rfl) (pv 1) (cZ (pv 2)) (cZ (aV eB (pv 2) aR))) aM)) (aK (ck GG r3 rfl mG kG bG .nil cu (aK (pv 3) (aK (dB (fH K rfl) (pv 1) (cZ (aV eB (pv 2) aR)) (cZ (aV eB (pv 2) aR))) (aK aR aM)))) aM)))))) (aX (cN (cC dM (aV ft (pv 2) aR) aR (cx _)) (bg (VJ (i:=4) (j:=5) rfl nO.nd rfl rfl (by decide) rfl rfl (aK (pv 5) (aK (pv 4) aM)) rfl)) df) (aX (bH (i:=6) nO.nd rfl (.inl rfl) (nV dM (aV ft (aV iU (dO (yq K rfl rfl) rfl T.sum yw (aK (dB (fH K rfl) (pv 1) (cZ (pv 2)) (cZ (aV eB (pv 2) aR))) aM)) aR) aR) aR (cx _))) (aX (bH (i:=7) nO.nd rfl (.inl rfl) (nV tN (dO (FP rfl) rfl T.max Im (aK (dO (iX K rfl) rfl T.len iY (aK (bh (cA K rfl) (pv 4) aR (λ_ _=>rfl)) aM)) (aK (dO (iX K rfl) rfl T.len iY (aK (bh (cA K rfl) (pv 5) aR (λ_ _=>rfl)) aM)) aM))) aR (cx _))) (aX (cN (PW.pt (rP (p4 (ju (pv 6))) (rP (p4 (ju (pv 7))) (rP (cC (yr K rfl hu) (dB (fH K rfl) (pv 4) (cZ aR) dZ) (dB (fH K rfl) (pv 5) (cZ aR) dZ) (cx _)) (xJ (cC dM (aV ft (aV iU (dO (yq K rfl rfl) rfl T.sum yw (aK (dB (fH K rfl) (pv 1) (cZ (pv 2)) (cZ (aV eB (pv 2) aR))) aM)) aR) aR) aR (cx _))))))) (aX (bH (i:=4) nO.nd rfl (.inl rfl) (bE (aK (aV dh (aV dh (bE (aK cq (aK cq aM))) (bh (cA K rfl) (pv 4) aR (λ_ _=>rfl))) (bh (cA K rfl) (pv 4) aR (λ_ _=>rfl))) (aK (bh (cA K rfl) (pv 4) aR (λ_ _=>rfl)) (aK (bh (cA K rfl) (pv 4) aR (λ_ _=>rfl)) aM))))) (bg (bH (i:=5) nO.nd rfl (.inl rfl) (bE (aK (aV dh (aV dh (bE (aK cq (aK cq aM))) (bh (cA K rfl) (pv 5) aR (λ_ _=>rfl))) (bh (cA K rfl) (pv 5) aR (λ_ _=>rfl))) (aK (bh (cA K rfl) (pv 5) aR (λ_ _=>rfl)) (aK (bh (cA K rfl) (pv 5) aR (λ_ _=>rfl)) aM))))))) df) (aX (cN (ju (pv 6)) (bg (lM (ck GQ r3 rfl mQ kQ bQ .nil cu (aK (pv 4) (aK (pv 5) (aK (aV iU (dO (yq K rfl rfl) rfl T.sum yw (aK (dB (fH K rfl) (pv 1) (cZ (pv 2)) (cZ (aV eB (pv 2) aR))) aM)) aR) aM)))) (o7 rfl (dJ (cj (i:=4) nO.nd rfl (.inl rfl)) (dJ (cj (i:=5) nO.nd rfl (.inl rfl)) jT))))) df) (bg (cN (PW.pt (nT (ju (pv 6)) (tM (cC (BV K rfl hu) (dB (fH K rfl) (pv 4) (cZ aR) dZ) (dB (fH K rfl) (pv 5) (cZ aR) dZ) (cx _))))) (bg (cN (p4 (ju (ck GR Uj rfl mR kR bR .nil cu (aK (pv 3) (aK (pv 4) (aK (pv 5) (aK (pv 6) aM))))))) (bg (bY tL)) df)) (bg (cN (p4 (ju (ck GT Uj rfl mT kT bT .nil cu (aK (pv 3) (aK (pv 4) (aK (pv 5) aM)))))) (bg (bY tL)) df))))))))))))) (bg (bY tL))),?_⟩;obtain⟨cs,zR,lcs⟩:=Ar ns none (some 63);refine⟨_,rfl,63,rfl,a,_,rfl,ha,λlc mZ=>?_⟩;rw[zR];have K2:=kg.mono (aL.upd mZ (o:=.lst (cs.map V.int)));have g0:(upd H lc (.lst (cs.map V.int))) lc=some (.lst (cs.map V.int)):=aQ;generalize upd H lc (.lst (cs.map V.int))=H0 at K2 g0 ⊢;have RJ:(cs.map V.int).length=cs.length:=ba _;refine⟨_,rfl,lc,_,rfl,.inl (.of g0),_,_,rfl,_,rfl,by split<;>lia,by split<;>lia,YF (λi σ H'=>(H' lc=some (.lst (cs.map V.int))∧fi H' Pt (ig fX) ij)∧∃s2 s3 s4 s5 s6 s7,σ=[some (.ref a),some (.ref lc),s2,s3,s4,s5,s6,s7]) ⟨⟨g0,K2⟩,none,none,none,none,none,none,rfl⟩ ?_ (λσ H' _=>q H')⟩
  rintro i σ H1 _ ⟨⟨g1,sV⟩,s2,s3,s4,s5,s6,s7,rfl⟩;clear g0 K2 kg ha mZ;generalize ((i:Int)*21)=k;obtain⟨m1,Uk,_⟩:=Ar cs (some k) (some (k+2));refine⟨_,rfl,_,rfl,_,rfl,_,rfl,_,_,rfl,rfl,_,rfl,lc,_,rfl,.of g1,λl1 h1=>?_⟩;rw[Uk];refine⟨l1,m1,rfl,.of aQ,_,rfl,λp H2 pp t2=>?_⟩;have t1:=(aL.upd h1 (o:=.lst (m1.map V.int))).trans t2;have g2:=t1 _ _ g1;have pG:=sV.mono t1;clear t1 t2 h1 Uk g1 sV;obtain⟨m2,Ul,lm2⟩:=Ar cs (some (k+1)) (some (k+21));refine⟨_,rfl,_,rfl,_,rfl,_,_,rfl,rfl,_,rfl,_,rfl,_,_,rfl,rfl,_,rfl,lc,_,rfl,.of g2,λl2 h2=>?_⟩;rw[Ul];refine⟨p,l2,30,m2,rfl,pp,aQ,by lia,by decide,by decide,λf1 d1 H3 t3 uf w1 n1 b1 K3=>?_⟩;have t1:=(aL.upd h2 (o:=.lst (m2.map V.int))).trans t3;have g3:=t1 _ _ g2;have pH:=pG.mono t1;clear t1 t3 h2 Ul g2 pG;obtain⟨m3,EV,lm3⟩:=Ar cs (some k) (some (k+21));obtain⟨m4,Um,lm4⟩:=Ar cs (some (k+3)) (some (k+24));refine⟨_,rfl,_,rfl,_,rfl,_,rfl,_,rfl,_,rfl,_,_,rfl,rfl,_,rfl,lc,_,rfl,.of g3,λl3 h3=>?_⟩;rw[EV];have t3:=aL.upd h3 (o:=.lst (m3.map V.int));refine⟨l3,m3,rfl,.of aQ,_,rfl,_,rfl,_,rfl,_,_,rfl,rfl,_,rfl,_,rfl,_,_,rfl,rfl,_,rfl,lc,_,rfl,.of (t3 _ _ g3),λl4 h4=>?_⟩;rw[Um];refine⟨p,l4,30,m4,rfl,pp,aQ,by lia,by decide,by decide,λf2 d2 H4 t4 jk w2 n2 b2 Uo=>?_⟩;have t5:=t3.trans ((aL.upd h4 (o:=.lst (m4.map V.int))).trans t4);refine⟨p,m3.sum,f1,f2,d1,d2,rfl,pp,uf.mono t5,jk,w1,w2,n1,n2,by lia,by lia,K3,Uo,λf3 d3 H5 t6 Up w3 n3 b3 Uq=>?_⟩;have t7:=t5.trans t6;have two:oI H5 p 150 8 f1 f3 d1 d3:=⟨uf.mono t7,Up,w1,w3,n1,n3,by lia,b3,K3,Uq⟩;have g5:=t7 _ _ g3;have Ur:=pH.mono t7;clear t7 t6 t5 t4 t3 h4 h3 g3 pH Um uf jk Up w1 w2 w3 n1 n2 n3 b1 b2 b3 K3 Uo Uq;dsimp only[bN];refine Ir (λσ H'=>H'=H5∧∃a' b' d e,σ=[some (.ref a),some (.ref lc),some (.int k),some (.int p),some (.ref a'),some (.ref b'),s6,s7]∧oI H5 p 150 8 a' b' d e) ?_ ?_
  ·intro N hN;refine⟨_,rfl,k,2,rfl,rfl,(by show(0:Int)<2;decide),rfl,_,rfl,tU (λ_=>?_) (λ_=>?_)⟩
   ·exact⟨_,rfl,_,rfl,_,_,rfl,hN _ _ ⟨rfl,f3,f1,d3,d1,rfl,two.swap⟩⟩
   ·exact hN _ _ ⟨rfl,f1,f3,d1,d3,rfl,two⟩
  rintro σ H' ⟨eH,a',b',d,e,rfl,tw⟩;rw[eH];clear eH H' two;refine⟨_,rfl,_,rfl,_,rfl,_,rfl,_,_,rfl,rfl,_,rfl,lc,_,rfl,.of g5,λl5 h5=>?_⟩;rw[EV];have t5:=aL.upd h5 (o:=.lst (m3.map V.int));refine⟨l5,m3,rfl,.of aQ,_,_,rfl,rfl,⟨by decide,by decide⟩,_,_,rfl,rfl,(by show(0:Int)<6;decide),rfl,?_⟩;generalize decide (V.int (m3.sum/7%6)=V.int 1)=wt;have g6:=t5 _ _ g5;have sX:=Ur.mono t5;have jQ:=tw.mono t5;generalize upd H5 l5 (.lst (m3.map V.int))=H6 at g6 sX jQ ⊢;clear t5 h5 g5 Ur tw;obtain⟨wa,ga,jo⟩:=jQ.ha;obtain⟨wb,gb,sU⟩:=jQ.hb;refine⟨_,rfl,a',_,0,_,rfl,rfl,.of ga,bu (j:=0) rfl,wa,_,rfl,.inl (.of jo),_,rfl,b',_,0,_,rfl,rfl,.of gb,bu (j:=0) rfl,wb,_,rfl,.inl (.of sU),_,_,rfl,_,_,rfl,rfl,?_⟩;dsimp only[bN];generalize K4:decide ((34:Int)<(if(((e.aN.map cG).length:Nat):Int)>(((d.aN.map cG).length:Nat):Int)then(((e.aN.map cG).length:Nat):Int)else(((d.aN.map cG).length:Nat):Int)))=lg
  have lY:lg=false→d.aN.length≤34∧e.aN.length≤34:=λz=>by
   rw[z,aG,ba,ba]at K4;split at K4<;>constructor<;>lia
  clear K4;refine Ir (λσ H'=>(H' lc=some (.lst (cs.map V.int))∧fi H' Pt (ig fX) ij)∧∃a2 b2 d2 e2,σ=[some (.ref a),some (.ref lc),some (.int k),some (.int p),some (.ref a2),some (.ref b2),some (.bl wt),some (.bl lg)]∧oI H' p 150 16 a2 b2 d2 e2) ?_ ?_
  ·intro N hN;have jt:∀{H':Hp},aL H6 H'→N [some (.ref a),some (.ref lc),some (.int k),some (.int p),some (.ref a'),some (.ref b'),some (.bl wt),some (.bl lg)] H':=λt=>hN _ _ ⟨⟨t _ _ g6,sX.mono t⟩,a',b',d,e,rfl,(jQ.mono t).grow (bX _) (by decide)⟩;refine⟨_,rfl,wt,rfl,?_⟩;cases wt with
   |true=>exact cD (jt (.refl _))
   |false=>
    refine dy ⟨_,rfl,lg,rfl,?_⟩;cases lg with
    |true=>exact cD (jt (.refl _))
    |false=>
     refine dy ⟨_,rfl,1,rfl,a',_,rfl,.of ga,λx1 h1=>?_⟩;have q1:=aL.upd h1 (o:=.lst (fh [.ref wa,.int (d.l:Int),.int (d.r:Int)] (some 1) none));refine⟨_,rfl,1,rfl,b',_,rfl,.of (q1 _ _ gb),λx2 h2=>?_⟩;have q2:=aL.upd h2 (o:=.lst (fh [.ref wb,.int (e.l:Int),.int (e.r:Int)] (some 1) none));have q3:=q1.trans q2;refine⟨.list [.int (d.l:Int),.int (d.r:Int)],.list [.int (e.l:Int),.int (e.r:Int)],.list (.of (q2 _ _ aQ)) (.cons (.int _) (.cons (.int _) .nil)),.list (.of aQ) (.cons (.int _) (.cons (.int _) .nil)),tV _ _,tV _ _,_,rfl,?_⟩;by_cases hs:d.bz=e.bz
     ·refine Iu (Ue hs) ?_;refine⟨_,rfl,_,rfl,_,rfl,_,rfl,_,_,rfl,rfl,_,rfl,lc,_,rfl,.of (q3 _ _ g6),λx3 h3=>?_⟩;rw[EV];have q4:=q3.trans (aL.upd h3 (o:=.lst (m3.map V.int)));refine⟨x3,m3,rfl,.of aQ,_,_,rfl,rfl,⟨by decide,by decide⟩,_,_,rfl,rfl,(by show(0:Int)<5;decide),rfl,_,rfl,tU (λ_=>?_) (λ_=>jt q4)⟩;obtain⟨f1,f2⟩:=lY rfl;have ds:=jQ.ds;have es:=jQ.es;show cI (dj (cS _) (bN 4)) (dj (cS _) (bN 5)) _ _ _;refine i7 ?_;refine Ud (K:=K) (i:=4) rfl (jQ.ha.mono q4) (by lia) λx H8 t8 hx=>?_;refine Ud (K:=K) (i:=5) rfl (jQ.hb.mono (q4.trans t8)) (by lia) λy H9 t9 hy=>?_;have t:=q4.trans (t8.trans t9);refine hN _ _ ⟨⟨t _ _ g6,sX.mono t⟩,x,y,.aZ (.back d) d,.aZ (.back e) e,rfl,⟨hx.mono t9,hy,⟨jQ.dw,jQ.dw,rfl⟩,⟨jQ.ew,jQ.ew,rfl⟩,⟨jQ.dn,jQ.dn,?_⟩,⟨jQ.en,jQ.en,?_⟩,?_,?_,?_,?_⟩⟩
      ·show d.r+d.r≤64;lia
      ·show e.r+e.r≤64;lia
      ·show(D1.Wd.w "then"::((D1.Wd.w "back"::d.aN)++d.aN)).length≤150;rw[eO,bK,eO];lia
      ·show(D1.Wd.w "then"::((D1.Wd.w "back"::e.aN)++e.aN)).length≤150;rw[eO,bK,eO];lia
      ·show d.r+d.r≤16;lia
      ·show e.r+e.r≤16;lia
     ·exact Iq (Ug hs) (jt q3)
  clear jQ g6 sX ga jo gb sU lY;rintro σ H7 ⟨⟨g7,xp⟩,a2,b2,d2,e2,rfl,tw⟩;have ds:=tw.ds;have es:=tw.es;have ld:=tw.ld;have le:=tw.le;have fin:∀{H8:Hp},H8 lc=some (.lst (cs.map V.int))→fi H8 Pt (ig fX) ij→∀H9,aL (S21.del Pt H8) H9→H9 lc=some (.lst (cs.map V.int)):=λg8 LT8 H9 t=>by
   obtain⟨ps,hP⟩:=LT8.tab;exact t _ _ (As hP g8)
  refine⟨_,rfl,wt,rfl,?_⟩;cases wt with
  |true=>
   refine dy ⟨_,rfl,_,rfl,_,rfl,_,rfl,_,rfl,_,rfl,_,_,rfl,rfl,_,rfl,lc,_,rfl,.of g7,λx1 h1=>?_⟩;rw[EV];have q1:=aL.upd h1 (o:=.lst (m3.map V.int));refine⟨x1,m3,rfl,.of aQ,_,_,rfl,rfl,⟨by decide,by decide⟩,p,_,a2,b2,d2,e2,rfl,tw.ha.mono q1,tw.hb.mono q1,tw.dw,tw.ew,tw.dn,by lia,by lia,by lia,by lia,by lia,by lia,λt u v d' e' H9 t9 gt jL hv' w1 w2 hl n1 n2=>adG (.of gt) ?_⟩;have q2:=q1.trans t9;refine⟨_,rfl,true,rfl,dy ?_⟩;refine⟨_,rfl,_,rfl,_,rfl,_,rfl,adE jL hv' (xp.mono q2) pp w1 w2 (by lia) (by lia) hl λyd Ay Az=>⟨true,rfl,cD ?_⟩⟩;exact⟨⟨fin (q2 _ _ g7) (xp.mono q2) _ Ay,Az⟩,_,_,_,_,_,_,rfl⟩
  |false=>
   refine cD ⟨_,rfl,false,rfl,cD ?_⟩;obtain⟨wa,ga,jo⟩:=tw.ha;obtain⟨wb,gb,sU⟩:=tw.hb;refine⟨_,rfl,1,rfl,a2,_,rfl,.of ga,λx1 h1=>?_⟩;have q1:=aL.upd h1 (o:=.lst (fh [.ref wa,.int (d2.l:Int),.int (d2.r:Int)] (some 1) none));refine⟨_,rfl,1,rfl,b2,_,rfl,.of (q1 _ _ gb),λx2 h2=>?_⟩;have q2:=aL.upd h2 (o:=.lst (fh [.ref wb,.int (e2.l:Int),.int (e2.r:Int)] (some 1) none));have q3:=q1.trans q2;refine⟨.list [.int (d2.l:Int),.int (d2.r:Int)],.list [.int (e2.l:Int),.int (e2.r:Int)],.list (.of (q2 _ _ aQ)) (.cons (.int _) (.cons (.int _) .nil)),.list (.of aQ) (.cons (.int _) (.cons (.int _) .nil)),tV _ _,tV _ _,_,rfl,?_⟩;by_cases hs:d2.bz=e2.bz
   ·refine He (Ue hs) ?_;refine⟨_,rfl,_,rfl,_,rfl,p,a2,b2,d2,e2,rfl,pp,tw.ha.mono q3,tw.hb.mono q3,tw.dw,tw.ew,tw.dn,tw.en,hs,by lia,by lia,by lia,xp.mono q3,λyd Ay Az=>⟨true,rfl,cD ?_⟩⟩;exact⟨⟨fin (q3 _ _ g7) (xp.mono q3) _ Ay,Az⟩,_,_,_,_,_,_,rfl⟩
   ·refine Ip (Ug hs) ?_;refine⟨_,rfl,_,rfl,_,rfl,_,rfl,adF (Ez (tw.ha.mono q3)) (Ez (tw.hb.mono q3)) (xp.mono q3) (Drw.md (mi tw.dw)) (Drw.md (mi tw.ew)) (by rw[lF,ba];lia) (by rw[lF,ba];lia) (λz=>hs ((pE d2).symm.trans (z.trans (pE e2)))) λyd Ay Az=>⟨true,rfl,cD ?_⟩⟩;exact⟨⟨fin (q3 _ _ g7) (xp.mono q3) _ Ay,Az⟩,_,_,_,_,_,_,rfl⟩
noncomputable def pQ(K:Frag)(x:Str):Addr:=match nsIn K mainGlobals x with
 |some (some (.ref a))=>a
 |_=>0
noncomputable def AA(K:Frag)(x:Str):Bool:=match nsIn K mainGlobals x with
 |some (some (.ref _))=>true
 |_=>false
theorem K5{K:Frag}{x:Str}(h:AA K x=true):nsIn K mainGlobals x=some (some (.ref (pQ K x))):=by
 unfold AA at h;split at h
 case h_2=>cases h
 case h_1 a e=>
  unfold pQ;rw[e]
noncomputable def xq(K:Frag):Bool:=AA K "PARTS"&&AA K "SIDES"&&AA K "BOX_ROWS"&&Cn K (pQ K "PARTS")&&decide (gj K (pQ K "PARTS")=CV)&&zf K (pQ K "SIDES") (pQ K "BOX_ROWS")
section
variable{K:Frag}{h:Heap}{mg:Str→Option Value}
theorem uN(X:K.In h)(G:h.Ns mainGlobals mg)(e:xq K=true):Parts K mg (pQ K "PARTS"):=by
 simp only[xq,eF,aH]at e;obtain⟨⟨⟨⟨⟨e1,_⟩,_⟩,e4⟩,e5⟩,_⟩:=e;exact⟨de X G (K5 e1),λh X=>e5▸HM X e4⟩
theorem uO(X:K.In h)(G:h.Ns mainGlobals mg)(e:xq K=true):pe K mg (pQ K "SIDES") (pQ K "BOX_ROWS"):=by
 simp only[xq,eF,aH]at e;obtain⟨⟨⟨⟨⟨_,e2⟩,e3⟩,_⟩,_⟩,e6⟩:=e;exact⟨de X G (K5 e2),de X G (K5 e3),e6⟩
end
noncomputable def K6(K:Frag):Bool:=xq K&&zp K (pQ K "SIDES")
theorem my{K:Frag}(e:K6 K=true):xq K=true:=(eF _ _▸e:_∧_).1
theorem K7{K:Frag}(e:K6 K=true):zp K (pQ K "SIDES")=true:=(eF _ _▸e:_∧_).2
theorem sZ(h:∀a0,bindArgs fd ⟨[a0],[]⟩=pure (ps.zip [a0])):∀(us:List Value),us.length=1→bindArgs fd ⟨us,[]⟩=pure (ps.zip us)
 | [a0],_=>h a0
theorem mx(h:∀a0 a1,bindArgs fd ⟨[a0,a1],[]⟩=pure (ps.zip [a0,a1])):∀(us:List Value),us.length=2→bindArgs fd ⟨us,[]⟩=pure (ps.zip us)
 | [a0,a1],_=>h a0 a1
theorem i8(h:∀a0 a1 a2,bindArgs fd ⟨[a0,a1,a2],[]⟩=pure (ps.zip [a0,a1,a2])):∀(us:List Value),us.length=3→bindArgs fd ⟨us,[]⟩=pure (ps.zip us)
 | [a0,a1,a2],_=>h a0 a1 a2
theorem uP(h:∀a0 a1 a2 a3,bindArgs fd ⟨[a0,a1,a2,a3],[]⟩=pure (ps.zip [a0,a1,a2,a3])):∀(us:List Value),us.length=4→bindArgs fd ⟨us,[]⟩=pure (ps.zip us)
 | [a0,a1,a2,a3],_=>h a0 a1 a2 a3
structure FA(K:Frag)(x:Str)(st:Stmt)(f:Addr)(fd:FuncData):Prop where
 a:nsIn K mainGlobals x=some (some (.ref f))
 F:bZ K x x st f fd
 k:keepIn K (.ref f)=true
theorem FA.of{K:Frag}{x:Str}{st:Stmt}{od an:Option Addr}{sl:Array (Option Value)}{oc kV dc pm cd ct:Value}(a:nsIn K mainGlobals x=some (some (.ref f)))(l:K.lookup f=some ⟨oc,od,.func (fnOf x x (qN st) (kz st) (bq st) .none kV dc pm an cd ct),sl⟩)(c:PySem.W.codeIn K cd x=true)(k:keepIn K (.ref f)=true):FA K x st f (fnOf x x (qN st) (kz st) (bq st) .none kV dc pm an cd ct):=⟨a,Gk l c k,k⟩
theorem all_mk{l:PySem.W.OpenLaw}{w:World}{K:Frag}{h:Heap}{mg:Str→Option Value}{fa f1 f2 f3 f4 f5 f6 f7 f8 f9 f10 f11 f12 f13 f14 f15 f16 K8 f18 f19 f20 f21 f22 f23 f24 f25 f26 f27 f28 f29 f30 f31 f32 f33 f34 f35 f36 f37 f38 f39 f40 f41 f42 f43 f44 f45 K9:Addr}(X:K.In h)(G:h.Ns mainGlobals mg)(hfa:mg "law"=some (.ref fa))
  {adJ adK adL Us:Option Addr} {adM adN:Array (Option Value)} {adO adP adQ adR Ut adS adT Uu Uv Uw La Ux:Value} {d1 d2 d3 d4 d5 d6 d7 d8 d9 d10 d11 Nf d13 d14 d15 d16 d18 d19 d20 d21 d22 d23 d24 d25 d26 d27 d28 d29 d30 d31 d32 d33 d34 d35 d36 d37 d38 d39 d40 d41 d42 d43 d44 d45:FuncData}
  (A1:FA K "turned" yU f1 d1)
  (A2:FA K "added" rd f2 d2)
  (A3:FA K "summed" yV f3 d3)
  (A4:FA K "reduced" vV f4 d4)
  (A5:FA K "led" Cp f5 d5)
  (A6:FA K "cleared" Cq f6 d6)
  (A7:FA K "first_place" Cr f7 d7)
  (A8:FA K "factors_of" yX f8 d8)
  (A9:FA K "wires" Ct f9 d9)
  (A10:FA K "folded" HU f10 d10)
  (A11:FA K "all_folded" Cu f11 d11)
  (A12:FA K "measured" Cv f12 Nf)
  (A13:FA K "measure" vW f13 d13)
  (A14:FA K "joined_sides" HV f14 d14)
  (A15:FA K "first_unmet" Cw f15 d15)
  (A16:FA K "plain" Cy f16 d16)
  (a17:nsIn K mainGlobals "forms"=some (some (.ref K8))) (l17:K.lookup K8=some ⟨adO,adJ,.func (fnOf "forms" "forms" (qN jF) (kz jF) (bq jF) .none adP adQ adR adK Ut adS),adM⟩) (c17:PySem.W.codeIn K Ut "forms"=true) (k17:keepIn K (.ref K8)=true)
  (A18:FA K "refuse_late" Cz f18 d18)
  (A19:FA K "form" HW f19 d19)
  (A20:FA K "form_of_back" CA f20 d20)
  (A21:FA K "form_of_beside" yY f21 d21)
  (A22:FA K "form_of_then" CB f22 d22)
  (A23:FA K "facing" yZ f23 d23)
  (A24:FA K "compared" y3 f24 d24)
  (A25:FA K "refuse_sides" CC f25 d25)
  (A26:FA K "row_outside" HX f26 d26)
  (A27:FA K "_law_prime" HY f27 d27)
  (A28:FA K "_law_cleared" rf f28 d28)
  (A29:FA K "_law_less" CF f29 d29)
  (A30:FA K "_law_reduced" CG f30 d30)
  (A31:FA K "_law_box" HZ f31 d31)
  (A32:FA K "_law_then" vX f32 d32)
  (A33:FA K "_law_beside" Ia f33 d33)
  (A34:FA K "_law_meaning" CH f34 d34)
  (A35:FA K "_law_some_box" Ib f35 d35)
  (A36:FA K "_law_beside_all" CI f36 d36)
  (A37:FA K "_law_more" Ic f37 d37)
  (A38:FA K "_law_grown" Ie f38 d38)
  (A39:FA K "_law_swapped" Ig f39 d39)
  (A40:FA K "_law_other" Ih f40 d40)
  (A41:FA K "_law_waiting" Ii f41 d41)
  (A42:FA K "_law_pair" Ij f42 d42)
  (A43:FA K "_law_refused" CJ f43 d43)
  (A44:FA K "_law_spans" Ik f44 d44)
  (A45:FA K "_law_told" Il f45 d45)
  (a46:nsIn K mainGlobals "law"=some (some (.ref K9))) (l46:K.lookup K9=some ⟨adT,adL,.func (fnOf "law" "law" (qN rg) (kz rg) (bq rg) .none Uu Uv Uw Us La Ux),adN⟩) (c46:PySem.W.codeIn K La "law"=true) (k46:keepIn K (.ref K9)=true)
  (z1:nsIn K mainGlobals "range"=some none) (z2:nsIn K mainGlobals "zip"=some none) (z3:nsIn K mainGlobals "tuple"=some none) (z4:nsIn K mainGlobals "list"=some none) (z5:nsIn K mainGlobals "int"=some none) (z6:nsIn K mainGlobals "bool"=some none) (z7:nsIn K mainGlobals "isinstance"=some none) (z8:nsIn K mainGlobals "len"=some none) (z9:nsIn K mainGlobals "sum"=some none) (z10:nsIn K mainGlobals "max"=some none) (z11:nsIn K mainGlobals "min"=some none) (z12:nsIn K mainGlobals "enumerate"=some none) (z13:nsIn K mainGlobals "any"=some none) (z14:nsIn K mainGlobals "all"=some none) (hs1:(tabIn K "forms").isSome=true) (hx1:K6 K=true) (hx2:Kz K=true) :
  ∃fd:FuncData,(∀(s:Shared)(v:Value),BindsTo s fd ⟨[v],[]⟩ [("script",v)])∧∀base:Heap,K.In base→base.Ns mainGlobals mg→sj mg base→(∀q∈[og K "forms"],CodeHd base q.1 q.2)→bf l.prog w K mg base bj 64 fa fd ["script"] (ET K (og K "forms").2):=by
 have e:=hfa.symm.trans (de X G a46);cases e;have T:Txt mg:=⟨mH X G z1,mH X G z2,mH X G z3,mH X G z4,mH X G z5,mH X G z6,mH X G z7,mH X G z8,mH X G z9,mH X G z10,mH X G z11,mH X G z12,mH X G z13,mH X G z14⟩;obtain⟨a1,F1,k1⟩:=A1;obtain⟨a2,F2,k2⟩:=A2;obtain⟨a3,F3,k3⟩:=A3;obtain⟨a4,F4,k4⟩:=A4;obtain⟨a5,F5,k5⟩:=A5;obtain⟨a6,F6,k6⟩:=A6;obtain⟨a7,F7,k7⟩:=A7;obtain⟨a8,F8,k8⟩:=A8;obtain⟨a9,F9,k9⟩:=A9;obtain⟨a10,xr,AB⟩:=A10;obtain⟨a11,tm,uQ⟩:=A11;obtain⟨a12,xt,AD⟩:=A12;obtain⟨a13,pR,k13⟩:=A13;obtain⟨a14,EW,Lb⟩:=A14;obtain⟨a15,EX,Lc⟩:=A15;obtain⟨a16,EY,Uy⟩:=A16;have EZ:=Gk (st:=jF) l17 c17 k17;obtain⟨a18,E2,Ld⟩:=A18;obtain⟨a19,Le,Uz⟩:=A19;obtain⟨a20,Lf,UA⟩:=A20;obtain⟨a21,Lg,UB⟩:=A21;obtain⟨a22,Lh,UC⟩:=A22;obtain⟨a23,Li,UD⟩:=A23;obtain⟨a24,E3,UE⟩:=A24;obtain⟨a25,E4,Lj⟩:=A25;obtain⟨a26,UG,k26⟩:=A26;obtain⟨a27,UH,k27⟩:=A27;obtain⟨a28,E5,Lk⟩:=A28;obtain⟨a29,E6,Lm⟩:=A29;obtain⟨a30,UI,k30⟩:=A30;obtain⟨a31,UJ,k31⟩:=A31;obtain⟨a32,UK,k32⟩:=A32;obtain⟨a33,UL,k33⟩:=A33;obtain⟨a34,UM,k34⟩:=A34;obtain⟨a35,Lo,UN⟩:=A35;obtain⟨a36,E7,Lp⟩:=A36;obtain⟨a37,UO,k37⟩:=A37;obtain⟨a38,UP,k38⟩:=A38;obtain⟨a39,UQ,k39⟩:=A39;obtain⟨a40,UR,k40⟩:=A40;obtain⟨a41,US,k41⟩:=A41;obtain⟨a42,UT,k42⟩:=A42;obtain⟨a43,UU,k43⟩:=A43;obtain⟨a44,UW,k44⟩:=A44;obtain⟨a45,UX,k45⟩:=A45;have F46:=Gk (st:=rg) l46 c46 k46;have b1:=F1.binds (ps:=["p","number"]) λ_ _ _ _ _ _=>mx λ_ _=>rfl;have m1:=de X G a1;have b2:=F2.binds (ps:=["p","row","factor","other"]) λ_ _ _ _ _ _=>uP λ_ _ _ _=>rfl;have m2:=de X G a2;have b3:=F3.binds (ps:=["p","rows","factors","length"]) λ_ _ _ _ _ _=>uP λ_ _ _ _=>rfl;have m3:=de X G a3;have b4:=F4.binds (ps:=["p","rows"]) λ_ _ _ _ _ _=>mx λ_ _=>rfl;have m4:=de X G a4;have b5:=F5.binds (ps:=["p","row","place"]) λ_ _ _ _ _ _=>i8 λ_ _ _=>rfl;have m5:=de X G a5;have b6:=F6.binds (ps:=["p","row","lead","place"]) λ_ _ _ _ _ _=>uP λ_ _ _ _=>rfl;have m6:=de X G a6;have b7:=F7.binds (ps:=["row"]) λ_ _ _ _ _ _=>sZ λ_=>rfl;have m7:=de X G a7;have b8:=F8.binds (ps:=["p","rows","row"]) λ_ _ _ _ _ _=>i8 λ_ _ _=>rfl;have m8:=de X G a8;have b9:=F9.binds (ps:=["words"]) λ_ _ _ _ _ _=>sZ λ_=>rfl;have m9:=de X G a9;have AE:=xr.binds (ps:=["words","made"]) λ_ _ _ _ _ _=>mx λ_ _=>rfl;have AF:=de X G a10;have uR:=tm.binds (ps:=["words","made"]) λ_ _ _ _ _ _=>mx λ_ _=>rfl;have uS:=de X G a11;have AG:=xt.binds (ps:=["words"]) λ_ _ _ _ _ _=>sZ λ_=>rfl;have AH:=de X G a12;have AI:=pR.binds (ps:=["place","word","parts"]) λ_ _ _ _ _ _=>i8 λ_ _ _=>rfl;have AJ:=de X G a13;have Lq:=EW.binds (ps:=["word","parts"]) λ_ _ _ _ _ _=>mx λ_ _=>rfl;have Lr:=de X G a14;have Lu:=EX.binds (ps:=["parts"]) λ_ _ _ _ _ _=>sZ λ_=>rfl;have Lv:=de X G a15;have UY:=EY.binds (ps:=["p","words"]) λ_ _ _ _ _ _=>mx λ_ _=>rfl;have UZ:=de X G a16;have Lx:=EZ.binds (ps:=["p","words"]) λ_ _ _ _ _ _=>mx λ_ _=>rfl;have Ly:=de X G a17;have Lz:=E2.binds (ps:=["words"]) λ_ _ _ _ _ _=>sZ λ_=>rfl;have LB:=de X G a18;have U0:=Le.binds (ps:=["p","word","parts"]) λ_ _ _ _ _ _=>i8 λ_ _ _=>rfl;have U1:=de X G a19;have U2:=Lf.binds (ps:=["p","one"]) λ_ _ _ _ _ _=>mx λ_ _=>rfl;have U3:=de X G a20;have U4:=Lg.binds (ps:=["p","one","other"]) λ_ _ _ _ _ _=>i8 λ_ _ _=>rfl;have U5:=de X G a21;have U6:=Lh.binds (ps:=["p","one","other"]) λ_ _ _ _ _ _=>i8 λ_ _ _=>rfl;have U7:=de X G a22;have U8:=Li.binds (ps:=["p","one","other"]) λ_ _ _ _ _ _=>i8 λ_ _ _=>rfl;have U9:=de X G a23;have Va:=E3.binds (ps:=["p","one","other"]) λ_ _ _ _ _ _=>i8 λ_ _ _=>rfl;have Vb:=de X G a24;have LC:=E4.binds (ps:=["one","other"]) λ_ _ _ _ _ _=>mx λ_ _=>rfl;have LD:=de X G a25;have b26:=UG.binds (ps:=["p","rows","others"]) λ_ _ _ _ _ _=>i8 λ_ _ _=>rfl;have m26:=de X G a26;have b27:=UH.binds (ps:=["cell"]) λ_ _ _ _ _ _=>sZ λ_=>rfl;have m27:=de X G a27;have LF:=E5.binds (ps:=["p","rows","places"]) λ_ _ _ _ _ _=>i8 λ_ _ _=>rfl;have LG:=de X G a28;have LH:=E6.binds (ps:=["p","row","head","place"]) λ_ _ _ _ _ _=>uP λ_ _ _ _=>rfl;have LI:=de X G a29;have b30:=UI.binds (ps:=["p","rows","size"]) λ_ _ _ _ _ _=>i8 λ_ _ _=>rfl;have m30:=de X G a30;have b31:=UJ.binds (ps:=["p","word","number"]) λ_ _ _ _ _ _=>i8 λ_ _ _=>rfl;have m31:=de X G a31;have b32:=UK.binds (ps:=["p","one","other"]) λ_ _ _ _ _ _=>i8 λ_ _ _=>rfl;have m32:=de X G a32;have b33:=UL.binds (ps:=["one","other"]) λ_ _ _ _ _ _=>mx λ_ _=>rfl;have m33:=de X G a33;have b34:=UM.binds (ps:=["p","words"]) λ_ _ _ _ _ _=>mx λ_ _=>rfl;have m34:=de X G a34;have Vc:=Lo.binds (ps:=["p","cell"]) λ_ _ _ _ _ _=>mx λ_ _=>rfl;have Vd:=de X G a35;have LJ:=E7.binds (ps:=["parts"]) λ_ _ _ _ _ _=>sZ λ_=>rfl;have LK:=de X G a36;have b37:=UO.binds (ps:=["p","one","cell","most"]) λ_ _ _ _ _ _=>uP λ_ _ _ _=>rfl;have m37:=de X G a37;have b38:=UP.binds (ps:=["p","cells","most"]) λ_ _ _ _ _ _=>i8 λ_ _ _=>rfl;have m38:=de X G a38;have b39:=UQ.binds (ps:=["p","words","cell"]) λ_ _ _ _ _ _=>i8 λ_ _ _=>rfl;have m39:=de X G a39;have b40:=UR.binds (ps:=["p","one","cell","next_one"]) λ_ _ _ _ _ _=>uP λ_ _ _ _=>rfl;have m40:=de X G a40;have b41:=US.binds (ps:=["one","cell"]) λ_ _ _ _ _ _=>mx λ_ _=>rfl;have m41:=de X G a41;have b42:=UT.binds (ps:=["one","other","cell"]) λ_ _ _ _ _ _=>i8 λ_ _ _=>rfl;have m42:=de X G a42;have b43:=UU.binds (ps:=["p","one","other","waits"]) λ_ _ _ _ _ _=>uP λ_ _ _ _=>rfl;have m43:=de X G a43;have b44:=UW.binds (ps:=["p","rows","row"]) λ_ _ _ _ _ _=>i8 λ_ _ _=>rfl;have m44:=de X G a44;have b45:=UX.binds (ps:=["p","one","other"]) λ_ _ _ _ _ _=>i8 λ_ _ _=>rfl;have m45:=de X G a45;exact⟨fnOf "law" "law" (qN rg) (kz rg) (bq rg) .none Uu Uv Uw Us La Ux,λs v=>.of_eq rfl,λbase _ _ bb cc=>adI F46 T (abQ UH) k27 b27 m27 (ac1 UP T (SM Lo) UN Vc Vd (ac0 UO T (SM Lo) UN Vc Vd (SO E7) Lp LJ LK) k37 b37 m37) k38 b38 m38 (adA UR (ada UQ T) k39 b39 m39 (SO E7) Lp LJ LK) k40 b40 m40 (adz UT (ady US T (adu E7) Lp LJ LK) k41 b41 m41) k42 b42 m42 (adH UU T (KC X G hx2) (adk E3 (Rm E4) Lj LC LD (Jz F9 (Jy xt (zg xr (uk tm T (uN X G (my hx1))) uQ uR uS) AB AE AF (Jw pR (uO X G (my hx1)) (K7 hx1) (Jt EX) Lc Lu Lv (Ju EW) Lb Lq Lr) pR AI AJ) AD AG AH) k9 b9 m9 (Qo EY (Qn EZ (OL a17 l17 (HK hs1)) (cc _ dN) bb (PL E2) Ld Lz LB (uk tm T (uN X G (my hx1))) uQ uR uS (Qd Le (uO X G (my hx1)) (Pz Lf (uh F4 T F2 b2 m2 F1 b1 m1 F3 b3 m3 F6 b6 m6 F5 b5 m5) k4 b4 m4) UA U2 U3 (P4 Lg (uh F4 T F2 b2 m2 F1 b1 m1 F3 b3 m3 F6 b6 m6 F5 b5 m5) k4 b4 m4) UB U4 U5 (P8 Lh T (uh F4 T F2 b2 m2 F1 b1 m1 F3 b3 m3 F6 b6 m6 F5 b5 m5) k4 b4 m4 (P7 Li T) UD U8 U9) UC U6 U7 (Px F9 (Pu xt (zg xr (uk tm T (uN X G (my hx1))) uQ uR uS) AB AE AF (Po pR (uO X G (my hx1))) pR AI AJ) AD AG AH) k9 b9 m9) Uz U0 U1) k17 Lx Ly) Uy UY UZ (adh EY (adg EZ (adf E2 (KC X G hx2).L) Ld Lz LB) k17 Lx Ly)) ((adj E3 (adi E4 (KC X G hx2).S) Lj LC LD (Jz F9 (Jy xt (zg xr (uk tm T (uN X G (my hx1))) uQ uR uS) AB AE AF (Jw pR (uO X G (my hx1)) (K7 hx1) (Jt EX) Lc Lu Lv (Ju EW) Lb Lq Lr) pR AI AJ) AD AG AH) k9 b9 m9).mono (by decide)) UE Va Vb) k43 b43 m43 (adn UX T (abN E3 (Rm E4) Lj LC LD (Jz F9 (Jy xt (zg xr (uk tm T (uN X G (my hx1))) uQ uR uS) AB AE AF (Jw pR (uO X G (my hx1)) (K7 hx1) (Jt EX) Lc Lu Lv (Ju EW) Lb Lq Lr) pR AI AJ) AD AG AH) k9 b9 m9 (Qo EY (Qn EZ (OL a17 l17 (HK hs1)) (cc _ dN) bb (PL E2) Ld Lz LB (uk tm T (uN X G (my hx1))) uQ uR uS (Qd Le (uO X G (my hx1)) (Pz Lf (uh F4 T F2 b2 m2 F1 b1 m1 F3 b3 m3 F6 b6 m6 F5 b5 m5) k4 b4 m4) UA U2 U3 (P4 Lg (uh F4 T F2 b2 m2 F1 b1 m1 F3 b3 m3 F6 b6 m6 F5 b5 m5) k4 b4 m4) UB U4 U5 (P8 Lh T (uh F4 T F2 b2 m2 F1 b1 m1 F3 b3 m3 F6 b6 m6 F5 b5 m5) k4 b4 m4 (P7 Li T) UD U8 U9) UC U6 U7 (Px F9 (Pu xt (zg xr (uk tm T (uN X G (my hx1))) uQ uR uS) AB AE AF (Po pR (uO X G (my hx1))) pR AI AJ) AD AG AH) k9 b9 m9) Uz U0 U1) k17 Lx Ly) Uy UY UZ (abL UG (abr F8 T (uh F4 T F2 b2 m2 F1 b1 m1 F3 b3 m3 F6 b6 m6 F5 b5 m5) k4 b4 m4 (aan F7 T) k7 b7 m7) k8 b8 m8) k26 b26 m26) UE Va Vb (acJ UM T (acf UK T (RX E5 T (JP E6 T) Lm LH LI) Lk LF LG) k32 b32 m32 (acb UL) k33 b33 m33 (ab9 UJ) k31 b31 m31 (ab0 UI T (RX E5 T (JP E6 T) Lm LH LI) Lk LF LG) k30 b30 m30) k34 b34 m34 (ab1 UW T (RI E5 T (JP E6 T) Lm LH LI) Lk LF LG) k44 b44 m44) k45 b45 m45⟩
theorem walk{l:PySem.W.OpenLaw}{q:Program}{vw:List Str}{XP:(Str→Option Value)→Heap→Prop}{YP:World→Heap→Prop}{d:DefRec}{K:Params→Frag}(hn:l.most=some 63)(x5:d.params.defaults=[])
  (hY:∀(w:World)(h:Heap),YP w h→(K w.params).In h) (noT:∀w:World,PySem.W.noTabs (K w.params)=true)
  (hT:∀(w:World){yS:ExcName→Option Value}{lo:List Str}{mg mb:Str→Option Value}{h:Heap},PyProof.Rows.Top q lo yS mg mb h→(K w.params).In h→PySem.W.TabsAt [og (K w.params) "forms"] h)
  (F:∀(w:World)(mg:Str→Option Value)(fa:Addr)(h:Heap),(K w.params).In h→h.Ns mainGlobals mg→mg d.name=some (.ref fa)→
   ∃fd:FuncData,(∀(s:Shared)(u:Value),BindsTo s fd ⟨[u],[]⟩ [("script",u)])∧∀base:Heap,(K w.params).In base→base.Ns mainGlobals mg→sj mg base→(∀q∈[og (K w.params) "forms"],CodeHd base q.1 q.2)→bf l.prog w (K w.params) mg base bj 64 fa fd ["script"] (ET (K w.params) (og (K w.params) "forms").2)) :
  PySem.W.WalkO q vw XP YP l.row.toRowW d [] (λf vs=>PySem.call f vs):=
 L2.ZM (n:=63) (k:=64) (x := "script") (tabs:=λw=>[og (K w.params) "forms"]) (sp:=λw=>ET (K w.params) (og (K w.params) "forms").2) hn (by decide) x5 ⟨rfl,by decide,by decide⟩ hY noT hT F λ_ _ a ns hl hS vQ=>⟨a,ns,rfl,hS,hl,.inl (vQ _ dN),λ_=>rfl⟩
end S21
structure PySem.W.Fast:Prop where
 (tw7585713812260888240 tw16170053879374000851 tw1138221195554274761 tw7035084744642889774 tw5692036028349413125 tw3161298567087199839 tw3235007068520549327 tw16026633339571469718 tw7885204190357993629 tw14060372066818238282 tw12781610808484647362 tw1202424303748452920 tw11195452892806058862 tw14557998123690649287 tw12201461225720630484 tw9150798248829157354 tw6274464869607000727 tw4559353537948395006 tw9849561065264713833 tw17491443364043535238 tw14168367981220006970 tw13835362477096500862 tw7325315048086641936 tw13663627530105161607 tw18394475593801658934 tw4196927008210652358 tw18153248786715608547 tw1524830137031011777 tw12566638423719027279 tw4683265518296274102 tw10581604090864336435 tw12822621762824259074 tw11799954738895196962 tw11267541533009429105 tw17457477710353818649 tw16130005767253378481 tw2485251462420613512 tw126962329510165098 tw363613312933344768 tw12723421745296213047 tw10194968887227096673 tw15538642576795603909 tw3778329945147217030 tw5485319655319043910 tw17884924444619765384 tw6343688316493590478 tw15464092857780694332 tw9066986553999000974 tw2212692513890213448 tw11005642700635062165 tw12051471981002956990 tw15709283680207312755 tw2592664333569731232 tw8522676539072574611 tw2830198527269515705 tw5030934230196722659 tw4159668089143193558 tw8741677399499426517 tw17364818538826932778 tw15964101822540968574 tw7184717475705415583 tw11503502100718731946 tw1340626092660133403 tw10318659237677431471 tw4510549822656034855 tw17488657877981027061 tw14273168458600686175 tw18285451583624927760 tw336635223713505389 tw16757401678120941876 tw2745599427244121522 tw7710560508816013053 tw17945181613266815025 tw11198344910047822007 tw6725248305109229570 tw7937376170862733491 tw2416418914347908591 tw1179868357584104784 tw15765384553643376193 tw1057849570550032156 tw7762657395213129354 tw13195592069677663370 tw5640539158467242798 tw15542542566943963950 tw3626737068522335560 tw8149241271952112108 tw14281453142527721035 tw17861671753362535338 tw4453306895340668483 tw5192671398971562293 tw7246457561611918013 tw5719111377184144139 tw8831062226661676496 tw15946761307110476317 tw5342588195489963453 tw13892919695816316181 tw5653281362026989136 tw7763111248108274937 tw6542085404369975568 tw15190045533574086673:True)
open PySem PySem.W PyProof.Rows
set_option maxRecDepth 100000 in
set_option maxHeartbeats 0 in
theorem PySem.Challenge.cw_bentwires_k41_compared_holds : PySem.Challenge.rw_bentwires_k41_compared.Holds := by
 w_on;o_law;k_head;(case hw=>w_witness2)
 k_fill
 refine S21.walk (l:=PySem.Challenge.rw_bentwires_k41_compared) rfl rfl (fun w h Y=>PySem.W.km_in_of Y) ?noT ?hT ?F
 (case noT=>exact fun w=>by kernel_rfl)
 (case hT=>exact fun w {_ _ _ _ _} T X=>L2.tabs_cons T X rfl (by kernel_rfl) (L2.tabs_nil))
 case F =>
  intro w mg fa h KX G hmg
  refine' S21.all_mk KX G hmg ?_ ?_ ?_ ?_ ?_ ?_ ?_ ?_ ?_ ?_ ?_ ?_ ?_ ?_ ?_ ?_ ?a17 ?l17 ?c17 ?k17 ?_ ?_ ?_ ?_ ?_ ?_ ?_ ?_ ?_ ?_ ?_ ?_ ?_ ?_ ?_ ?_ ?_ ?_ ?_ ?_ ?_ ?_ ?_ ?_ ?_ ?_ ?_ ?_ ?a46 ?l46 ?c46 ?k46 ?z1 ?z2 ?z3 ?z4 ?z5 ?z6 ?z7 ?z8 ?z9 ?z10 ?z11 ?z12 ?z13 ?z14 ?hs1 ?hx1 ?hx2
  (case a17=>k_is)
  (case l17=>k_is)
  (case c17=>k_is)
  (case k17=>k_is)
  (case a46=>k_is)
  (case l46=>k_is)
  (case c46=>k_is)
  (case k46=>k_is)
  (case hs1=>kernel_rfl)
  (case hx1=>kernel_rfl)
  (case hx2=>kernel_rfl)
  any_goals refine' S21.FA.of ?_ ?_ ?_ ?_
  any_goals k_is

import PyProof.Rows.All
import KE.KItemsList
import PyProof.AttrMissHeap
import KE.KDictList
import PyProof.CallStr
import PyProof.StrWalks
import PyProof.Rows.StrNews
import PyProof.Rows.StrJoin2
import KE.KIntText
import KE.KTabLook
import KE.KLam
import Wide.All
import OpenK.AllK
import Wide.FinOn
import Lean
import PyProof.EqAt
import PyProof.EqKinds
import PyProof.TupleCall
import PySem.Challenge.RW_bentwires_k51_each_rule
set_option compiler.extract_closed false
set_option maxHeartbeats 3900000
set_option maxRecDepth 100000
set_option Elab.async false
set_option linter.all false
open PySem.W(Frag keepIn nsIn codeIn fnOf kitOne kqdOk Dat)
noncomputable section
abbrev aQ:=@Eq.trans
abbrev bh:=@List.length_append
abbrev br:=@List.length_map
abbrev bH:=@Nat.le_refl
abbrev cg:=@List.getElem?_eq_getElem
abbrev cu:=@List.length_cons
abbrev cX:=@List.mem_singleton
abbrev df:=@List.length_nil
abbrev dq:=@PySem.W.mg_of
abbrev dv:=@List.mem_cons_self
abbrev dB:=@List.getElem?_eq_some_iff
abbrev dC:=@List.size_toArray
abbrev dD:=@List.length_take
abbrev dM:=@List.mem_append
abbrev dN:=@List.mem_map
abbrev dP:=@List.getD_eq_getElem?_getD
abbrev d8:=@List.mem_of_getElem?
abbrev eu:=@Nat.le_trans
abbrev eA:=@List.length_replicate
abbrev eF:=@List.length_drop
abbrev eM:=@Option.some.inj
abbrev eR:=@List.mem_cons_of_mem
abbrev eW:=@PySem.Heap.lt_size
abbrev e9:=@List.mem_cons
abbrev fc:=@PySem.Heap.get?_push_of_some
abbrev fe:=@List.map_append
abbrev fi:=@Bool.false_ne_true
abbrev fj:=@List.getElem?_map
abbrev fq:=@Bool.and_eq_true
abbrev fY:=@List.mem_append_right
abbrev gJ:=@List.append_nil
abbrev iA:=@List.getElem?_append_left
abbrev iJ:=@List.map_cons
abbrev iK:=@List.all_eq_true
abbrev i5:=@List.getElem?_append_right
abbrev i6:=@Int.emod_nonneg
abbrev i7:=@Int.emod_lt_of_pos
abbrev jo:=@Nat.lt_of_lt_of_le
abbrev jq:=@PySem.PassesOwn.never
abbrev jL:=@PySem.Heap.get?_push_size
abbrev jM:=@List.mem_append_left
abbrev jN:=@List.take_add_one
abbrev jO:=@Int.zero_add
abbrev jP:=@PySem.W.mg_none_of
abbrev kc:=@List.getElem?_eq_none
abbrev ke:=@PySem.F.plainAttrs_list
abbrev kO:=@Nat.ne_of_lt
abbrev kQ:=@List.getElem_mem
abbrev mf:=@PySem.W.kia_one
abbrev mh:=@List.take_length
abbrev nM:=@List.lookup_cons
abbrev nN:=@PySem.F.slot_list_append
abbrev nO:=@PySem.F.type_list_append
abbrev nP:=@List.length_take_le
abbrev nQ:=@List.flatMap_cons
abbrev oK:=@Int.mul_sub
abbrev oM:=@Nat.zero_add
abbrev oO:=@List.contains_iff_mem
abbrev pW:=@PySem.mem_of_lookup
abbrev pX:=@List.append_assoc
abbrev pY:=@Int.add_zero
abbrev pZ:=@Int.natCast_add
abbrev rq:=@Nat.lt_irrefl
abbrev rA:=@List.mem_filter
abbrev rB:=@List.take_of_length_le
abbrev rC:=@List.mem_iff_getElem
abbrev rE:=@Nat.le_of_ble_eq_true
abbrev uE:=@List.replicate_succ
abbrev uF:=@List.reverse_append
abbrev uG:=@List.mem_of_mem_eraseIdx
abbrev xh:=@PySem.Calls.spliced_cons
abbrev xi:=@PyProof.Rows.slot_tuple_getitem
abbrev xj:=@List.map_congr_left
abbrev Ag:=@PySem.Calls.callWith_builtin
abbrev Ah:=@PySem.F.slot_dict_get
abbrev Ai:=@List.drop_eq_getElem_cons
abbrev Ej:=@PyProof.Rows.callWith_type1
abbrev Ek:=@Int.mul_le_mul_of_nonneg_left
abbrev ae:=@decide_eq_false
abbrev af:=@if_pos
abbrev ag:=@if_neg
abbrev ah:=@PySem.wpAny_mono
abbrev ai:=@PySem.wpAny_truthy_bool
abbrev aj:=@congrArg
abbrev ak:=@PySem.wpAny_passesOwn
abbrev ao:=@PySem.wpAny_pure
abbrev aq:=@PySem.wpAny_bind
abbrev ar:=@PySem.wpAny_Call_Name_kw
abbrev au:=@PySem.wpAny_loadPart'
abbrev av:=@PySem.wpAny_newObj_type
abbrev ax:=@decide_eq_true
abbrev ay:=@decide_eq_true_eq
abbrev az:=@of_decide_eq_true
abbrev Kp(K:Frag)(f:PySem.Addr):Prop:=keepIn K (.ref f)=true
abbrev Mg(m:PySem.Str→Option PySem.Value)(x:PySem.Str)(f:PySem.Addr):Prop:=m x=some (.ref f)
abbrev QV:=PySem.Value→PySem.Shared→Prop
abbrev LL:=List (List Int)
variable{P:PySem.Program}{w:PySem.World}{K:Frag}{mg:PySem.Str→Option PySem.Value}{base:PySem.Heap}
namespace L2
open PySem PySem.Spec PyProof.Rows
variable{A:Around}{CX:mi}{D:Ends}{E:QV}{H:Hp}{M:Model}{Q:Unit→Shared→Prop}{X:Cx}{a b:Addr}{body:List Stmt}{c e tg:Expr}{ch fp:List Addr}{f:Value→Value→Sem Value}{g:TG}{h:Heap}{i n t':Nat}{op:CmpOp}{aF:List (Addr×Obj)}{ps:List Str}{s:Shared}{tb:TS}{te:TE}{u:Value}{us:List Value}{v:V}{x:Str}{xs:List V}{σ:St}
abbrev Key:=Sum Int Str
noncomputable def rF:Key→Value→Bool
 | .inl k,v=>Value.isInt k v
 | .inr x,v=>Value.isStrOf x v
noncomputable def Ml(w:World):Key→Int
 | .inl k=>hashInt k
 | .inr x=>hashStr w x
theorem mj:∀{k:Key}{v:Value},rF k v=true→(∃i t,k=Sum.inl i∧v=Value.int i t)∨(∃x t,k=Sum.inr x∧v=Value.str x t)
 | .inl i,v,h=>by
  obtain⟨t,e⟩:=Value.isInt_shape (k:=i) (v:=v) h;exact .inl ⟨i,t,rfl,e⟩
 | .inr x,v,h=>by
  obtain⟨t,e⟩:=Value.isStrOf_shape (x:=x) (v:=v) h;exact .inr ⟨x,t,rfl,e⟩
theorem Mm(i:Int)(t:Tok):rF (.inl i) (.int i t)=true:=by simp[rF,Value.isInt]
theorem Mn(x:Str)(t:Tok):rF (.inr x) (.str x t)=true:=by simp[rF,Value.isStrOf]
theorem Mo(a b:Int):decide ((Sum.inl a:Key)=Sum.inl b)=(a==b):=by
 by_cases e:a=b
 ·subst e;simp
 ·have h:¬(Sum.inl a:Key)=Sum.inl b:=λq=>e (Sum.inl.inj q);rw[ae h];exact(beq_eq_false_iff_ne.mpr e).symm
theorem Mp(a b:Str):decide ((Sum.inr a:Key)=Sum.inr b)=decide (a=b):=by
 by_cases e:a=b
 ·subst e;simp
 ·have h:¬(Sum.inr a:Key)=Sum.inr b:=λq=>e (Sum.inr.inj q);rw[ae h,ae e]
theorem Mq(a:Int)(b:Str):decide ((Sum.inl a:Key)=Sum.inr b)=false:=ae (λq=>nomatch q)
theorem Mr(a:Str)(b:Int):decide ((Sum.inr a:Key)=Sum.inl b)=false:=ae (λq=>nomatch q)
noncomputable def gj(prog:Program)(w:World):PySem.KeyKind prog w Key where
 is:=rF
 hash:=Ml w
 inj:=λv a b ha hb=>by
  rcases mj ha with⟨i,t,rfl,rfl⟩|⟨x,t,rfl,rfl⟩
  ·rcases mj hb with⟨j,u,rfl,e⟩|⟨y,u,rfl,e⟩
   ·injection e with e1 _;rw[e1]
   ·exact nomatch e
  ·rcases mj hb with⟨j,u,rfl,e⟩|⟨y,u,rfl,e⟩
   ·exact nomatch e
   ·injection e with e1 _;rw[e1]
 byValue:=λk v h=>by
  rcases mj h with⟨i,t,rfl,rfl⟩|⟨x,t,rfl,rfl⟩<;>rfl
 pyHash:=λhv h=>by
  rcases mj hv with⟨i,t,rfl,rfl⟩|⟨x,t,rfl,rfl⟩
  ·exact wpAny_pyHash_int h
  ·exact wpAny_pyHash_str h
 eqBool:=λhu hv h=>by
  rcases mj hu with⟨i,t,rfl,rfl⟩|⟨x,t,rfl,rfl⟩
  ·rcases mj hv with⟨j,u,rfl,rfl⟩|⟨y,u,rfl,rfl⟩
   ·rw[Mo]at h;exact wpAny_eqBool_int h
   ·rw[Mq]at h;exact SeqAt.EqAt.int_str i t y u _ _ _ _ h
  ·rcases mj hv with⟨j,u,rfl,rfl⟩|⟨y,u,rfl,rfl⟩
   ·rw[Mr]at h;exact SeqAt.EqAt.str_int x t j u _ _ _ _ h
   ·rw[Mp]at h;exact wpAny_eqBool_str h
 «strs»:=λk x t v h=>by
  rcases mj h with⟨i,u,rfl,e⟩|⟨y,u,rfl,e⟩
  ·exact nomatch e
  ·injection e with e1 _;subst e1;cases v<;>rfl
theorem Ms(prog:Program)(w:World)(i:Int)(t:Tok):(gj prog w).is (.inl i) (.int i t)=true:=Mm i t
theorem Mt(prog:Program)(w:World)(x:Str)(t:Tok):(gj prog w).is (.inr x) (.str x t)=true:=Mn x t
inductive V where
 |cm|bl (b:Bool)|int (i:Int)|str (x:Str)|jQ (b:Array UInt8)|rG (b:UInt64)|ref (a:Addr)|ty (n:String)
 deriving DecidableEq
def RelV:V→Value→Prop
 | .cm,u=>u=Value.none
 | .bl b,u=>u=Value.bool b
 | .int i,u=>∃t,u=Value.int i t
 | .str x,u=>∃t,u=Value.str x t
 | .jQ b,u=>∃t,u=Value.bytes b t
 | .rG b,u=>∃t,u=Value.float b t
 | .ref a,u=>u=Value.ref a
 | .ty n,u=>u=Value.type n
abbrev Vals:List V→List Value→Prop:=Paired RelV
theorem Vals.length{xs:List V}{us:List Value}(r:Vals xs us):xs.length=us.length:=Paired.length r
theorem Vals.get:∀{xs:List V}{us:List Value}{i:Nat}{x:V},Vals xs us→xs[i]?=some x→∃u,us[i]?=some u∧RelV x u
 |_,_,_,_,.nil,e=>by simp at e
 |_,_,0,_,.cons r _,e=>by simp at e;subst e;exact⟨_,rfl,r⟩
 |_,_,i+1,x,.cons _ t,e=>by
  obtain⟨u,h1,h2⟩:=Vals.get (i:=i) (x:=x) t (by simpa using e);exact⟨u,by simpa using h1,h2⟩
theorem Vals.append:∀{xs ys:List V}{us ws:List Value},Vals xs us→Vals ys ws→Vals (xs++ys) (us++ws)
 |_,_,_,_,.nil,s=>s
 |_,_,_,_,.cons r t,s=>.cons r (Vals.append t s)
theorem Vals.take:∀{xs:List V}{us:List Value}(n:Nat),Vals xs us→Vals (xs.take n) (us.take n)
 |_,_,0,_=>.nil
 |_,_,_+1,.nil=>.nil
 |_,_,n+1,.cons r t=>.cons r (Vals.take n t)
theorem Vals.drop:∀{xs:List V}{us:List Value}(n:Nat),Vals xs us→Vals (xs.drop n) (us.drop n)
 |_,_,0,r=>r
 |_,_,_+1,.nil=>.nil
 |_,_,n+1,.cons _ t=>Vals.drop n t
def jR:Option V→Option Value→Prop
 |some v,some u=>RelV v u
 |none,none=>True
 |_,_=>False
def KV{κ:Type}:List (κ×V)→List (κ×Value)→Prop:=Paired λ(p:κ×V)(q:κ×Value)=>p.1=q.1∧RelV p.2 q.2
noncomputable def kV:Key→V
 | .inl i=>.int i
 | .inr x=>.str x
inductive HO where
 |lst (xs:List V)
 |tup (xs:List V)
 |dK (aH:List (Key×V))|dT (aH:List (List Key×V))
 |set (S:Int→Bool) (n:Nat)
 |ins (C dx:Addr) (fs:List (Str×V))
 |own (x:Addr)
 |xd (fs:List (Str×V))
 |met (f x:Addr)
 |kX (lo hi:Int)
 |i8 (o:Obj) (u:HO)
 |p6 (ps:Array Value)
 |ext (φ:Heap→Prop)
abbrev Hp:=Addr→Option HO
noncomputable def upd(H:Hp)(a:Addr)(o:HO):Hp:=λb=>if b=a then some o else H b
theorem aZ{o:HO}:upd H a o a=some o:=by unfold upd;rw[af rfl]
theorem cC{o:HO}(h:b≠a):upd H a o b=H b:=by unfold upd;rw[ag h]
theorem Mu{o u:HO}:upd (upd H a o) a u=upd H a u:=by
 funext b;unfold upd;split<;>rfl
theorem Mw{o u:HO}(h:H a=some o)(h':H b=some u)(d:o≠u):a≠b:=by
 intro e;subst e;rw[h]at h';exact d (eM h')
theorem fZ{o:HO}(h:H a=some o)(h':H b=none):a≠b:=by
 intro e;subst e;rw[h]at h';cases h'
def nR(h:Heap)(a:Addr)(items:Array Value):Prop:=∃o,h.get? a=some o∧o.cls=.type "tuple"∧o.dict=none∧∃n,o.data=.seq items n
theorem nR.tup{items:Array Value}(x:nR h a items):IsTup h a items:=let ⟨o,e,c,_,n,d⟩:=x;⟨o,e,c,n,d⟩
theorem nR.new(h:Heap)(items:Array Value):nR (h.push { cls:=.type "tuple",data:=.seq items }) h.objs.size items:=⟨_,jL _ rfl,rfl,rfl,_,rfl⟩
section
variable(P:Program)(w:World)
def eO(H:Hp)(h:Heap)(a:Addr):HO→Prop
 | .lst xs=>xs.length≤sizeLine∧∃(its:List Value)(n:Nat),Vals xs its∧h.get? a=some { cls:=.type "list",data:=.seq its.toArray n }
 | .tup xs=>xs.length≤sizeLine∧∃its:List Value,Vals xs its∧nR h a its.toArray
 | .dK aH=>aH.length≤sizeLine∧(a==sysModules)=false∧∃vs,KV aH vs∧h.DictOf (gj P w) a vs
 | .dT aH=>aH.length≤sizeLine∧(a==sysModules)=false∧∃xs:List (List Key×Addr×Value),
   Paired (λ(p:List Key×V)(q:List Key×Addr×Value)=>p.1=q.1∧H q.2.1=some (.tup (p.1.map kV))∧RelV p.2 q.2.2) aH xs∧
   ∃o es ep,h.get? a=some o∧o.ExactDict∧o.data=.dict es ep∧es.toList=xs.map (entryOfKey (tupleKind (gj P w)))∧(xs.map (·.1)).Nodup
 | .set S n=>h.SetOf (intKind P w) a S n
 | .ins C dx fs=>H dx=some (.own a)∧fs.length≤1000∧dx≠a∧h.get? a=some (PySem.W.instObj C dx)∧
   ∃mA,h.Ns1 dx mA∧(∀f,jR (fs.lookup f) (mA f))∧PySem.Within mA (fs.map (·.1))
 | .own _=>∃o,h.get? a=some o
 | .xd fs=>∃mA,h.Ns1 a mA∧∀f,jR (fs.lookup f) (mA f)
 | .kX lo hi=>∃t u v,h.get? a=some { cls:=.type "range",data:=.fields #[.int lo t,.int hi u,.int 1 v] }
 | .i8 o u=>h.get? a=some o∧eO H h a u
 | .p6 ps=>h.get? a=some { cls:=.none,data:=.fields ps }
 | .met f x=>h.get? a=some (PySem.W.methodObj (.ref f) (.ref x))
 | .ext φ=>φ h∧(∃o,h.get? a=some o)∧∀h1 h2:Heap,φ h1→(∀o,h1.get? a=some o→h2.get? a=some o)→φ h2
def d9(H:Hp)(h:Heap):Prop:=∀a o,H a=some o→eO P w H h a o
end
section
variable{P:Program}{w:World}{H H':Hp}{h h':Heap}{a:Addr}{o:HO}
theorem eO.lt(x:eO P w H h a o):a<h.objs.size:=by
 cases o with
 |lst xs=>obtain⟨_,_,_,_,e⟩:=x;exact eW e
 |tup xs=>obtain⟨_,_,_,p⟩:=x;exact p.tup.lt
 |dK aH=>obtain⟨_,_,_,_,o,_,_,e,_⟩:=x;exact eW e
 |dT aH=>obtain⟨_,_,_,_,o,_,_,e,_⟩:=x;exact eW e
 |set S n=>obtain⟨o,_,_,_,e,_⟩:=x;exact eW e
 |ins C dx fs=>obtain⟨_,_,_,e,_⟩:=x;exact eW e
 |own y=>obtain⟨_,e⟩:=x;exact eW e
 |xd fs=>obtain⟨_,⟨_,_,_,e,_⟩,_⟩:=x;exact eW e
 |kX lo hi=>obtain⟨_,_,_,e⟩:=x;exact eW e
 |i8 ob u=>obtain⟨e,_⟩:=x;exact eW e
 |p6 ps=>exact eW (show h.get? a=some _ from x)
 |met f y=>exact eW (show h.get? a=some _ from x)
 |ext φ=>obtain⟨_,⟨_,e⟩,_⟩:=x;exact eW e
theorem Paired.Aj{α β:Type}{F G:α→β→Prop}:∀{l₁:List α}{l₂:List β},Paired F l₁ l₂→(∀a b,F a b→G a b)→Paired G l₁ l₂
 |_,_,.nil,_=>.nil
 |_,_,.cons r t,f=>.cons (f _ _ r) (Paired.Aj t f)
theorem eO.p7(x:eO P w H h a o)(k:∀b u,(b=a∨H b=some (.own a))→h.get? b=some u→h'.get? b=some u)
  (ho:∀b,H b=some (.own a)→H' b=some (.own a)) (ht:∀b xs,H b=some (.tup xs)→H' b=some (.tup xs)):eO P w H' h' a o:=by
 induction o with
 |lst xs=>obtain⟨z,its,n,r,e⟩:=x;exact⟨z,its,n,r,k _ _ (.inl rfl) e⟩
 |tup xs=>obtain⟨z,its,r,ob,e,c⟩:=x;exact⟨z,its,r,ob,k _ _ (.inl rfl) e,c⟩
 |dK aH=>obtain⟨z,y,vs,r,ob,es,ep,e,c⟩:=x;exact⟨z,y,vs,r,ob,es,ep,k _ _ (.inl rfl) e,c⟩
 |dT aH=>
  obtain⟨z,y,xs,r,ob,es,ep,e,c⟩:=x;exact⟨z,y,xs,Paired.Aj r λp q z=>⟨z.1,ht _ _ z.2.1,z.2.2⟩,ob,es,ep,k _ _ (.inl rfl) e,c⟩
 |set S n=>obtain⟨ob,es,ep,t,e,c⟩:=x;exact⟨ob,es,ep,t,k _ _ (.inl rfl) e,c⟩
 |ins C dx fs=>
  obtain⟨d,z,ne,e,mA,⟨od,es,ep,e2,c⟩,r⟩:=x;exact⟨ho _ d,z,ne,k _ _ (.inl rfl) e,mA,⟨od,es,ep,k _ _ (.inr d) e2,c⟩,r⟩
 |own y=>obtain⟨ob,e⟩:=x;exact⟨ob,k _ _ (.inl rfl) e⟩
 |xd fs=>obtain⟨mA,⟨od,es,ep,e,c⟩,r⟩:=x;exact⟨mA,⟨od,es,ep,k _ _ (.inl rfl) e,c⟩,r⟩
 |kX lo hi=>obtain⟨t,u,v,e⟩:=x;exact⟨t,u,v,k _ _ (.inl rfl) e⟩
 |i8 ob u ih=>obtain⟨e,q⟩:=x;exact⟨k _ _ (.inl rfl) e,ih q⟩
 |p6 ps=>
  have e:h.get? a=some { cls:=.none,data:=.fields ps }:=x;show h'.get? a=some { cls:=.none,data:=.fields ps };exact k a _ (.inl rfl) e
 |met f y=>
  have e:h.get? a=some (PySem.W.methodObj (.ref f) (.ref y)):=x;show h'.get? a=some (PySem.W.methodObj (.ref f) (.ref y));exact k a _ (.inl rfl) e
 |ext φ=>obtain⟨p,⟨o,e⟩,st⟩:=x;exact⟨st _ _ p λo q=>k _ _ (.inl rfl) q,⟨o,k _ _ (.inl rfl) e⟩,st⟩
theorem d9.lt(x:d9 P w H h)(e:H a=some o):a<h.objs.size:=(x a o e).lt
theorem d9.fresh(x:d9 P w H h)(e:h.objs.size≤a):H a=none:=by
 cases q:H a with
 |none=>rfl
 |some u=>exact absurd (jo (x.lt q) e) (rq _)
theorem d9.kept(x:d9 P w H h)(k:∀b u,h.get? b=some u→h'.get? b=some u):d9 P w H h':=λa o e=>
 (x a o e).p7 (λb u _ q=>k b u q) (λ_ q=>q) λ_ _ q=>q
theorem d9.laid(x:d9 P w H h)(k:∀b u,h.get? b=some u→h'.get? b=some u)(hp:h.objs.size≤a)(new:eO P w (upd H a o) h' a o):d9 P w (upd H a o) h':=λb u e=>by
 have hn:=x.fresh hp;by_cases hb:b=a
 ·subst hb;rw[aZ]at e;cases e;exact new
 ·rw[cC hb]at e;exact(x b u e).p7 (λc v _ q=>k c v q) (λc q=>by rw[cC (fZ q hn)];exact q) λc xs q=>by rw[cC (fZ q hn)];exact q
end
def Rd(H:Hp)(a:Addr)(u:HO):Prop:=H a=some u∨∃o,H a=some (.i8 o u)
theorem Rd.ok{P:Program}{w:World}{u:HO}(r:Rd H a u)(x:d9 P w H h):eO P w H h a u:=by
 rcases r with r|⟨o,r⟩
 ·exact x a u r
 ·obtain⟨_,q⟩:=x a _ r;exact q
def uH:Option HO→Prop
 |some (.lst _)=>True
 |some (.dK _)=>True
 |some (.dT _)=>True
 |some (.set _ _)=>True
 |some (.ins _ _ _)=>True
 |some (.ext _)=>True
 |_=>False
section
variable{P:Program}{w:World}{H:Hp}{h h':Heap}{x e:Addr}{o':HO}
theorem d9.write(ok:d9 P w H h)(mu:uH (H x))(he:e=x∨H e=some (.own x))(k:∀b u,b≠e→h.get? b=some u→h'.get? b=some u)(rH:∃u,h'.get? e=some u)
  (new:eO P w (upd H x o') h' x o'):d9 P w (upd H x o') h':=λb u q=>by
 have El:∀c y,H c=some (.own y)→c≠x:=λc y r z=>by subst z;rw[r]at mu;exact mu
 have Mx:∀c xs,H c=some (.tup xs)→c≠x:=λc xs r z=>by subst z;rw[r]at mu;exact mu
 by_cases hb:b=x
 ·subst hb;rw[aZ]at q;cases q;exact new
 ·rw[cC hb]at q;by_cases ml:b=e
  ·have q':H b=some (.own x):=by
    rcases he with z|z
    ·exact absurd (ml.trans z) hb
    ·rw[ml];exact z
   rw[q]at q';cases q';obtain⟨v,hv⟩:=rH;exact⟨v,by rw[ml];exact hv⟩
  ·refine(ok b u q).p7 (λc v hc r=>k c v ?_ r) (λc r=>by rw[cC (El c b r)];exact r) λc xs r=>by rw[cC (Mx c xs r)];exact r
   rcases hc with rfl|hc
   ·exact ml
   ·rintro rfl;rcases he with z|z
    ·exact El c b hc z
    ·rw[hc]at z;cases z;exact hb rfl
end
structure Un(fs ex:List Addr)(H H':Hp)(h h':Heap):Prop where
 keep:∀b o,h.get? b=some o→H b=none→b ∉ fs→b ∉ ex→h'.get? b=some o
 slot:∀b o,h.get? b=some o→H b=none→b∈fs→b ∉ ex→∃sl,h'.get? b=some { o with slots:=sl }
 free:∀b o,h.get? b=some o→H b=none→b ∉ ex→H' b=none
 there:∀b o,h.get? b=some o→b ∉ ex→∃o',h'.get? b=some o'
 nS:∀b xs,H b=some (.tup xs)→H' b=some (.tup xs)
 mm:∀b o u,H b=some (.i8 o u)→H' b=some (.i8 o u)
 nT:∀b ps,H b=some (.p6 ps)→∃iB,H' b=some (.p6 (ps++iB))
section
variable{fs Em ex ex':List Addr}{H H1 H2:Hp}{h h1 h2 h':Heap}{a x e:Addr}{o:HO}
theorem Un.any(u:Un fs ex H H1 h h1){ob:Obj}(q:h.get? b=some ob)(n:H b=none)(hx:b ∉ ex):∃sl,h1.get? b=some { ob with slots:=sl }:=by
 by_cases hb:b∈fs
 ·exact u.slot b ob q n hb hx
 ·exact⟨ob.slots,u.keep b ob q n hb hx⟩
theorem Un.kept(k:∀b u,h.get? b=some u→h'.get? b=some u):Un fs ex H H h h':=
 ⟨λb ob q _ _ _=>k b ob q,λb ob q _ _ _=>⟨ob.slots,k b ob q⟩,λ_ _ _ n _=>n,λb ob q _=>⟨ob,k b ob q⟩,λ_ _ q=>q,λ_ _ _ q=>q,λ_ ps q=>⟨#[],by rw[q];simp⟩⟩
theorem Un.refl:Un fs ex H H h h:=Un.kept λ_ _ q=>q
theorem Un.laid(k:∀b u,h.get? b=some u→h'.get? b=some u)(hp:h.objs.size≤a)(hn:H a=none):Un fs ex H (upd H a o) h h' where
 keep:=λb u q _ _ _=>k b u q
 slot:=λb u q _ _ _=>⟨u.slots,k b u q⟩
 free:=λb u q n _=>by rw[cC (kO (jo (eW q) hp))];exact n
 there:=λb u q _=>⟨u,k b u q⟩
 nS:=λb xs q=>by rw[cC (fZ q hn)];exact q
 mm:=λb u xs q=>by rw[cC (fZ q hn)];exact q
 nT:=λb ps q=>⟨#[],by rw[cC (fZ q hn),q];simp⟩
theorem Un.write(mu:uH (H x))(he:e=x∨H e=some (.own x))(k:∀b u,b≠e→h.get? b=some u→h'.get? b=some u)(rH:∃u,h'.get? e=some u):Un fs ex H (upd H x o) h h':=by
 have hx:∀b,H b=none→b≠x:=λb n z=>by subst z;rw[n]at mu;exact mu
 have hb:∀b,H b=none→b≠e:=λb n z=>by
  subst z;rcases he with r|r
  ·exact hx b n r
  ·rw[n]at r;cases r
 have hm:∀b u,H b=some u→¬uH (some u)→b≠x:=λb u q nm z=>by subst z;rw[q]at mu;exact nm mu
 refine⟨λb u q n _ _=>k b u (hb b n) q,λb u q n _ _=>⟨u.slots,k b u (hb b n) q⟩,λb u q n _=>by rw[cC (hx b n)];exact n,λb u q _=>?_,
  λb xs q=>by rw[cC (hm b _ q λz=>z)];exact q,λb u xs q=>by rw[cC (hm b _ q λz=>z)];exact q,λb ps q=>⟨#[],by rw[cC (hm b _ q λz=>z),q];simp⟩⟩
 by_cases ml:b=e
 ·subst ml;exact rH
 ·exact⟨u,k b u ml q⟩
end
noncomputable def xk(h:Heap)(H:Hp):List Addr:=(List.range h.objs.size).filter λa=>(H a).isSome
noncomputable def nU(h:Heap)(H:Hp):Heap:=PySem.W.hideAll h (xk h H)
theorem My(h:Heap)(H:Hp):(nU h H).objs.size=h.objs.size:=PySem.W.hideAll_size _ _
theorem Mz{o:Obj}(e:h.get? b=some o)(n:H b=none):(nU h H).get? b=some o:=
 PySem.W.hideAll_get _ e λhm=>by
  have q:(H b).isSome=true:=(rA.mp hm).2;rw[n]at q;simp at q
theorem MA{o:Obj}(e:(nU h H).get? b=some o):h.get? b=some o∧H b=none:=by
 have e':h.get? b=some o:=PySem.W.of_hideAll (xk h H) e;refine⟨e',?_⟩;cases q:H b with
 |none=>rfl
 |some x=>
  have hm:b∈xk h H:=rA.mpr ⟨List.mem_range.mpr (eW e'),by simp[q]⟩;have z:(nU h H).get? b=none:=PySem.W.hideAll_none (xk h H) hm;rw[z]at e;cases e
noncomputable def MB(g h:Heap)(L:Addr):List (Addr×Obj):=(List.range h.objs.size).filterMap λa=>if a=L∨(g.get? a).isSome=true then none else(h.get? a).map λo=>(a,o)
noncomputable def cQ(g h:Heap)(L d:Addr):List (Addr×Obj):=(MB g h L).filter λp=>decide (p.1≠d)
structure Mod(K:Frag)(mg:Str→Option Value)(base:Heap):Prop where
 rJ:K.In base
 glob:base.Ns mainGlobals mg
 blt:∃mb,base.Ns builtinsNs mb∧∀x:Str,x ≠ "__name__"→mb x=bootBuiltins x
 nolimit:base.NoLimit
structure Cx where
 prog:Program
 w:World
 K:Frag
 mg:Str→Option Value
 base:Heap
 A:Around
 N:List Str
 s₀:Shared
 H₀:Hp
 env:Env
 outer:List Env
 stack:List Env
 ex:List Addr
 fn:Str→Bool
 calm:Bool
 pn:List (Addr×Obj)
 xe:QV
noncomputable def jr(l:List Env):List Addr:=l.filterMap (·.frame)
noncomputable abbrev Cx.fs(X:Cx):List Addr:=jr X.outer
def rK(sc:Scope)(x:Str):Prop:=sc.names.lookup x=some .local∨sc.names.lookup x=some .cell∨sc.names.lookup x=some .free
def Loc(sc:Scope)(x:Str):Prop:=sc.names.lookup x=some .local∨sc.names.lookup x=some .cell
def Look(env:Env)(h:Heap)(m:Str→Option Value)(x:Str)(u:Value):Prop:=
 (env.kindOf x=some .local∧m x=some u)∨((env.kindOf x=some .cell∨env.kindOf x=some .free)∧∃c,env.cells.lookup x=some c∧h.IsCell c (some u))
structure Cx.Ok(X:Cx):Prop where
 mod:Mod X.K X.mg X.base
 kind:X.env.scope.kind=.function
 glob:X.env.globals=mainGlobals
 blt:X.env.builtins=builtinsNs
 above:X.s₀.heap.objs.size≤X.env.locals
 inj:∀x y c,X.env.cells.lookup x=some c→X.env.cells.lookup y=some c→x=y
 has:∀x,(X.env.kindOf x=some .cell∨X.env.kindOf x=some .free)→∃c,X.env.cells.lookup x=some c
 uI:∀x c,X.fn x=true→X.env.cells.lookup x=some c→X.s₀.heap.objs.size≤c
 hd:X.calm=true→X.A.handled=none
 frames:X.A.frames=some X.stack
 xl:X.stack=X.outer∨(X.stack=X.env::X.outer∧X.env.frame=some X.env.locals)
 uJ:∀b∈X.ex,b≠X.env.locals∧∀x c,X.env.cells.lookup x=some c→c≠b
 bs:∀b o,X.base.get? b=some o→X.s₀.heap.get? b=some o∧X.H₀ b=none
 oP:X.base.objs.size≤X.s₀.heap.objs.size
 uK:∀b o,X.base.get? b=some o→b ∉ X.ex
 rL:∀b∈X.ex,b ∉ X.fs
 kY:X.s₀.heap.FunFrames X.base X.outer
 rM:∀b∈X.fs,X.H₀ b=none
structure Inv(X:Cx)(aF:List (Addr×Obj))(σ:List (Option V))(H:Hp)(s:Shared):Prop where
 ok:X.Ok
 os:s.os=X.s₀.os
 bare:AllBare s.gens
 base:Un X.fs X.ex X.H₀ H X.s₀.heap s.heap
 loc:∃m,s.heap.Ns X.env.locals m∧∀(i:Nat)(x:Str)(v:V),X.N[i]?=some x→σ[i]?=some (some v)→rK X.env.scope x→∃u,RelV v u∧Look X.env s.heap m x u
 cell:∀x c,X.env.cells.lookup x=some c→∃v,s.heap.IsCell c v
 free:H X.env.locals=none
 mn:∀x c,X.env.cells.lookup x=some c→H c=none
 pin:∀p∈X.pn++aF,s.heap.get? p.1=some p.2∧H p.1=none∧p.1≠X.env.locals∧p.1 ∉ X.fs∧∀v,p.2.data≠.cell v
 bz:d9 X.prog X.w H s.heap
 len:σ.length=X.N.length
section
variable{X:Cx}{aF:List (Addr×Obj)}{σ:List (Option V)}{H H':Hp}{s:Shared}{h':Heap}
theorem Cx.Ok.MC(ok:X.Ok){o:Obj}(e:X.base.get? b=some o):b ∉ X.fs:=λhb=>by
 have:=(ok.kY.mem hb).1
 rw[e]at this;cases this
theorem Inv.bs(I:Inv X aF σ H s):∀b o,X.base.get? b=some o→s.heap.get? b=some o∧H b=none:=λb o e=>
 ⟨I.base.keep b o (I.ok.bs b o e).1 (I.ok.bs b o e).2 (I.ok.MC e) (I.ok.uK b o e),I.base.free b o (I.ok.bs b o e).1 (I.ok.bs b o e).2 (I.ok.uK b o e)⟩
theorem Inv.bk(I:Inv X aF σ H s):∀b o,X.base.get? b=some o→s.heap.get? b=some o:=λb o e=>(I.bs b o e).1
theorem Inv.mod(I:Inv X aF σ H s):Mod X.K X.mg X.base:=I.ok.mod
theorem Inv.eS(I:Inv X aF σ H s):X.K.In s.heap:=I.ok.mod.rJ.keeps I.bk
theorem Inv.lt(I:Inv X aF σ H s):X.env.locals<s.heap.objs.size:=let ⟨_,hn,_⟩:=I.loc;hn.lt
theorem Inv.sz(I:Inv X aF σ H s):X.s₀.heap.objs.size≤s.heap.objs.size:=eu I.ok.above (Nat.le_of_lt I.lt)
theorem Inv.MD(I:Inv X aF σ H s)(h:s.heap.objs.size≤a):a ∉ X.fs:=λhb=>by
 obtain⟨_,o,ho,_⟩:=I.ok.kY.mem hb;exact absurd (jo (eW ho) (eu I.sz h)) (rq _)
theorem Inv.p8(I:Inv X aF σ H s):∀x c,X.env.cells.lookup x=some c→c≠X.env.locals:=λx c e z=>by
 obtain⟨v,o,ho,hd⟩:=I.cell x c e;obtain⟨m,⟨o',es,ep,p9,xm,_⟩,_⟩:=I.loc;rw[z,p9]at ho;cases ho;rw[xm]at hd;cases hd
theorem Inv.kY(I:Inv X aF σ H s):s.heap.FunFrames X.base X.outer:=by
 have all:∀(l:List Env),(∀b∈jr l,b∈X.fs)→X.s₀.heap.FunFrames X.base l→s.heap.FunFrames X.base l:=by
  intro l;induction l with
  |nil=>intro _ _;trivial
  |cons env r ih=>
   intro hs hl;obtain⟨hk,⟨L,o,hf,hn,ho,hd⟩,hr⟩:=hl;have hL:L∈X.fs:=hs L (by unfold jr;rw[List.filterMap_cons,hf];exact dv);obtain⟨sl,e⟩:=I.base.slot L o ho (I.ok.rM L hL) hL λz=>I.ok.rL L z hL;exact⟨hk,⟨L,_,hf,hn,e,hd⟩,ih (λb hb=>hs b (by unfold jr;rw[List.filterMap_cons,hf];exact eR _ hb)) hr⟩
 exact all X.outer (λ_ hb=>hb) I.ok.kY
theorem Inv.stack(I:Inv X aF σ H s):s.heap.FunFrames X.base X.stack:=by
 rcases I.ok.xl with e|⟨e,hf⟩
 ·rw[e];exact I.kY
 ·rw[e];obtain⟨m,hn,_⟩:=I.loc;refine .cons (by rw[I.ok.kind];decide) hf hn ?_ I.kY;exact Heap.get?_none_of_le (eu I.ok.oP I.ok.above)
theorem Inv.Ak(I:Inv X aF σ H s):∀b∈jr X.stack,b∈X.env.locals::X.fs:=λb hb=>by
 rcases I.ok.xl with e|⟨e,hf⟩
 ·rw[e]at hb;exact eR _ hb
 ·rw[e]at hb;unfold jr at hb;rw[List.filterMap_cons,hf]at hb;exact hb
theorem Inv.En(I:Inv X aF σ H s):∀b∈jr X.stack,H b=none:=λb hb=>by
 rcases e9.mp (I.Ak b hb)with e|hb
 ·rw[e];exact I.free
 ·obtain⟨_,o,ho,_⟩:=I.ok.kY.mem hb;exact I.base.free b o ho (I.ok.rM b hb) λz=>I.ok.rL b z hb
theorem Inv.step{g':Array GenState}{d':Drawn}(I:Inv X aF σ H s)
  (mq:∀b∈ch,(b∈X.ex∨X.s₀.heap.objs.size≤b)∧b≠X.env.locals∧(∀x c,X.env.cells.lookup x=some c→c≠b)∧∀p∈X.pn++aF,p.1≠b)
  (keep:∀b o,b≠X.env.locals→b ∉ X.fs→b ∉ ch→s.heap.get? b=some o→H b=none→h'.get? b=some o)
  (slot:∀b o,b≠X.env.locals→b∈X.fs→b ∉ ch→s.heap.get? b=some o→H b=none→∃sl,h'.get? b=some { o with slots:=sl }) (free:∀b o,b ∉ ch→s.heap.get? b=some o→H b=none→H' b=none)
  (there:∀b o,b ∉ ch→s.heap.get? b=some o→∃o',h'.get? b=some o')
  (nS:∀b xs,H b=some (.tup xs)→H' b=some (.tup xs)) (mm:∀b o u,H b=some (.i8 o u)→H' b=some (.i8 o u)) (nT:∀b ps,H b=some (.p6 ps)→∃iB,H' b=some (.p6 (ps++iB)))
  (ns:∀m,s.heap.Ns X.env.locals m→h'.Ns X.env.locals m) (bz:d9 X.prog X.w H' h') (hg:AllBare g') :
  Inv X aF σ H' { s with heap:=h',gens:=g',drawn:=d',toks:=t' }:=by
 have Eo:∀b o,X.s₀.heap.get? b=some o→b≠X.env.locals:=λb o e=>kO (jo (eW e) I.ok.above);have xn:∀b o,X.s₀.heap.get? b=some o→b ∉ X.ex→b ∉ ch:=λb o e hx hb=>by
  rcases(mq b hb).1 with z|z
  ·exact hx z
  ·exact absurd (jo (eW e) z) (rq _)
 have Ep:∀x c,X.env.cells.lookup x=some c→∀v,s.heap.IsCell c v→h'.IsCell c v:=λx c e v ⟨o,ho,hd⟩=>by
  have uL:c ∉ ch:=λz=>(mq c z).2.2.1 x c e rfl;by_cases hc:c∈X.fs
  ·obtain⟨sl,q⟩:=slot c o (I.p8 x c e) hc uL ho (I.mn x c e);exact⟨_,q,hd⟩
  ·exact⟨o,keep c o (I.p8 x c e) hc uL ho (I.mn x c e),hd⟩
 refine⟨I.ok,I.os,hg,⟨λb o e n hb hx=>?_,λb o e n hb hx=>?_,λb o e n hx=>?_,λb o e hx=>?_,λb xs e=>nS b xs (I.base.nS b xs e),λb o xs e=>mm b o xs (I.base.mm b o xs e),λb ps e=>?_⟩,?_,λx c e=>?_,?_,λx c e=>?_,λp hp=>?_,bz,I.len⟩
 ·exact keep b o (Eo b o e) hb (xn b o e hx) (I.base.keep b o e n hb hx) (I.base.free b o e n hx)
 ·obtain⟨sl,e1⟩:=I.base.slot b o e n hb hx;obtain⟨Al,e2⟩:=slot b _ (Eo b o e) hb (xn b o e hx) e1 (I.base.free b o e n hx);exact⟨Al,e2⟩
 ·obtain⟨o',e1⟩:=I.base.there b o e hx;exact free b o' (xn b o e hx) e1 (I.base.free b o e n hx)
 ·obtain⟨o',e1⟩:=I.base.there b o e hx;exact there b o' (xn b o e hx) e1
 ·obtain⟨m1,e1⟩:=I.base.nT b ps e;obtain⟨m2,e2⟩:=nT b _ e1;exact⟨m1++m2,by rw[e2,Array.append_assoc]⟩
 ·obtain⟨m,hn,hl⟩:=I.loc;refine⟨m,ns m hn,λi x v e1 e2 e3=>?_⟩;obtain⟨u,r,l⟩:=hl i x v e1 e2 e3;refine⟨u,r,?_⟩;rcases l with l|⟨k,c,e,z⟩
  ·exact .inl l
  ·exact .inr ⟨k,c,e,Ep x c e _ z⟩
 ·obtain⟨v,z⟩:=I.cell x c e;exact⟨v,Ep x c e v z⟩
 ·obtain⟨m,⟨o,_,_,ho,_⟩,_⟩:=I.loc;exact free _ o (λz=>(mq _ z).2.1 rfl) ho I.free
 ·obtain⟨v,o,ho,hd⟩:=I.cell x c e;exact free c o (λz=>(mq c z).2.2.1 x c e rfl) ho (I.mn x c e)
 ·obtain⟨e,n,ne,nf,d⟩:=I.pin p hp;have uL:p.1 ∉ ch:=λz=>(mq p.1 z).2.2.2 p hp rfl;exact⟨keep p.1 p.2 ne nf uL e n,free p.1 p.2 uL e n,ne,nf,d⟩
theorem Inv.un(I:Inv X aF σ H s)(u:Un X.fs [] H H' s.heap h')(bz:d9 X.prog X.w H' h'):Inv X aF σ H' { s with heap:=h',toks:=t' }:=by
 obtain⟨m,⟨o,es,ep,ho,r⟩,_⟩:=id I.loc;obtain⟨sl,hL⟩:=u.any ho I.free (by simp);exact I.step (g':=s.gens) (d':=s.drawn) (ch:=[]) (λ_ z=>nomatch z) (λb o _ hb _ e n=>u.keep b o e n hb (by simp)) (λb o _ hb _ e n=>u.slot b o e n hb (by simp)) (λb o _ e n=>u.free b o e n (by simp)) (λb o _ e=>u.there b o e (by simp)) u.nS u.mm u.nT (λm' hm=>by
  obtain⟨o',es',Am,p9,r'⟩:=hm;rw[ho]at p9;cases p9;exact⟨_,es',Am,hL,r'⟩) bz I.bare
theorem Inv.call{g':Array GenState}{d':Drawn}(I:Inv X aF σ H s)(u:Un (jr X.stack) ch H H' s.heap h')(bz:d9 X.prog X.w H' h')(hg:AllBare g')
  (mq:∀b∈ch,(b∈X.ex∨X.s₀.heap.objs.size≤b)∧b≠X.env.locals∧(∀x c,X.env.cells.lookup x=some c→c≠b)∧∀p∈X.pn++aF,p.1≠b) :
  Inv X aF σ H' { s with heap:=h',gens:=g',drawn:=d',toks:=t' }:=by
 obtain⟨m,⟨o,es,ep,ho,r⟩,_⟩:=id I.loc;obtain⟨sl,hL⟩:=u.any ho I.free λz=>(mq _ z).2.1 rfl;exact I.step (ch:=ch) mq (λb o hL hb hc e n=>u.keep b o e n (λz=>(e9.mp (I.Ak b z)).elim hL hb) hc) (λb o _ _ hc e n=>u.any e n hc) (λb o hc e n=>u.free b o e n hc) (λb o hc e=>u.there b o e hc) u.nS u.mm u.nT (λm' hm=>by
  obtain⟨o',es',Am,p9,r'⟩:=hm;rw[ho]at p9;cases p9;exact⟨_,es',Am,hL,r'⟩) bz hg
theorem Inv.turned{it:Addr}(I:Inv X aF σ H s)(k:∀b o,b≠it→s.heap.get? b=some o→h'.get? b=some o)(hn:H it=none)(hL:it≠X.env.locals)
  (h1:it∈X.ex∨X.s₀.heap.objs.size≤it) (h2:∀x c,X.env.cells.lookup x=some c→c≠it) (h3:∀p∈X.pn++aF,p.1≠it):Inv X aF σ H { s with heap:=h',toks:=t' }:=by
 have Er:∀b u,H b=some u→b≠it:=λb u e z=>by rw[z,hn]at e;cases e
 refine I.step (g':=s.gens) (d':=s.drawn) (ch:=[it]) (λb hb=>?_) (λb o _ _ hc e _=>k b o (λz=>hc (by simp[z])) e) (λb o _ _ hc e _=>⟨o.slots,k b o (λz=>hc (by simp[z])) e⟩) (λ_ _ _ _ n=>n)
  (λb o hc e=>⟨o,k b o (λz=>hc (by simp[z])) e⟩) (λ_ _ e=>e) (λ_ _ _ e=>e) (λb ps e=>⟨#[],by rw[e];simp⟩) (λm hm=>?_) (λb u e=>?_) I.bare
 ·have e:b=it:=by simpa using hb
  subst e;exact⟨h1,hL,h2,h3⟩
 ·obtain⟨o,es,ep,ho,r⟩:=hm;exact⟨o,es,ep,k _ o (Ne.symm hL) ho,r⟩
 ·refine(I.bz b u e).p7 (λc v hc q=>k c v ?_ q) (λ_ q=>q) λ_ _ q=>q;rcases hc with z|z
  ·rw[z];exact Er b u e
  ·exact Er c _ z
theorem Inv.tok(I:Inv X aF σ H s)(t:Nat):Inv X aF σ H { s with toks:=t }:=I.un (h':=s.heap) (t':=t) Un.refl I.bz
theorem Inv.kept{t':Nat}(I:Inv X aF σ H s)(k:∀b u,s.heap.get? b=some u→h'.get? b=some u):Inv X aF σ H { s with heap:=h',toks:=t' }:=I.un (Un.kept k) (I.bz.kept k)
theorem Inv.laid{a:Addr}{o:HO}{t':Nat}(I:Inv X aF σ H s)(k:∀b u,s.heap.get? b=some u→h'.get? b=some u)(hp:s.heap.objs.size≤a)(new:eO X.prog X.w (upd H a o) h' a o) :
  Inv X aF σ (upd H a o) { s with heap:=h',toks:=t' }:=I.un (Un.laid k hp (I.bz.fresh hp)) (I.bz.laid k hp new)
theorem Inv.write{x e:Addr}{o:HO}{t':Nat}(I:Inv X aF σ H s)(mu:uH (H x))(he:e=x∨H e=some (.own x))(k:∀b u,b≠e→s.heap.get? b=some u→h'.get? b=some u)(rH:∃u,h'.get? e=some u)
  (new:eO X.prog X.w (upd H x o) h' x o):Inv X aF σ (upd H x o) { s with heap:=h',toks:=t' }:=I.un (Un.write mu he k rH) (I.bz.write mu he k rH new)
theorem Inv.xo{Es:List (Addr×Obj)}(I:Inv X aF σ H s)(h:∀p∈Es,s.heap.get? p.1=some p.2∧H p.1=none∧p.1≠X.env.locals∧p.1 ∉ X.fs∧∀v,p.2.data≠.cell v):Inv X Es σ H s:=
 ⟨I.ok,I.os,I.bare,I.base,I.loc,I.cell,I.free,I.mn,λp hp=>(dM.mp hp).elim (λz=>I.pin p (jM _ z)) (h p),I.bz,I.len⟩
theorem Et{N:List Str}(hN:N.Nodup){j:Nat}(a:N[i]?=some x)(b:N[j]?=some x):i=j:=by
 obtain⟨h1,e1⟩:=dB.mp a;obtain⟨h2,e2⟩:=dB.mp b;exact(List.getElem_inj hN).mp (e1.trans e2.symm)
theorem Eu(I:Inv X aF σ H s)(hN:X.N.Nodup)(hi:X.N[i]?=some x)(hx:Loc X.env.scope x)(r:RelV v u)
  (h:∀s',Inv X aF (σ.set i (some v)) H s'→(∃a,Heap.SameBut a s.heap s'.heap∧(a=X.env.locals∨X.env.cells.lookup x=some a))→Q () s') (hf:X.fn x=true∨X.env.scope.names.lookup x=some .local:=by first|exact .inl rfl|exact .inr rfl|assumption):wpAny M A (storeName X.env x u) Q E s:=by
 obtain⟨m,hn,hl⟩:=id I.loc;have ME:(X.env.scope.kind == .class||(X.env.scope.kind == .module&&X.env.locals != X.env.globals))=false:=by rw[I.ok.kind];rfl
 have Ew:i<σ.length:=by rw[I.len];exact(dB.mp hi).1
 have p8:=I.p8;have Ex:∀{a:Addr}{h':Heap},(∃o,s.heap.get? a=some o∧H a=none)→Heap.SameBut a s.heap h'→d9 X.prog X.w H h':=λ{a h'} ha hs b ob e=>by
  obtain⟨_,_,Ey⟩:=ha;refine(I.bz b ob e).p7 (λc w' hc q=>(hs.2 c ?_).trans q) (λ_ q=>q) λ_ _ q=>q;rintro rfl;rcases hc with rfl|hc
  ·rw[Ey]at e;cases e
  ·rw[Ey]at hc;cases hc
 rcases hx with hk|hk
 ·refine wpAny_storeName_local hk hn (λh' An hs=>?_) ME;obtain⟨oL,_,_,MF,_⟩:=id hn;refine h _ ⟨I.ok,I.os,I.bare,⟨λb o e n hb hx=>?_,λb o e n hb hx=>?_,I.base.free,λb o e hx=>?_,I.base.nS,I.base.mm,I.base.nT⟩,⟨_,An,λj y v' e1 e2 e3=>?_⟩,λy c e=>?_,I.free,I.mn,λp hp=>?_,Ex ⟨oL,MF,I.free⟩ hs,by simpa using I.len⟩ ⟨_,hs,.inl rfl⟩
  ·exact(hs.2 b (kO (jo (eW e) I.ok.above))).trans (I.base.keep b o e n hb hx)
  ·obtain⟨sl,e1⟩:=I.base.slot b o e n hb hx;exact⟨sl,(hs.2 b (kO (jo (eW e) I.ok.above))).trans e1⟩
  ·obtain⟨o',e1⟩:=I.base.there b o e hx;exact⟨o',(hs.2 b (kO (jo (eW e) I.ok.above))).trans e1⟩
  ·by_cases hj:j=i
   ·subst hj;rw[hi]at e1;cases e1;rw[List.getElem?_set_self Ew]at e2;cases e2;exact⟨u,r,.inl ⟨hk,by simp⟩⟩
   ·rw[List.getElem?_set_ne (Ne.symm hj)]at e2;obtain⟨u',r',q⟩:=hl j y v' e1 e2 e3;refine⟨u',r',?_⟩;rcases q with⟨k,e⟩|⟨k,c,e,z⟩
    ·refine .inl ⟨k,?_⟩
     have:y≠x:=λe=>hj (Et hN e1 (e▸hi))
     simp[this,e]
    ·exact .inr ⟨k,c,e,z.sameBut hs (p8 y c e)⟩
  ·obtain⟨w',z⟩:=I.cell y c e;exact⟨w',z.sameBut hs (p8 y c e)⟩
  ·obtain⟨e,n,ne,nf,d⟩:=I.pin p hp;exact⟨(hs.2 p.1 ne).trans e,n,ne,nf,d⟩
 ·have uM:X.fn x=true:=by
   rcases hf with z|z
   ·exact z
   ·rw[z]at hk;cases hk
  obtain⟨c,hc⟩:=I.ok.has x (.inl hk);obtain⟨w',z⟩:=I.cell x c hc;refine wpAny_storeName_cell I.ok.kind hk hc z (λh' iL hs=>?_);obtain⟨oc,Ez,MG⟩:=id z;refine h { s with heap:=h' } ⟨I.ok,I.os,I.bare,⟨λb o e n hb hx=>?_,λb o e n hb hx=>?_,I.base.free,λb o e hx=>?_,I.base.nS,I.base.mm,I.base.nT⟩,⟨m,hn.sameBut hs (Ne.symm (p8 x c hc)),λj y v' e1 e2 e3=>?_⟩,λy c' e=>?_,I.free,I.mn,λp hp=>?_,Ex ⟨oc,Ez,I.mn x c hc⟩ hs,by simpa using I.len⟩ ⟨c,hs,.inr hc⟩
  ·exact(hs.2 b (kO (jo (eW e) (I.ok.uI x c uM hc)))).trans (I.base.keep b o e n hb hx)
  ·obtain⟨sl,e1⟩:=I.base.slot b o e n hb hx;exact⟨sl,(hs.2 b (kO (jo (eW e) (I.ok.uI x c uM hc)))).trans e1⟩
  ·obtain⟨o',e1⟩:=I.base.there b o e hx;exact⟨o',(hs.2 b (kO (jo (eW e) (I.ok.uI x c uM hc)))).trans e1⟩
  ·by_cases hj:j=i
   ·subst hj;rw[hi]at e1;cases e1;rw[List.getElem?_set_self Ew]at e2;cases e2;exact⟨u,r,.inr ⟨.inl hk,c,hc,iL⟩⟩
   ·rw[List.getElem?_set_ne (Ne.symm hj)]at e2;obtain⟨u',r',q⟩:=hl j y v' e1 e2 e3;refine⟨u',r',?_⟩;rcases q with q|⟨k,c',e,z'⟩
    ·exact .inl q
    ·refine .inr ⟨k,c',e,z'.sameBut hs ?_⟩;rintro rfl;exact hj (Et hN e1 (I.ok.inj _ _ _ e hc▸hi))
  ·by_cases EA:c'=c
   ·subst EA;exact⟨_,iL⟩
   ·obtain⟨w2,z2⟩:=I.cell y c' e;exact⟨w2,z2.sameBut hs EA⟩
  ·obtain⟨e,n,ne,nf,d⟩:=I.pin p hp;refine⟨(hs.2 p.1 ?_).trans e,n,ne,nf,d⟩;intro q;rw[q,Ez]at e;have q':oc=p.2:=eM e;exact d w' (by rw[← q'];exact MG)
theorem Ao(I:Inv X aF σ H s)(hN:X.N.Nodup)(hi:X.N[i]?=some x)(hx:Loc X.env.scope x)(r:RelV v u)
  (h:∀s',Inv X aF (σ.set i (some v)) H s'→Q () s') (hf:X.fn x=true∨X.env.scope.names.lookup x=some .local:=by first|exact .inl rfl|exact .inr rfl|assumption):wpAny M A (storeName X.env x u) Q E s:=
 Eu I hN hi hx r (λs' I' _=>h s' I') hf
theorem Inv.MH{s':Shared}(I:Inv X aF σ H s)(ho:s'.os=s.os)(u:Un (jr X.stack) ch H H' s.heap s'.heap)(bz:d9 X.prog X.w H' s'.heap)(hg:AllBare s'.gens)
  (mq:∀b∈ch,(b∈X.ex∨X.s₀.heap.objs.size≤b)∧b≠X.env.locals∧(∀x c,X.env.cells.lookup x=some c→c≠b)∧∀p∈X.pn++aF,p.1≠b):Inv X aF σ H' s':=by
 obtain⟨h',g',d',t',o'⟩:=s';have e:o'=s.os:=ho;subst e;exact I.call (g':=g') (t':=t') (d':=d') u bz hg mq
end
abbrev XK:=Value→Option Addr→Hp→Prop
abbrev St:=List (Option V)
abbrev VK:=V→Hp→Prop
abbrev TE:=St→Hp→VK→Prop
abbrev TT:=St→Hp→(Bool→Hp→Prop)→Prop
abbrev TA:=St→Hp→(List V→Hp→Prop)→Prop
structure Ends where
 nx:St→Hp→Prop
 rt:VK
 bk:St→Hp→Prop:=λ_ _=>False
 ct:St→Hp→Prop:=λ_ _=>False
abbrev TS:=Ends→St→Hp→Prop
def EP(X:Cx)(aF:List (Addr×Obj))(σ:St)(Q:VK)(u:Value)(s':Shared):Prop:=∃v H',Inv X aF σ H' s'∧RelV v u∧Q v H'
def TP(X:Cx)(aF:List (Addr×Obj))(σ:St)(Q:Bool→Hp→Prop)(b:Bool)(s':Shared):Prop:=∃H',Inv X aF σ H' s'∧Q b H'
def AP(X:Cx)(aF:List (Addr×Obj))(σ:St)(Q:List V→Hp→Prop)(us:List Value)(s':Shared):Prop:=∃vs H',Inv X aF σ H' s'∧Vals vs us∧Q vs H'
def SP(X:Cx)(aF:List (Addr×Obj))(D:Ends)(f:Flow)(s':Shared):Prop:=
 match f with
 | .next=>∃σ' H',Inv X aF σ' H' s'∧D.nx σ' H'
 | .brk=>∃σ' H',Inv X aF σ' H' s'∧D.bk σ' H'
 | .cont=>∃σ' H',Inv X aF σ' H' s'∧D.ct σ' H'
 | .ret u=>∃v σ' H',Inv X aF σ' H' s'∧RelV v u∧D.rt v H'
def PE(X:Cx)(e:Expr)(t:TE):Prop:=
 ∀(aF:List (Addr×Obj))(s:Shared)(σ:St)(H:Hp)(Q:VK),Inv X aF σ H s→t σ H Q→wpAny (model X.prog X.w) X.A (eval e X.env) (EP X aF σ Q) X.xe s
def PT(X:Cx)(e:Expr)(t:TT):Prop:=
 ∀(aF:List (Addr×Obj))(s:Shared)(σ:St)(H:Hp)(Q:Bool→Hp→Prop),Inv X aF σ H s→t σ H Q→wpAny (model X.prog X.w) X.A (isTrue e X.env (eval e X.env)) (TP X aF σ Q) X.xe s
def PW(X:Cx)(e:Expr)(t:TT):Prop:=
 ∀(nV:Sem Value)(aF:List (Addr×Obj))(s:Shared)(σ:St)(H:Hp)(Q:Bool→Hp→Prop),Inv X aF σ H s→t σ H Q→wpAny (model X.prog X.w) X.A (isTrue e X.env nV) (TP X aF σ Q) X.xe s
theorem PW.pt{t:TT}(h:PW X e t):PT X e t:=h _
def PA(X:Cx)(es:List Expr)(t:TA):Prop:=
 ∀(pos:Pos)(aF:List (Addr×Obj))(s:Shared)(σ:St)(H:Hp)(Q:List V→Hp→Prop),Inv X aF σ H s→t σ H Q→wpAny (model X.prog X.w) X.A (spliced (backTo pos (starEach es X.env))) (AP X aF σ Q) X.xe s
def PS(X:Cx)(st:Stmt)(t:TS):Prop:=
 ∀(aF:List (Addr×Obj))(s:Shared)(σ:St)(H:Hp)(D:Ends),Inv X aF σ H s→t D σ H→wpAny (model X.prog X.w) X.A (exec st X.env) (SP X aF D) X.xe s
def jt(X:Cx)(st:List Stmt)(t:TS):Prop:=
 ∀(aF:List (Addr×Obj))(s:Shared)(σ:St)(H:Hp)(D:Ends),Inv X aF σ H s→t D σ H→wpAny (model X.prog X.w) X.A (execs st X.env) (SP X aF D) X.xe s
theorem aM{α:Type}{t:Sem α}{Q Q':α→Shared→Prop}(h:wpAny M A t Q E s)(hQ:∀a s,Q a s→Q' a s):wpAny M A t Q' E s:=ah h hQ λ_ _ x=>x
section
variable{X:Cx}
theorem bin{a b:Expr}{ta tb:TE}(ha:PE X a ta)(hb:PE X b tb){R:V→V→Hp→Prop}(I:Inv X aF σ H s)(h:ta σ H λx H1=>tb σ H1 λy H2=>R x y H2)
  {α:Type} {Q:α→Shared→Prop} {f:Value→Value→Sem α}
  (hf:∀v u s2 x y H2,Inv X aF σ H2 s2→RelV x v→RelV y u→R x y H2→wpAny (model X.prog X.w) X.A (f v u) Q X.xe s2) :
  wpAny (model X.prog X.w) X.A (eval a X.env) (λv s₁=>wpAny (model X.prog X.w) X.A (eval b X.env) (λu s₂=>wpAny (model X.prog X.w) X.A (f v u) Q X.xe s₂) X.xe s₁) X.xe s:=by
 refine aM (ha aF s σ H _ I h) λv s1 ⟨x,H1,I1,r1,q1⟩=>?_;refine aM (hb aF s1 σ H1 _ I1 q1) λu s2 ⟨y,H2,I2,r2,q2⟩=>?_;exact hf v u s2 x y H2 I2 r1 r2 q2
def aL(i:Nat):TE:=λσ H Q=>∃v,σ[i]?=some (some v)∧Q v H
def tC(v:V):TE:=λ_ H Q=>Q v H
theorem EB{pos:Pos}(hN:X.N[i]?=some x)(hv:rK X.env.scope x)(hd:(x==("__debug__":Str))=false:=by decide)(i9:(x==("__classdict__":Str))=false:=by decide):PE X (.Name x pos) (aL i):=by
 intro aF s σ H Q I h;obtain⟨v,e,h⟩:=h;obtain⟨m,hn,hl⟩:=I.loc;obtain⟨u,r,l⟩:=hl i x v hN e hv;have fin:EP X aF σ Q u s:=⟨v,H,I,r,h⟩;rcases l with⟨hk,hm⟩|⟨hk,c,hc,xp⟩
 ·exact wpAny_Name (wpAny_loadName_local I.ok.kind hk hn hm fin) hd
 ·rcases hk with hk|hk
  ·exact wpAny_Name (wpAny_loadName_cell I.ok.kind hk hc xp fin) hd
  ·exact wpAny_Name (wpAny_loadName_free I.ok.kind hk hc xp fin i9) hd
theorem aY{i j pos}:PE X (.Constant (.int i) j pos) (tC (.int i)):=λ_ _ _ H _ I h=>wpAny_Constant_int ⟨.int i,H,I.tok _,⟨_,rfl⟩,h⟩
theorem rN{b j pos}:PE X (.Constant (.bool b) j pos) (tC (.bl b)):=λ_ _ _ H _ I h=>Constant_bool ⟨.bl b,H,I,rfl,h⟩
theorem nW{j pos}:PE X (.Constant .none j pos) (tC .cm):=λ_ _ _ H _ I h=>Constant_none ⟨.cm,H,I,rfl,h⟩
theorem aW{x j pos}:PE X (.Constant (.str x) j pos) (tC (.str x)):=λ_ _ _ H _ I h=>Calls.Constant_str ⟨.str x,H,I.tok _,⟨_,rfl⟩,h⟩
def Gl(X:Cx)(x:Str):Prop:=X.env.kindOf x=some .globalImplicit
theorem Ap{pos:Pos}{Q:QV}(I:Inv X aF σ H s)(hg:Gl X x)(hm:X.mg x=some u)(h:Q u s)
  (hd:(x==("__debug__":Str))=false:=by decide):wpAny (model X.prog X.w) X.A (eval (.Name x pos) X.env) Q E s:=
 Calls.Name_function_global I.ok.kind hg (Calls.loadGlobal_global (by rw[I.ok.glob];exact I.mod.glob.keeps I.bk) hm h) hd
theorem rO{pos:Pos}{Q:QV}(I:Inv X aF σ H s)(hg:Gl X x)(hm:X.mg x=none)(hv:bootBuiltins x=some u)(h:Q u s)
  (hn:x ≠ "__name__":=by decide) (hd:(x==("__debug__":Str))=false:=by decide):wpAny (model X.prog X.w) X.A (eval (.Name x pos) X.env) Q E s:=by
 obtain⟨mb,h1,h2⟩:=I.mod.blt;exact Calls.Name_function_global I.ok.kind hg (Calls.loadGlobal_builtin (by rw[I.ok.glob];exact I.mod.glob.keeps I.bk) hm (by rw[I.ok.blt];exact h1.keeps I.bk) ((h2 x hn).trans hv) h) hd
theorem oQ{pos:Pos}(hg:Gl X x)(hm:X.mg x=some u)(r:RelV v u)(hd:(x==("__debug__":Str))=false:=by decide):PE X (.Name x pos) (tC v):=
 λ_ _ _ H _ I h=>Ap I hg hm ⟨v,H,I,r,h⟩ hd
theorem MI{pos:Pos}(hg:Gl X x)(hm:X.mg x=none)(hv:bootBuiltins x=some u)(r:RelV v u)(hn:x ≠ "__name__":=by decide)(hd:(x==("__debug__":Str))=false:=by decide):PE X (.Name x pos) (tC v):=
 λ_ _ _ H _ I h=>rO I hg hm hv ⟨v,H,I,r,h⟩ hn hd
def MJ(ta tb:TE)(k:Int→Int→Hp→Prop):St→Hp→Prop:=λσ H=>ta σ H λx H1=>tb σ H1 λy H2=>∃i j,x=.int i∧y=.int j∧k i j H2
variable{a b:Expr}{ta tb:TE}{pos:Pos}
def PC(X:Cx)(op:CmpOp)(a b:Expr)(t:TE):Prop:=
 ∀(aF:List (Addr×Obj))(s:Shared)(σ:St)(H:Hp)(Q:VK),Inv X aF σ H s→t σ H Q→
  wpAny (model X.prog X.w) X.A (eval a X.env) (λv s₁=>wpAny (model X.prog X.w) X.A (eval b X.env) (λu s₂=>wpAny (model X.prog X.w) X.A (compareOp op v u) (EP X aF σ Q) X.xe s₂) X.xe s₁) X.xe s
theorem MK(b:Expr)(h:op≠.In)(h2:op≠.NotIn):behindInMarks op b=false:=by
 have e1:(op==CmpOp.In)=false:=by cases op<;>first|rfl|exact absurd rfl h
 have e2:(op==CmpOp.NotIn)=false:=by cases op<;>first|rfl|exact absurd rfl h2
 cases b<;>simp[behindInMarks,e1,e2]
def EC(p:Int→Int→Bool)(ta tb:TE):TE:=λσ H Q=>MJ ta tb (λi j H2=>Q (.bl (p i j)) H2) σ H
abbrev ML:TE→TE→TE:=EC λi j=>decide (i≤j)
theorem MM{p:Int→Int→Bool}(ha:PE X a ta)(hb:PE X b tb)
  (rule:∀(i j:Int)(t u:Tok)(Q:QV)(s:Shared),Q (.bool (p i j)) s→wpAny (model X.prog X.w) X.A (compareOp op (.int i t) (.int j u)) Q X.xe s):PC X op a b (EC p ta tb):=by
 intro aF s σ H Q I h;refine bin ha hb I h λv u s2 x y H2 I2 rx ry q=>?_;obtain⟨i,j,rfl,rfl,q⟩:=q;obtain⟨t,rfl⟩:=rx;obtain⟨t',rfl⟩:=ry;exact rule i j t t' _ s2 ⟨.bl _,H2,I2,rfl,q⟩
theorem ED(ha:PE X a ta)(hb:PE X b tb):PC X .LtE a b (ML ta tb):=MM ha hb λ_ _ _ _ _ _ h=>le_int h
def tB(t:TE):TT:=λσ H Q=>t σ H λx H1=>∃c,x=.bl c∧Q c H1
theorem EE{t:TE}(h:PC X op a b t)(h1:behindInMarks op b=false:=by first|exact MK _ (by decide) (by decide)|rfl):PT X (.Compare a [op] [b] pos) (tB t):=by
 intro aF s σ H Q I hw;refine wpAny_isTrue_Compare1 (aM (h aF s σ H _ I hw) λv s1 h1=>aM h1 λu s2 h2=>aM h2 λc s3 ⟨x,H1,I1,r1,q1⟩=>?_) h1;obtain⟨d,rfl,q⟩:=q1;cases r1;exact ai ⟨H1,I1,q⟩
theorem uN{t:TE}(h:PE X e t)(he:∀nV,isTrue e X.env nV=(do let v ← nV;standAt e.pos;holding [v] (truthy v)):=by intro _;rfl):PT X e (tB t):=by
 intro aF s σ H Q I hw;refine isTrue_plain (aM (h aF s σ H _ I hw) λv s1 ⟨x,H1,I1,r1,q1⟩=>?_) (he _);obtain⟨d,rfl,q⟩:=q1;cases r1;exact ai ⟨H1,I1,q⟩
variable{tA xq:TT}{cQ:List Expr}
def oR(t u:TT):TT:=λσ H Q=>t σ H λc H1=>if c=true then u σ H1 Q else Q false H1
def xt(t u:TT):TT:=λσ H Q=>t σ H λc H1=>if c=true then Q true H1 else u σ H1 Q
def MN(t:TT):TT:=λσ H Q=>t σ H λc H1=>Q (!c) H1
theorem qa(ha:PT X a tA):PW X (.BoolOp .And [a] pos) tA:=by
 intro wh aF s σ H Q I h;refine isTrue_and (aM (ha aF s σ H Q I h) λc s1 e=>?_);cases c with
 |true=>exact isTrue_and_nil e
 |false=>exact e
theorem xu(ha:PT X a tA):PW X (.BoolOp .Or [a] pos) tA:=by
 intro wh aF s σ H Q I h;refine isTrue_or (aM (ha aF s σ H Q I h) λc s1 e=>?_);cases c with
 |false=>exact isTrue_or_nil e
 |true=>exact e
theorem oS(ha:PT X a tA)(hb:PW X (.BoolOp .And (b::cQ) pos) xq):PW X (.BoolOp .And (a::b::cQ) pos) (oR tA xq):=by
 intro wh aF s σ H Q I h;refine isTrue_and (aM (ha aF s σ H _ I h) λc s1 ⟨H1,I1,q1⟩=>?_);cases c with
 |true=>exact hb wh aF s1 σ H1 Q I1 q1
 |false=>exact⟨H1,I1,q1⟩
theorem rP(ha:PT X a tA)(hb:PW X (.BoolOp .Or (b::cQ) pos) xq):PW X (.BoolOp .Or (a::b::cQ) pos) (xt tA xq):=by
 intro wh aF s σ H Q I h;refine isTrue_or (aM (ha aF s σ H _ I h) λc s1 ⟨H1,I1,q1⟩=>?_);cases c with
 |true=>exact⟨H1,I1,q1⟩
 |false=>exact hb wh aF s1 σ H1 Q I1 q1
theorem MO(ha:PT X a tA):PT X (.UnaryOp .Not a pos) (MN tA):=by
 intro aF s σ H Q I h;exact isTrue_not (ha aF s σ H (λc H1=>Q (!c) H1) I h)
def MP(t:TT)(ta tb:TE):TE:=λσ H Q=>t σ H λc H1=>if c=true then ta σ H1 Q else tb σ H1 Q
theorem EF(hc:PT X c tA)(ha:PE X a ta)(hb:PE X b tb):PE X (.IfExp c a b pos) (MP tA ta tb):=by
 intro aF s σ H Q I h;refine wpAny_IfExp (aM (hc aF s σ H _ I h) λd s1 ⟨H1,I1,q1⟩=>?_);cases d with
 |true=>exact ha aF s1 σ H1 Q I1 q1
 |false=>exact hb aF s1 σ H1 Q I1 q1
end
def cR(K:Frag)(H:Hp)(a:Addr)(xs:List V):Prop:=
 Rd H a (.lst xs) ∨
  ∃(o:Obj)(its:Array Value)(n:Nat),K.lookup a=some o∧o.cls=.type "list"∧o.dict=none∧o.data=.seq its n∧its.size≤sizeLine∧Vals xs its.toList
def bQ(K:Frag)(H:Hp)(a:Addr)(xs:List V):Prop:=
 Rd H a (.tup xs) ∨
  ∃(o:Obj)(its:Array Value)(n:Nat),K.lookup a=some o∧o.cls=.type "tuple"∧o.data=.seq its n∧its.size≤sizeLine∧Vals xs its.toList
noncomputable def rQ:Value→Option V
 | .none=>some .cm
 | .bool b=>some (.bl b)
 | .int i _=>some (.int i)
 | .str x _=>some (.str x)
 | .bytes b _=>some (.jQ b)
 | .float b _=>some (.rG b)
 | .ref a=>some (.ref a)
 | .type n=>some (.ty n)
 |_=>none
theorem RelV.abs{x:V}(r:RelV x u):rQ u=some x:=by
 cases x with
 |cm=>cases r;rfl
 |bl _=>cases r;rfl
 |int _=>obtain⟨t,rfl⟩:=r;rfl
 |str _=>obtain⟨t,rfl⟩:=r;rfl
 |jQ _=>obtain⟨t,rfl⟩:=r;rfl
 |rG _=>obtain⟨t,rfl⟩:=r;rfl
 |ref _=>cases r;rfl
 |ty _=>cases r;rfl
theorem RelV.inj{x y:V}{u:Value}(r:RelV x u)(q:RelV y u):x=y:=eM (r.abs.symm.trans q.abs)
theorem Vals.inj:∀{xs ys:List V}{us:List Value},Vals xs us→Vals ys us→xs=ys
 |_,_,_,.nil,.nil=>rfl
 |_,_,_,.cons r t,.cons r' t'=>by rw[r.inj r',Vals.inj t t']
section
variable{X:Cx}{aF:List (Addr×Obj)}{σ:St}{H:Hp}{s:Shared}{a:Addr}{xs ys:List V}
theorem cR.of{K:Frag}(h:H a=some (.lst xs)):cR K H a xs:=.inl (.inl h)
theorem bQ.of{K:Frag}(h:H a=some (.tup xs)):bQ K H a xs:=.inl (.inl h)
theorem Inv.list(I:Inv X aF σ H s)(h:cR X.K H a xs):∃its:List Value,Vals xs its∧PlainL s.heap a its.toArray∧xs.length≤sizeLine:=by
 rcases h with h|⟨o,its,n,hk,hc,hd,hs,hz,r⟩
 ·obtain⟨z,its,n,r,e⟩:=h.ok I.bz;exact⟨its,r,⟨_,n,e,rfl,rfl,rfl⟩,z⟩
 ·refine⟨its.toList,r,⟨o,n,I.eS a o hk,hc,hd,by simpa using hs⟩,?_⟩;have e:=r.length;simp only[Array.length_toList]at e;lia
theorem Inv.tuple(I:Inv X aF σ H s)(h:bQ X.K H a xs):∃its:List Value,Vals xs its∧IsTup s.heap a its.toArray∧xs.length≤sizeLine:=by
 rcases h with h|⟨o,its,n,hk,hc,hs,hz,r⟩
 ·obtain⟨z,its,r,p⟩:=h.ok I.bz;exact⟨its,r,p.tup,z⟩
 ·refine⟨its.toList,r,⟨o,I.eS a o hk,hc,n,by simpa using hs⟩,?_⟩;have e:=r.length;simp only[Array.length_toList]at e;lia
theorem Inv.MQ(I:Inv X aF σ H s)(h:cR X.K H a xs)(h':cR X.K H a ys):xs=ys:=by
 obtain⟨its,r,⟨o,n,e,_,_,d⟩,_⟩:=I.list h;obtain⟨its',r',⟨o',n',e',_,_,d'⟩,_⟩:=I.list h';rw[e]at e';cases e';rw[d]at d';injection d' with d1 _
 have:its=its':=by simpa using aj Array.toList d1
 subst this;exact r.inj r'
theorem Inv.MR(I:Inv X aF σ H s)(h:bQ X.K H a xs)(h':bQ X.K H a ys):xs=ys:=by
 obtain⟨its,r,⟨o,e,_,n,d⟩,_⟩:=I.tuple h;obtain⟨its',r',⟨o',e',_,n',d'⟩,_⟩:=I.tuple h';rw[e]at e';cases e';rw[d]at d';injection d' with d1 _
 have:its=its':=by simpa using aj Array.toList d1
 subst this;exact r.inj r'
end
noncomputable abbrev Cx.mr(X:Cx)(E:QV):Cx:={ X with xe:=E }
noncomputable abbrev Cx.rR(X:Cx):Cx:=X.mr λ_ _=>False
theorem Cx.Ok.mr{X:Cx}(ok:X.Ok)(E:QV):(X.mr E).Ok:=
 ⟨ok.mod,ok.kind,ok.glob,ok.blt,ok.above,ok.inj,ok.has,ok.uI,ok.hd,ok.frames,ok.xl,ok.uJ,ok.bs,ok.oP,ok.uK,ok.rL,ok.kY,ok.rM⟩
theorem Cx.Ok.oT(ok:(X.mr E).Ok):X.Ok:=
 ⟨ok.mod,ok.kind,ok.glob,ok.blt,ok.above,ok.inj,ok.has,ok.uI,ok.hd,ok.frames,ok.xl,ok.uJ,ok.bs,ok.oP,ok.uK,ok.rL,ok.kY,ok.rM⟩
section
variable{X:Cx}{aF:List (Addr×Obj)}{σ:St}{H:Hp}{s:Shared}{E:QV}
theorem Inv.mr(I:Inv X aF σ H s)(E:QV):Inv (X.mr E) aF σ H s:=⟨I.ok.mr E,I.os,I.bare,I.base,I.loc,I.cell,I.free,I.mn,I.pin,I.bz,I.len⟩
theorem Inv.oT(I:Inv (X.mr E) aF σ H s):Inv X aF σ H s:=⟨I.ok.oT,I.os,I.bare,I.base,I.loc,I.cell,I.free,I.mn,I.pin,I.bz,I.len⟩
theorem SP.oT{D:Ends}{f:Flow}{s':Shared}(h:SP (X.mr E) aF D f s'):SP X aF D f s':=by
 cases f with
 |next=>obtain⟨σ',H',I,q⟩:=h;exact⟨σ',H',I.oT,q⟩
 |brk=>obtain⟨σ',H',I,q⟩:=h;exact⟨σ',H',I.oT,q⟩
 |cont=>obtain⟨σ',H',I,q⟩:=h;exact⟨σ',H',I.oT,q⟩
 |ret u=>obtain⟨v,σ',H',I,r,q⟩:=h;exact⟨v,σ',H',I.oT,r,q⟩
theorem jt.rR{st:List Stmt}{t:TS}(h:jt X.rR st t):jt X st t:=λaF s σ H D I hw=>
 ah (h aF s σ H D (I.mr _) hw) (λ_ _ q=>q.oT) λ_ _ z=>False.elim z
end
section
variable{X:Cx}{st:Stmt}{cQ:List Stmt}{t u:TS}{e:Expr}{te:TE}{pos:Pos}
def gk:TS:=λD σ H=>D.nx σ H
def bu(t u:TS):TS:=λD σ H=>t { D with nx:=u D } σ H
theorem dW:jt X [] gk:=λ_ _ σ H _ I h=>wpAny_execs_nil ⟨σ,H,I,h⟩
theorem ba(h1:PS X st t)(h2:jt X cQ u):jt X (st::cQ) (bu t u):=by
 intro aF s σ H D I h;refine wpAny_execs_cons (aM (h1 aF s σ H { D with nx:=u D } I h) λf s1 q=>?_);cases f with
 |next=>
  obtain⟨σ',H',I',q⟩:=q;exact h2 aF s1 σ' H' D I' q
 |ret v=>exact q
 |brk=>exact q
 |cont=>exact q
theorem bj(h1:PS X st t):jt X [st] t:=by
 intro aF s σ H D I h;refine wpAny_execs_cons (aM (h1 aF s σ H D I h) λf s1 q=>?_);cases f with
 |next=>exact wpAny_execs_nil q
 |ret v=>exact q
 |brk=>exact q
 |cont=>exact q
theorem Inv.quiet(I:Inv X aF σ H s):interactive X.env=false:=by simp[interactive,I.ok.kind]
def rS(te:TE):TS:=λD σ H=>te σ H λ_ H1=>D.nx σ H1
theorem jS(he:PE X e te)(hs:swapsWith e none pos.line X.env=pure false:=by rfl):PS X (.Expr e pos) (rS te):=by
 intro aF s σ H D I h;exact wpAny_Expr_any (aM (he aF s σ H _ I h) λv s1 ⟨x,H1,I1,r1,q1⟩=>⟨σ,H1,I1,q1⟩) I.quiet hs
def ft(te:TE):TS:=λD σ H=>te σ H D.rt
theorem cA(he:PE X e te):PS X (.Return (some e) pos) (ft te):=by
 intro aF s σ H D I h;exact wpAny_Return_some (aM (he aF s σ H _ I h) λv s1 ⟨x,H1,I1,r1,q1⟩=>⟨x,σ,H1,I1,r1,q1⟩)
def dQ(c:TT)(t u:TS):TS:=λD σ H=>c σ H λb H1=>if b=true then t D σ H1 else u D σ H1
theorem cS{a b:List Stmt}{tc:TT}(hc:PT X c tc)(ha:jt X a t)(hb:jt X b u):PS X (.If c a b pos) (dQ tc t u):=by
 intro aF s σ H D I h;refine wpAny_If (aM (hc aF s σ H _ I h) λd s1 ⟨H1,I1,q1⟩=>?_);cases d with
 |true=>exact ha aF s1 σ H1 D I1 q1
 |false=>exact hb aF s1 σ H1 D I1 q1
def MT:TS:=λ_ _ _=>False
theorem MU:PS X st MT:=λ_ _ _ _ _ _ h=>h.elim
end
abbrev TG:=V→St→Hp→(St→Hp→Prop)→Prop
abbrev mw:=List V→St→Hp→(St→Hp→Prop)→Prop
def PG(X:Cx)(target:Expr)(t:TG):Prop:=
 ∀(aF:List (Addr×Obj))(s:Shared)(σ:St)(H:Hp)(v:V)(u:Value)(Q:St→Hp→Prop),Inv X aF σ H s→RelV v u→t v σ H Q→
  wpAny (model X.prog X.w) X.A (assign target X.env u) (λ_ s'=>∃σ' H',Inv X aF σ' H' s'∧Q σ' H') X.xe s
def rT(X:Cx)(ts:List Expr)(t:mw):Prop:=
 ∀(aF:List (Addr×Obj))(s:Shared)(σ:St)(H:Hp)(vs:List V)(us:List Value)(Q:St→Hp→Prop),Inv X aF σ H s→Vals vs us→t vs σ H Q→
  wpAny (model X.prog X.w) X.A (assignInOrder ((assignEach ts X.env).map (·.2)) us) (λ_ s'=>∃σ' H',Inv X aF σ' H' s'∧Q σ' H') X.xe s
abbrev xv:=V→V→Hp→VK→Prop
def Aq(X:Cx)(op:Operator)(t:xv):Prop:=
 ∀(aF:List (Addr×Obj))(s:Shared)(σ:St)(H:Hp)(x y:V)(v u:Value)(Q:VK),Inv X aF σ H s→RelV x v→RelV y u→t x y H Q→
  wpAny (model X.prog X.w) X.A (inplaceOp op v u) (EP X aF σ Q) X.xe s
section
variable{X:Cx}{pos:Pos}
def bo(i:Nat):TG:=λv σ H Q=>Q (σ.set i (some v)) H
theorem cB(hN:X.N.Nodup)(hi:X.N[i]?=some x)(hx:Loc X.env.scope x)(hf:X.fn x=true∨X.env.scope.names.lookup x=some .local:=by first|exact .inl rfl|exact .inr rfl|assumption):PG X (.Name x pos) (bo i):=by
 intro aF s σ H v u Q I r h;exact wpAny_assign_Name (Ao I hN hi hx r (λs' I'=>⟨_,H,I',h⟩) hf)
def qb:mw:=λvs σ H Q=>vs=[]∧Q σ H
def ip(t:TG)(u:mw):mw:=λvs σ H Q=>∃v r,vs=v::r∧t v σ H λσ' H'=>u r σ' H' Q
theorem kZ:rT X [] qb:=by
 intro aF s σ H vs us Q I r h;obtain⟨e,h⟩:=h;subst e;cases r;exact assignInOrder_nil ⟨σ,H,I,h⟩
theorem eh{es:List Expr}{t:TG}{u:mw}(h1:PG X e t)(h2:rT X es u)
  (hs:(assignEach (e::es) X.env).map (·.2)=assign e X.env::(assignEach es X.env).map (·.2):=by rfl):rT X (e::es) (ip t u):=by
 intro aF s σ H vs us Q I r h;obtain⟨v,vr,e1,h⟩:=h;subst e1;cases r with
 |cons r rr=>
  rw[hs];refine assignInOrder_cons (aM (h1 aF s σ H _ _ _ I r h) λ_ s1 ⟨σ1,H1,I1,q1⟩=>?_);exact h2 aF s1 σ1 H1 _ _ Q I1 rr q1
def Ar(K:Frag)(n:Nat)(t:mw):TG:=λv σ H Q=>∃a xs,v=.ref a∧bQ K H a xs∧xs.length=n∧t xs σ H Q
theorem MV{es:List Expr}{k:Nat}{t:mw}(hc:X.calm=true)(h:rT X es t)
  (hn:(assignEach es X.env).length=n:=by rfl) (uO:(assignEach es X.env).findIdx? (·.1)=none:=by rfl):PG X (.Tuple es k pos) (Ar X.K n t):=by
 intro aF s σ H v u Q I r hw;obtain⟨a,xs,e1,hq,hl,hw⟩:=hw;subst e1;cases r;obtain⟨its,rv,ht,hz⟩:=I.tuple hq;refine assign_Tuple_tuple (I.ok.hd hc) ht (by simp[hn,← hl,rv.length]) uO λh' hx=>?_;have I1:Inv X aF σ H { s with heap:=h' }:=I.kept (t':=s.toks) λb o e=>hx b o (kO (eW e)) e;exact h aF _ σ H xs _ Q I1 (by simpa using rv) hw
def cx(te:TE)(g:TG):TS:=λD σ H=>te σ H λx H1=>g x σ H1 D.nx
theorem nX(he:PE X e te)(hg:PG X tg g)(hs:swapsWithSole [tg] e pos.line X.env=pure false:=by rfl)(hw:swappedStores [tg] e X.env=pure none:=by rfl)
  (h1:(assignEach [tg] X.env).map (·.2)=[assign tg X.env]:=by rfl):PS X (.Assign [tg] e pos) (cx te g):=by
 intro aF s σ H D I h;refine wpAny_Assign_stores (aM (he aF s σ H _ I h) λv s1 ⟨x,H1,I1,r1,q1⟩=>?_) hs hw;rw[h1];exact aM (hg aF s1 σ H1 x v _ I1 r1 q1) λ_ s2 q=>q
theorem bw{ju:Pos}(hN:X.N.Nodup)(hi:X.N[i]?=some x)(hx:Loc X.env.scope x)(he:PE X e te)(hs:swapsWith e (some (.Name x ju)) pos.line X.env=pure false:=by rfl)(hf:X.fn x=true∨X.env.scope.names.lookup x=some .local:=by first|exact .inl rfl|exact .inr rfl|assumption) :
  PS X (.Assign [.Name x ju] e pos) (cx te (bo i)):=by
 intro aF s σ H D I h;refine wpAny_Assign_Name (aM (he aF s σ H _ I h) λv s1 ⟨y,H1,I1,r1,q1⟩=>?_) hs;exact Ao I1 hN hi hx r1 (λs2 I2=>⟨_,H1,I2,q1⟩) hf
def MW(i:Nat)(te:TE)(ti:xv):TS:=λD σ H=>∃x,σ[i]?=some (some x)∧te σ H λy H1=>ti x y H1 λz H2=>D.nx (σ.set i (some z)) H2
theorem As{op:Operator}{ti:xv}{ju:Pos}(hN:X.N.Nodup)(hi:X.N[i]?=some x)(hx:Loc X.env.scope x)(he:PE X e te)(ho:Aq X op ti)(hf:X.fn x=true∨X.env.scope.names.lookup x=some .local:=by first|exact .inl rfl|exact .inr rfl|assumption) :
  PS X (.AugAssign (.Name x ju) op e pos) (MW i te ti):=by
 intro aF s σ H D I h;obtain⟨v,e1,h⟩:=h;obtain⟨m,hn,hl⟩:=I.loc;have MX:rK X.env.scope x:=by rcases hx with k|k;exact .inl k;exact .inr (.inl k)
 obtain⟨u,r,l⟩:=hl i x v hi e1 MX;refine wpAny_AugAssign_Name ?_;have go:wpAny (model X.prog X.w) X.A (eval e X.env) (λw s₂=>wpAny (model X.prog X.w) X.A (inplaceOp op u w) (λr s₃=>wpAny (model X.prog X.w) X.A (storeName X.env x r) (λ_=>SP X aF D .next) X.xe s₃) X.xe s₂) X.xe s:=by
  refine aM (he aF s σ H _ I h) λw s1 ⟨y,H1,I1,r1,q1⟩=>?_;refine aM (ho aF s1 σ H1 v y u w _ I1 r r1 q1) λz s2 ⟨zv,H2,I2,r2,q2⟩=>?_;exact Ao I2 hN hi hx r2 (λs3 I3=>⟨_,H2,I3,q2⟩) hf
 rcases l with⟨hk,hm⟩|⟨hk,c,hc,xp⟩
 ·exact wpAny_loadName_local I.ok.kind hk hn hm go
 ·rcases hk with hk|hk
  ·exact wpAny_loadName_cell I.ok.kind hk hc xp go
  ·rcases hx with k|k
   ·have:X.env.scope.names.lookup x=some .free:=hk
    rw[k]at this;cases this
   ·have:X.env.scope.names.lookup x=some .free:=hk
    rw[k]at this;cases this
def MY(f:Int→Int→Int):xv:=λx y H Q=>∃i j,x=.int i∧y=.int j∧Q (.int (f i j)) H
theorem EG:Aq X .Add (MY λi j=>i+j):=by
 intro aF s σ H x y v u Q I r1 r2 h;obtain⟨i,j,e1,e2,q⟩:=h;subst e1;subst e2;obtain⟨t,rfl⟩:=r1;obtain⟨t',rfl⟩:=r2;exact iadd_int ⟨.int _,H,I.tok _,⟨_,rfl⟩,q⟩
end
section
variable{X:Cx}{pos:Pos}
def MZ(c:TT)(tb:TS):TS:=λD σ H=>∃W:Nat→St→Hp→Prop,(∃m,W m σ H)∧∀m σ H,W m σ H→
 c σ H λb H1=>if b=true then ∃N:St→Hp→Prop,(∀σ' H',N σ' H'→∃m',m'<m∧W m' σ' H')∧tb { D with nx:=N,ct:=N,bk:=D.nx } σ H1 else D.nx σ H1
theorem M0{tc:TT}(hp:PassesOwn (model X.prog X.w) X.A X.env X.xe)(hc:PT X c tc)(hb:jt X body tb):PS X (.While c body [] pos) (MZ tc tb):=by
 intro aF s σ H D I h;obtain⟨W,⟨m0,w0⟩,lg⟩:=h;refine wpAny_While (codeAny_whileLoop (λn s'=>∃σ' H',Inv X aF σ' H' s'∧W n σ' H') ?_ m0 ⟨σ,H,I,w0⟩);rintro n s1 ⟨σ1,H1,I1,w1⟩;refine ak hp (aM (hc aF s1 σ1 H1 _ I1 (lg n σ1 H1 w1)) λb s2 ⟨H2,I2,q2⟩=>?_);cases b with
 |true=>
  obtain⟨N,hN,q2⟩:=q2;rw[af rfl];refine ak hp (aM (hb aF s2 σ1 H2 _ I2 q2) λf s3 q3=>?_);cases f with
  |next=>
   obtain⟨σ3,H3,I3,n3⟩:=q3;obtain⟨m',hm,w3⟩:=hN σ3 H3 n3;exact⟨m',hm,σ3,H3,I3,w3⟩
  |cont=>
   obtain⟨σ3,H3,I3,n3⟩:=q3;obtain⟨m',hm,w3⟩:=hN σ3 H3 n3;exact⟨m',hm,σ3,H3,I3,w3⟩
  |brk=>exact q3
  |ret v=>exact q3
 |false=>
  rw[ag fi];exact wpAny_execs_nil ⟨σ1,H2,I2,q2⟩
end
structure It where
 go:Nat→Hp→Prop
 oU:Nat→Hp→V→Hp→Prop
 stop:Nat→Hp→Prop
def iC(X:Cx)(aF:List (Addr×Obj))(H:Hp)(b:Addr):Prop:=
 H b=none∧b≠X.env.locals∧b ∉ X.fs∧(b∈X.ex∨X.s₀.heap.objs.size≤b)∧(∀x c,X.env.cells.lookup x=some c→c≠b)∧∀p∈X.pn++aF,p.1≠b
theorem Inv.nY{H':Hp}(I:Inv X aF σ H s)(hb:s.heap.objs.size≤b)(hn:H' b=none):iC X aF H' b:=by
 refine⟨hn,Nat.ne_of_gt (jo I.lt hb),I.MD hb,.inr (eu I.sz hb),λx c e z=>?_,λp hp z=>?_⟩
 ·obtain⟨v,q⟩:=I.cell x c e;exact absurd (jo q.lt (by rw[z];exact hb)) (rq _)
 ·exact absurd (jo (eW (I.pin p hp).1) (by rw[z];exact hb)) (rq _)
structure Turn(P:Program)(w:World)(K:Frag)(tg:Expr)(J:It)(fp:List Addr)(it:Addr)(tn:Nat→Heap→Prop):Prop where
 mem:it∈fp
 obj:∀i h,tn i h→∀b∈fp,∃o,h.get? b=some o∧∀v,o.data≠.cell v
 keep:∀i h h',tn i h→(∀b∈fp,∀o,h.get? b=some o→h'.get? b=some o)→tn i h'
 item:∀(X:Cx),X.prog=P→X.w=w→X.K=K→X.calm=true→∀(i:Nat)(aF:List (Addr×Obj))(s:Shared)(σ:St)(H:Hp)(E:QV),Inv X aF σ H s→(∀b∈fp,iC X aF H b)→tn i s.heap→J.go i H→
  wpAny (model P w) X.A (pyNext (.ref it)) (λr s1=>∃u,r=some u∧
   wpAny (model P w) X.A (letOwnedTupleGo tg (.ref it) u) (λ_ s2=>∃x H',Inv X aF σ H' s2∧RelV x u∧J.oU i H x H'∧tn (i+1) s2.heap∧∀b∈fp,H' b=none) E s1) E s
 done:∀(X:Cx),X.prog=P→X.w=w→X.K=K→X.calm=true→∀(i:Nat)(aF:List (Addr×Obj))(s:Shared)(σ:St)(H:Hp)(E:QV),Inv X aF σ H s→(∀b∈fp,iC X aF H b)→tn i s.heap→J.stop i H→
  wpAny (model P w) X.A (pyNext (.ref it)) (λr s1=>r=none∧Inv X aF σ H s1) E s
 self:∀(A:Around)(i:Nat)(s:Shared)(Q:QV)(E:QV),tn i s.heap→Q (.ref it) s→wpAny (model P w) A (pyIter (.ref it)) Q E s
abbrev TI:=St→Hp→(It→Hp→Prop)→Prop
def Au(X:Cx)(aF:List (Addr×Obj))(σ:St)(tg:Expr)(R:It→Hp→Prop)(xw:Value)(s2:Shared):Prop:=
 ∃(it:Addr)(fp:List Addr)(tn:Nat→Heap→Prop)(J:It)(H':Hp),xw=.ref it∧Inv X aF σ H' s2∧Turn X.prog X.w X.K tg J fp it tn∧tn 0 s2.heap∧(∀b∈fp,iC X aF H' b)∧R J H'
def PI(X:Cx)(tg iter:Expr)(wi:TI):Prop:=
 ∀(aF:List (Addr×Obj))(s:Shared)(σ:St)(H:Hp)(R:It→Hp→Prop),Inv X aF σ H s→wi σ H R→
  wpAny (model X.prog X.w) X.A (eval iter X.env) (λv s1=>wpAny (model X.prog X.w) X.A (pyIter v) (Au X aF σ tg R) X.xe s1) X.xe s
theorem xx{it:Addr}{o:Obj}{n:String}{vs:Array Value}(ho:s.heap.get? it=some o)(hc:o.cls=.type n)(hd:o.data=.fields vs)
  (hn:["enumerate","zip","dict_itemiterator","dict_reverseitemiterator","odict_iterator","itertools.zip_longest","itertools.pairwise"].contains n=false) (hQ:Q () s):wpAny M A (letOwnedTupleGo tg (.ref it) u) Q E s:=by
 unfold letOwnedTupleGo;cases tg<;>first
  |exact ao hQ
  |(cases u<;>first
    |exact ao hQ
    |(refine aq (wpAny_load ho ?_);rw[hc,hd];show wpAny M A (if(["enumerate","zip","dict_itemiterator","dict_reverseitemiterator","odict_iterator","itertools.zip_longest","itertools.pairwise"].contains n&&vs[0]? == some (rawInt _))=true then _ else _) Q E s;rw[ag (by intro h;rw[hn,Bool.false_and]at h;cases h)];exact ao hQ))
noncomputable def oV(K:Frag)(a:Addr):It:=
 ⟨λi H=>∃xs x,cR K H a xs∧xs[i]?=some x,λi H x H'=>H'=H∧∀xs,cR K H a xs→xs[i]?=some x,λi H=>∃xs,cR K H a xs∧xs.length≤i⟩
noncomputable def uP(K:Frag)(a:Addr):It:=
 ⟨λi H=>∃xs x,bQ K H a xs∧xs[i]?=some x,λi H x H'=>H'=H∧∀xs,bQ K H a xs→xs[i]?=some x,λi H=>∃xs,bQ K H a xs∧xs.length≤i⟩
noncomputable def oW(lo:Int)(n:Nat):It:=⟨λi _=>i<n,λi H x H'=>H'=H∧x=.int (lo+i),λi _=>n≤i⟩
theorem M1{P:Program}{w:World}{K:Frag}(a it:Addr):Turn P w K tg (oV K a) [it] it (λi h=>h.IsListIter it a i) where
 mem:=by simp
 obj:=λi h st b hb=>by
  have e:b=it:=by simpa using hb
  subst e;obtain⟨o,e,c,d⟩:=st;exact⟨o,e,λv z=>by rw[d]at z;cases z⟩
 keep:=λi h h' st k=>st.at λo e=>k it (by simp) o e
 item:=by
  intro X hP hw hK hc i aF s σ H E I hf st hg;subst hP hw hK;obtain⟨xs,x,hq,hx⟩:=hg;obtain⟨its,rv,p,hz⟩:=I.list hq;obtain⟨u,hu,ru⟩:=rv.get hx;obtain⟨f0,f1,f2,f3,f4,f5⟩:=hf it (by simp);refine wpAny_pyNext_list_item st p.isList (x:=u) (by simpa using hu) λh' lj sb=>?_;have I1:Inv X aF σ H { s with heap:=h' }:=I.turned (t':=s.toks) (λb o hb e=>(sb.2 b hb).trans e) f0 f1 f3 f4 f5;obtain⟨o,e,c,d⟩:=id lj;exact⟨u,rfl,xx (s:={ s with heap:=h' }) e c d (by decide) ⟨x,H,I1,ru,⟨rfl,λys hy=>by rw[I.MQ hy hq];exact hx⟩,lj,λb hb=>(hf b hb).1⟩⟩
 done:=by
  intro X hP hw hK hc i aF s σ H E I hf st hg;subst hP hw hK;obtain⟨xs,hq,hx⟩:=hg;obtain⟨its,rv,p,hz⟩:=I.list hq;obtain⟨f0,f1,f2,f3,f4,f5⟩:=hf it (by simp);have hl:=rv.length;exact wpAny_pyNext_list_end (I.ok.hd hc) st p.isList (by simp;lia) λh' eb=>⟨rfl,I.turned (t':=s.toks) (λb o hb e=>eb b o hb e) f0 f1 f3 f4 f5⟩
 self:=λ_ _ _ _ _ st h=>wpAny_pyIter_listiter st h
theorem M3{P:Program}{w:World}{K:Frag}(a it:Addr):Turn P w K tg (uP K a) [it] it (λi h=>h.IsTupleIter it a i) where
 mem:=by simp
 obj:=λi h st b hb=>by
  have e:b=it:=by simpa using hb
  subst e;obtain⟨o,e,c,d⟩:=st;exact⟨o,e,λv z=>by rw[d]at z;cases z⟩
 keep:=λi h h' st k=>st.at λo e=>k it (by simp) o e
 item:=by
  intro X hP hw hK hc i aF s σ H E I hf st hg;subst hP hw hK;obtain⟨xs,x,hq,hx⟩:=hg;obtain⟨its,rv,p,hz⟩:=I.tuple hq;obtain⟨u,hu,ru⟩:=rv.get hx;obtain⟨f0,f1,f2,f3,f4,f5⟩:=hf it (by simp);refine wpAny_pyNext_tuple_item st (show s.heap.IsTuple a its.toArray from p) (x:=u) (by simpa using hu) λh' lj sb=>?_
  have I1:Inv X aF σ H { s with heap:=h' }:=I.turned (t':=s.toks) (λb o hb e=>(sb.2 b hb).trans e) f0 f1 f3 f4 f5;obtain⟨o,e,c,d⟩:=id lj;exact⟨u,rfl,xx (s:={ s with heap:=h' }) e c d (by decide) ⟨x,H,I1,ru,⟨rfl,λys hy=>by rw[I.MR hy hq];exact hx⟩,lj,λb hb=>(hf b hb).1⟩⟩
 done:=by
  intro X hP hw hK hc i aF s σ H E I hf st hg;subst hP hw hK;obtain⟨xs,hq,hx⟩:=hg;obtain⟨its,rv,p,hz⟩:=I.tuple hq;obtain⟨f0,f1,f2,f3,f4,f5⟩:=hf it (by simp);have hl:=rv.length;exact wpAny_pyNext_tuple_end (I.ok.hd hc) st (show s.heap.IsTuple a its.toArray from p) (by simp;lia) λh' eb=>⟨rfl,I.turned (t':=s.toks) (λb o hb e=>eb b o hb e) f0 f1 f3 f4 f5⟩
 self:=λ_ _ _ _ _ st h=>wpAny_pyIter_tupleiter st h
theorem M4{P:Program}{w:World}{K:Frag}(it:Addr)(lo:Int)(n:Nat):Turn P w K tg (oW lo n) [it] it (λi h=>IsRangeIter h it (lo+(i:Nat)*1) ((n:Int)-(i:Nat)) 1) where
 mem:=by simp
 obj:=λi h st b hb=>by
  have e:b=it:=by simpa using hb
  subst e;exact⟨_,st,λv z=>by
   have z':Data.fields _=Data.cell v:=z;cases z'⟩
 keep:=λi h h' st k=>k it (by simp) _ st
 item:=by
  intro X hP hw hK hc i aF s σ H E I hf st hg;subst hP hw hK;obtain⟨f0,f1,f2,f3,f4,f5⟩:=hf it (by simp);have W:=Walks.range (prog:=X.prog) (w:=X.w) (I.ok.hd hc) it lo 1 n;refine W.item i s _ _ hg st λv h' tk hv lj kk=>?_;obtain⟨t,rfl⟩:=hv;have I1:Inv X aF σ H { s with heap:=h',toks:=tk }:=I.turned (λb o hb e=>kk b o (by simpa using hb) e) f0 f1 f3 f4 f5;refine⟨_,rfl,xx (s:={ s with heap:=h',toks:=tk }) (n := "range_iterator") lj rfl rfl (by decide) ⟨.int (lo+i),H,I1,⟨t,?_⟩,⟨rfl,rfl⟩,lj,λb hb=>(hf b hb).1⟩⟩;rw[Int.mul_one]
 done:=by
  intro X hP hw hK hc i aF s σ H E I hf st hg;subst hP hw hK;obtain⟨f0,f1,f2,f3,f4,f5⟩:=hf it (by simp);exact wpAny_pyNext_range_end (I.ok.hd hc) st (by have:n≤i:=hg;lia) λh' eb=>⟨rfl,I.turned (t':=s.toks) (λb o hb e=>eb b o hb e) f0 f1 f3 f4 f5⟩
 self:=λ_ _ _ _ _ st h=>wpAny_pyIter_rangeiter st h
section
variable{X:Cx}{tg:Expr}
def qc(K:Frag)(tl:TE):TI:=λσ H R=>tl σ H λx H1=>∃a,x=.ref a∧(∃xs,cR K H1 a xs)∧R (oV K a) H1
def EH(K:Frag)(tl:TE):TI:=λσ H R=>tl σ H λx H1=>∃a,x=.ref a∧(∃xs,bQ K H1 a xs)∧R (uP K a) H1
theorem M5{l:Expr}{tl:TE}(hl:PE X l tl):PI X tg l (qc X.K tl):=by
 intro aF s σ H R I h;refine aM (hl aF s σ H _ I h) λv s1 ⟨x,H1,I1,r1,q1⟩=>?_;obtain⟨a,e,⟨xs,hq⟩,q⟩:=q1;subst e;cases r1;obtain⟨its,rv,p,hz⟩:=I1.list hq;refine wpAny_pyIter_list p.isList ?_;refine⟨s1.heap.objs.size,[s1.heap.objs.size],_,_,H1,rfl,I1.kept (t':=s1.toks) λb o e=>fc _ e,M1 a _,⟨_,jL _ rfl,rfl,rfl⟩,λb hb=>?_,q⟩;have e:b=s1.heap.objs.size:=by simpa using hb
 subst e;exact I1.nY (bH _) (I1.bz.fresh (bH _))
theorem M6{l:Expr}{tl:TE}(hl:PE X l tl):PI X tg l (EH X.K tl):=by
 intro aF s σ H R I h;refine aM (hl aF s σ H _ I h) λv s1 ⟨x,H1,I1,r1,q1⟩=>?_;obtain⟨a,e,⟨xs,hq⟩,q⟩:=q1;subst e;cases r1;obtain⟨its,rv,p,hz⟩:=I1.tuple hq;refine wpAny_pyIter_tuple (show s1.heap.IsTuple a its.toArray from p) ?_
 refine⟨s1.heap.objs.size,[s1.heap.objs.size],_,_,H1,rfl,I1.kept (t':=s1.toks) λb o e=>fc _ e,M3 a _,⟨_,jL _ rfl,rfl,rfl⟩,λb hb=>?_,q⟩;have e:b=s1.heap.objs.size:=by simpa using hb
 subst e;exact I1.nY (bH _) (I1.bz.fresh (bH _))
theorem M7{R:It→Hp→Prop}{lo hi:Int}{t u v:Tok}{tk:Nat}(I:Inv X aF σ H s)(h1:-(2^62)≤lo)(h2:lo<2^62)(h3:-(2^62)≤hi)(h4:hi<2^62)
  (q:R (oW lo (hi-lo).toNat) H):wpAny (model X.prog X.w) X.A (pyIter (.ref s.heap.objs.size)) (Au X aF σ tg R) E { s with heap:=s.heap.push { cls:=.type "range",data:=.fields #[.int lo t,.int hi u,.int 1 v] },toks:=tk }:=by
 refine wpAny_pyIter_range (IsRange.new ..) (small_one h1 h2 h3 h4) ?_;have I1:Inv X aF σ H { s with heap:=s.heap.push { cls:=.type "range",data:=.fields #[.int lo t,.int hi u,.int 1 v] },toks:=tk }:=I.kept λb o e=>fc _ e;refine⟨(s.heap.push { cls:=.type "range",data:=.fields #[.int lo t,.int hi u,.int 1 v] }).objs.size,[(s.heap.push { cls:=.type "range",data:=.fields #[.int lo t,.int hi u,.int 1 v] }).objs.size],_,_,H,rfl,
  I1.kept (t':=tk) λb o e=>fc _ e,M4 _ lo (hi-lo).toNat,?_,λb hb=>?_,q⟩
 ·have e1:lo+((0:Nat):Int)*1=lo:=by simp
  have e2:(((hi-lo).toNat:Nat):Int)-((0:Nat):Int)=Builtin.Range.rangeSize lo hi 1:=by rw[rangeSize_one];split<;>lia
  show IsRangeIter _ _ (lo+((0:Nat):Int)*1) ((((hi-lo).toNat:Nat):Int)-((0:Nat):Int)) 1;rw[e1,e2];exact jL _ rfl
 ·have e:b=(s.heap.push { cls:=.type "range",data:=.fields #[.int lo t,.int hi u,.int 1 v] }).objs.size:=by simpa using hb
  subst e;exact I1.nY (bH _) (I1.bz.fresh (bH _))
def xy(ta:TA):TI:=λσ H R=>ta σ H λvs H1=>∃j:Int,vs=[.int j]∧-(2^62)≤j∧j<2^62∧R (oW 0 j.toNat) H1
theorem qd{a:Expr}{ta:TA}{p pos:Pos}(hg:Gl X "range")(hm:X.mg "range"=none)(ha:PA X [a] ta)(hs:starEach [a] X.env=[(false,eval a X.env)]:=by rfl):PI X tg (.Call (.Name "range" p) [a] [] pos) (xy ta):=by
 intro aF s σ H R I h;refine Call_ (rO I hg hm boot_range (Ej (aM (ha pos aF s σ H _ I h) λus s1 ⟨vs,H1,I1,r1,q1⟩=>?_) hs rfl));obtain⟨j,e,q1,q2,q⟩:=q1;subst e;cases r1 with
 |cons r rr=>
  cases rr;obtain⟨t,rfl⟩:=r;exact call_range_1 (M7 I1 (by lia) (by lia) q1 q2 (by simpa using q))
def EI(wi:TI)(g:TG)(tb:TS):TS:=λD σ H=>wi σ H λJ H1=>∃W:Nat→Nat→St→Hp→Prop,(∃m,W 0 m σ H1)∧∀i m σ H,W i m σ H→
 (J.stop i H∧D.nx σ H)∨(J.go i H∧∃N:St→Hp→Prop,(∀σ' H',N σ' H'→∃m',m'<m∧W (i+1) m' σ' H')∧∀x H',J.oU i H x H'→g x σ H' λσ2 H2=>tb { D with nx:=N,ct:=N,bk:=D.nx } σ2 H2)
noncomputable def uQ(fp:List Addr)(h:Heap):List (Addr×Obj):=fp.filterMap λb=>(h.get? b).map λo=>(b,o)
theorem xA{o:Obj}(hb:b∈fp)(e:h.get? b=some o):(b,o)∈uQ fp h:=List.mem_filterMap.mpr ⟨b,hb,by rw[e];rfl⟩
theorem M8{p:Addr×Obj}(hp:p∈uQ fp h):p.1∈fp∧h.get? p.1=some p.2:=by
 obtain⟨b,hb,e⟩:=List.mem_filterMap.mp hp;cases q:h.get? b with
 |none=>rw[q]at e;cases e
 |some o=>
  rw[q]at e;have e':(b,o)=p:=eM e;subst e';exact⟨hb,q⟩
theorem Inv.pinned(I:Inv X aF σ H s)(hf:∀b∈fp,iC X aF H b)(ho:∀b∈fp,∃o,s.heap.get? b=some o∧∀v,o.data≠.cell v):Inv X (aF++uQ fp s.heap) σ H s:=
 I.xo λp hp=>(dM.mp hp).elim (λz=>I.pin p (fY _ z)) λz=>by
  obtain⟨hb,e⟩:=M8 z;obtain⟨f0,f1,f2,_⟩:=hf p.1 hb;obtain⟨o,e',d⟩:=ho p.1 hb;rw[e]at e';cases e';exact⟨e,f0,f1,f2,d⟩
theorem Inv.Av{pl:List (Addr×Obj)}(I:Inv X (aF++pl) σ H s):Inv X aF σ H s:=I.xo λp hp=>I.pin p (fY _ (jM _ hp))
theorem ja{iter:Expr}{wi:TI}{pos:Pos}(hp:PassesOwn (model X.prog X.w) X.A X.env X.xe)(hc:X.calm=true)(hi:PI X tg iter wi)(hg:PG X tg g)(hb:jt X body tb)
  (hs:∀x,foldedSetIterable iter X.env x=pure x:=by intro _;rfl):PS X (.For tg iter body [] pos) (EI wi g tb):=by
 intro aF s σ H D I h;refine wpAny_For (aM (hi aF s σ H _ I h) λv s1 h1=>aM h1 λxw s2 h2=>?_) hs;obtain⟨it,fp,tn,J,H2,e,I2,T,oX,f2,W,⟨m0,w0⟩,lg⟩:=h2;subst e;have Aw:∀{H':Hp},(∀b∈fp,H' b=none)→∀b∈fp,iC X aF H' b:=λhn b hb=>⟨hn b hb,(f2 b hb).2⟩;refine codeAny_forLoop_any (λn s'=>∃i σ' H',Inv X aF σ' H' s'∧tn i s'.heap∧(∀b∈fp,H' b=none)∧W i n σ' H') ?_ m0 ⟨0,σ,H2,I2,oX,λb hb=>(f2 b hb).1,w0⟩;rintro n s3 ⟨i,σ3,H3,I3,EJ,EK,w3⟩;rcases lg i n σ3 H3 w3 with⟨stop,qn⟩|⟨go,N,hN,step⟩
 ·refine ak hp (aM (T.done X rfl rfl rfl hc i aF s3 σ3 H3 X.xe I3 (Aw EK) EJ stop) λr s4 ⟨hr,I4⟩=>?_);subst hr;exact wpAny_execs_nil ⟨σ3,H3,I4,qn⟩
 ·refine ak hp (aM (T.item X rfl rfl rfl hc i aF s3 σ3 H3 X.xe I3 (Aw EK) EJ go) λr s4 ⟨u,hr,h4⟩=>?_);subst hr;refine ak hp (aM h4 λ_ s5 ⟨x,H5,I5,r5,y5,Ax,xB⟩=>?_);have M9:=I5.pinned (Aw xB) (T.obj _ _ Ax);refine ak hp (aM (hg _ s5 σ3 H5 x u _ M9 r5 (step x H5 y5)) λ_ s6 ⟨σ6,H6,I6,q6⟩=>?_);refine ak hp (aM (hb _ s6 σ6 H6 _ I6 q6) λf s7 q7=>?_);have again:∀{σ7:St}{H7:Hp},Inv X (aF++uQ fp s5.heap) σ7 H7 s7→N σ7 H7→∃m,m<n∧∃i σ' H',Inv X aF σ' H' s7∧tn i s7.heap∧(∀b∈fp,H' b=none)∧W i m σ' H':=λ{σ7 H7} I7 n7=>by
   obtain⟨m',hm,w7⟩:=hN σ7 H7 n7;refine⟨m',hm,i+1,σ7,H7,I7.Av,T.keep _ _ _ Ax λb hb o e=>(I7.pin (b,o) (fY _ (fY _ (xA hb e)))).1,λb hb=>?_,w7⟩;obtain⟨o,e,d⟩:=T.obj _ _ Ax b hb;exact(I7.pin (b,o) (fY _ (fY _ (xA hb e)))).2.1
  cases f with
  |next=>obtain⟨σ7,H7,I7,n7⟩:=q7;exact again I7 n7
  |cont=>obtain⟨σ7,H7,I7,n7⟩:=q7;exact again I7 n7
  |brk=>obtain⟨σ7,H7,I7,q7⟩:=q7;exact⟨σ7,H7,I7.Av,q7⟩
  |ret v=>obtain⟨x7,σ7,H7,I7,r7,q7⟩:=q7;exact⟨x7,σ7,H7,I7.Av,r7,q7⟩
end
theorem oY{K:Frag}(Pv:Nat→St→Hp→Prop)(h0:Pv 0 σ H)(hl:∀i σ H,i≤xs.length→Pv i σ H→cR K H a xs)
  (hs:∀i x σ H,xs[i]?=some x→Pv i σ H→g x σ H λσ2 H2=>tb { D with nx:=Pv (i+1),ct:=Pv (i+1),bk:=D.nx } σ2 H2) (hd:∀σ H,Pv xs.length σ H→D.nx σ H) :
  ∃W:Nat→Nat→St→Hp→Prop,(∃m,W 0 m σ H)∧∀i m σ H,W i m σ H→
   ((oV K a).stop i H∧D.nx σ H)∨((oV K a).go i H∧∃N:St→Hp→Prop,(∀σ' H',N σ' H'→∃m',m'<m∧W (i+1) m' σ' H')∧∀x H',(oV K a).oU i H x H'→g x σ H' λσ2 H2=>tb { D with nx:=N,ct:=N,bk:=D.nx } σ2 H2):=by
 refine⟨λi m σ H=>m=xs.length-i∧i≤xs.length∧Pv i σ H,⟨xs.length,by simp,Nat.zero_le _,h0⟩,?_⟩;rintro i m σ H ⟨rfl,hi,p⟩;have q:=hl i σ H hi p;by_cases dt:i<xs.length
 ·refine .inr ⟨⟨xs,xs[i],q,by simp[dt]⟩,Pv (i+1),λσ' H' p'=>⟨xs.length-(i+1),by lia,rfl,dt,p'⟩,λx H' y=>?_⟩;obtain⟨e,y⟩:=y;subst e;exact hs i x σ _ (y xs q) p
 ·have e:i=xs.length:=by lia
  subst e;exact .inl ⟨⟨xs,q,bH _⟩,hd σ H p⟩
theorem EL{K:Frag}(Pv:Nat→St→Hp→Prop)(h0:Pv 0 σ H)(hl:∀i σ H,i≤xs.length→Pv i σ H→bQ K H a xs)
  (hs:∀i x σ H,xs[i]?=some x→Pv i σ H→g x σ H λσ2 H2=>tb { D with nx:=Pv (i+1),ct:=Pv (i+1),bk:=D.nx } σ2 H2) (hd:∀σ H,Pv xs.length σ H→D.nx σ H) :
  ∃W:Nat→Nat→St→Hp→Prop,(∃m,W 0 m σ H)∧∀i m σ H,W i m σ H→
   ((uP K a).stop i H∧D.nx σ H)∨((uP K a).go i H∧∃N:St→Hp→Prop,(∀σ' H',N σ' H'→∃m',m'<m∧W (i+1) m' σ' H')∧∀x H',(uP K a).oU i H x H'→g x σ H' λσ2 H2=>tb { D with nx:=N,ct:=N,bk:=D.nx } σ2 H2):=by
 refine⟨λi m σ H=>m=xs.length-i∧i≤xs.length∧Pv i σ H,⟨xs.length,by simp,Nat.zero_le _,h0⟩,?_⟩;rintro i m σ H ⟨rfl,hi,p⟩;have q:=hl i σ H hi p;by_cases dt:i<xs.length
 ·refine .inr ⟨⟨xs,xs[i],q,by simp[dt]⟩,Pv (i+1),λσ' H' p'=>⟨xs.length-(i+1),by lia,rfl,dt,p'⟩,λx H' y=>?_⟩;obtain⟨e,y⟩:=y;subst e;exact hs i x σ _ (y xs q) p
 ·have e:i=xs.length:=by lia
  subst e;exact .inl ⟨⟨xs,q,bH _⟩,hd σ H p⟩
theorem xC{lo:Int}(Pv:Nat→St→Hp→Prop)(h0:Pv 0 σ H)
  (hs:∀i σ H,i<n→Pv i σ H→g (.int (lo+i)) σ H λσ2 H2=>tb { D with nx:=Pv (i+1),ct:=Pv (i+1),bk:=D.nx } σ2 H2) (hd:∀σ H,Pv n σ H→D.nx σ H) :
  ∃W:Nat→Nat→St→Hp→Prop,(∃m,W 0 m σ H)∧∀i m σ H,W i m σ H→
   ((oW lo n).stop i H∧D.nx σ H)∨((oW lo n).go i H∧∃N:St→Hp→Prop,(∀σ' H',N σ' H'→∃m',m'<m∧W (i+1) m' σ' H')∧∀x H',(oW lo n).oU i H x H'→g x σ H' λσ2 H2=>tb { D with nx:=N,ct:=N,bk:=D.nx } σ2 H2):=by
 refine⟨λi m σ H=>m=n-i∧i≤n∧Pv i σ H,⟨n,by simp,Nat.zero_le _,h0⟩,?_⟩;rintro i m σ H ⟨rfl,hi,p⟩;by_cases dt:i<n
 ·refine .inr ⟨dt,Pv (i+1),λσ' H' p'=>⟨n-(i+1),by lia,rfl,dt,p'⟩,λx H' y=>?_⟩;obtain⟨e,y⟩:=y;subst e y;exact hs i σ _ dt p
 ·have e:i=n:=by lia
  subst e;exact .inl ⟨bH _,hd σ H p⟩
abbrev R2:=V→V→Hp→VK→Prop
def eB(X:Cx)(f:Value→Value→Sem Value)(r:R2):Prop:=
 ∀(aF:List (Addr×Obj))(s:Shared)(σ:St)(H:Hp)(x y:V)(v u:Value)(Q:VK),Inv X aF σ H s→RelV x v→RelV y u→r x y H Q→
  wpAny (model X.prog X.w) X.A (f v u) (EP X aF σ Q) X.xe s
def Ay(X:Cx)(f:Value→Sem Value)(r:V→Hp→VK→Prop):Prop:=
 ∀(aF:List (Addr×Obj))(s:Shared)(σ:St)(H:Hp)(x:V)(v:Value)(Q:VK),Inv X aF σ H s→RelV x v→r x H Q→
  wpAny (model X.prog X.w) X.A (f v) (EP X aF σ Q) X.xe s
def eI(X:Cx)(f:Value)(r:List V→Hp→VK→Prop):Prop:=
 ∀(aF:List (Addr×Obj))(s:Shared)(σ:St)(H:Hp)(xs:List V)(us:List Value)(Q:VK),Inv X aF σ H s→Vals xs us→r xs H Q→
  wpAny (model X.prog X.w) X.A (call f us) (EP X aF σ Q) X.xe s
def Na(X:Cx)(r:V→Hp→(Bool→Hp→Prop)→Prop):Prop:=
 ∀(aF:List (Addr×Obj))(s:Shared)(σ:St)(H:Hp)(x:V)(v:Value)(Q:Bool→Hp→Prop),Inv X aF σ H s→RelV x v→r x H Q→
  wpAny (model X.prog X.w) X.A (truthy v) (TP X aF σ Q) X.xe s
def aT(r:R2)(ta tb:TE):TE:=λσ H Q=>ta σ H λx H1=>tb σ H1 λy H2=>r x y H2 Q
def Nb(r:V→Hp→VK→Prop)(ta:TE):TE:=λσ H Q=>ta σ H λx H1=>r x H1 Q
def rI(C:Int→Int→Prop)(g:Int→Int→V):R2:=λx y H Q=>∃i j,x=.int i∧y=.int j∧C i j∧Q (g i j) H
def dX(g:Int→Int→V):R2:=λx y H Q=>∃i j,x=.int i∧y=.int j∧Q (g i j) H
def rU(g:Int→V):V→Hp→VK→Prop:=λx H Q=>∃i,x=.int i∧Q (g i) H
section
variable{X:Cx}{a b c:Expr}{ta tb tc:TE}{pos:Pos}
theorem Az(ha:PE X a ta)(hb:PE X b tb){R:V→V→Hp→Prop}(I:Inv X aF σ H s)
  (h:ta σ H λx H1=>tb σ H1 λy H2=>R x y H2) {Q:QV} {f:Value→Value→Sem Value}
  (hf:∀v u s2 x y H2,Inv X aF σ H2 s2→RelV x v→RelV y u→R x y H2→wpAny (model X.prog X.w) X.A (f v u) Q X.xe s2) :
  wpAny (model X.prog X.w) X.A (eval a X.env) (λv s₁=>wpAny (model X.prog X.w) X.A (eval b X.env) (λu s₂=>wpAny (model X.prog X.w) X.A (f v u) Q X.xe s₂) X.xe s₁) X.xe s:=by
 refine aM (ha aF s σ H _ I h) λv s1 ⟨x,H1,I1,r1,q1⟩=>?_;refine aM (hb aF s1 σ H1 _ I1 q1) λu s2 ⟨y,H2,I2,r2,q2⟩=>?_;exact hf v u s2 x y H2 I2 r1 r2 q2
theorem aU{op:Operator}{r:R2}(ho:eB X (binaryOp op) r)(ha:PE X a ta)(hb:PE X b tb):PE X (.BinOp a op b pos) (aT r ta tb):=by
 intro aF s σ H Q I h;exact wpAny_BinOp (Az ha hb I h λv u s2 x y H2 I2 rx ry q=>ho aF s2 σ H2 x y v u Q I2 rx ry q)
theorem uR{op:UnaryOp}{r:V→Hp→VK→Prop}(ho:Ay X (unaryOp op) r)(ha:PE X a ta):PE X (.UnaryOp op a pos) (Nb r ta):=by
 intro aF s σ H Q I h;exact UnaryOp_ (aM (ha aF s σ H _ I h) λv s1 ⟨x,H1,I1,r1,q1⟩=>ho aF s1 σ H1 x v Q I1 r1 q1)
theorem AA{C:Int→Int→Prop}{g:Int→Int→Int}
  (rule:∀(i j:Int)(t u:Tok)(s:Shared)(Q:QV)(E:QV),C i j→Q (.int (g i j) s.toks) { s with toks:=s.toks+1 }→wpAny (model X.prog X.w) X.A (f (.int i t) (.int j u)) Q E s) :
  eB X f (rI C λi j=>.int (g i j)):=by
 intro aF s σ H x y v u Q I rx ry h;obtain⟨i,j,rfl,rfl,hc,q⟩:=h;obtain⟨t,rfl⟩:=rx;obtain⟨t',rfl⟩:=ry;exact rule i j t t' s _ _ hc ⟨.int (g i j),H,I.tok _,⟨_,rfl⟩,q⟩
theorem EN{g:Int→Int→Int}
  (rule:∀(i j:Int)(t u:Tok)(s:Shared)(Q:QV)(E:QV),Q (.int (g i j) s.toks) { s with toks:=s.toks+1 }→wpAny (model X.prog X.w) X.A (f (.int i t) (.int j u)) Q E s) :
  eB X f (dX λi j=>.int (g i j)):=by
 intro aF s σ H x y v u Q I rx ry h;obtain⟨i,j,rfl,rfl,q⟩:=h;obtain⟨t,rfl⟩:=rx;obtain⟨t',rfl⟩:=ry;exact rule i j t t' s _ _ ⟨.int (g i j),H,I.tok _,⟨_,rfl⟩,q⟩
theorem AB{g:Int→Int→Bool}
  (rule:∀(i j:Int)(t u:Tok)(s:Shared)(Q:QV)(E:QV),Q (.bool (g i j)) s→wpAny (model X.prog X.w) X.A (f (.int i t) (.int j u)) Q E s) :
  eB X f (dX λi j=>.bl (g i j)):=by
 intro aF s σ H x y v u Q I rx ry h;obtain⟨i,j,rfl,rfl,q⟩:=h;obtain⟨t,rfl⟩:=rx;obtain⟨t',rfl⟩:=ry;exact rule i j t t' s _ _ ⟨.bl (g i j),H,I,rfl,q⟩
def nZ(i j:Int):Prop:=0<j∧j<1073741824
def rV(i j:Int):Prop:=(-(2^64)<i∧i<2^64)∨(-(2^64)<j∧j<2^64)
theorem rV.ok{i j:Int}(h:rV i j):IntMulOk i j:=by
 rcases h with⟨h1,h2⟩|⟨h1,h2⟩
 ·exact .of_left (intBits_le_64 h1 h2)
 ·exact .of_right (intBits_le_64 h1 h2)
theorem fu:eB X (binaryOp .Add) (dX λi j=>.int (i+j)):=EN λ_ _ _ _ _ _ _ q=>add_int q
theorem iM:eB X (binaryOp .Sub) (dX λi j=>.int (i-j)):=EN λ_ _ _ _ _ _ _ q=>sub_int q
theorem qe:eB X (binaryOp .Mult) (rI rV λi j=>.int (i*j)):=AA λ_ _ _ _ _ _ _ hc q=>mul_int q hc.ok
theorem jT:eB X (binaryOp .FloorDiv) (rI nZ λi j=>.int (i/j)):=AA λi j _ _ _ _ _ hc q=>by
 have h1:(0:Int)<j:=hc.1;have h2:j<1073741824:=hc.2;exact floordiv_int (by lia) (by rw[Int.fdiv_eq_ediv_of_nonneg i (by lia)];exact q) (.inl (PyProof.noPylong_small (by lia)))
theorem eC:eB X (binaryOp .Mod) (rI (λ_ j=>0<j) λi j=>.int (i%j)):=AA λi j _ _ _ _ _ hc q=>by
 have h1:(0:Int)<j:=hc;exact mod_int' (by lia) (by rw[Int.fmod_eq_emod_of_nonneg i (by lia)];exact q)
theorem Nc{f:Value→Sem Value}{g:Int→Int}
  (rule:∀(i:Int)(t:Tok)(s:Shared)(Q:QV)(E:QV),Q (.int (g i) s.toks) { s with toks:=s.toks+1 }→wpAny (model X.prog X.w) X.A (f (.int i t)) Q E s) :
  Ay X f (rU λi=>.int (g i)):=by
 intro aF s σ H x v Q I rx h;obtain⟨i,rfl,q⟩:=h;obtain⟨t,rfl⟩:=rx;exact rule i t s _ _ ⟨.int (g i),H,I.tok _,⟨_,rfl⟩,q⟩
theorem uS:Ay X (unaryOp .USub) (rU λi=>.int (-i)):=Nc λ_ _ _ _ _ q=>neg_int q
end
noncomputable def EO:V→V→Bool
 | .cm,.cm=>true | .cm,.int _=>true | .int _,.cm=>true | .cm,.bl _=>true | .bl _,.cm=>true | .cm,.str _=>true | .str _,.cm=>true
 | .int _,.int _=>true | .bl _,.bl _=>true | .str _,.str _=>true | .jQ _,.jQ _=>true
 | .int _,.str _=>true | .str _,.int _=>true | .bl _,.str _=>true | .str _,.bl _=>true
 |_,_=>false
def iN:R2:=λx y H Q=>EO x y=true∧Q (.bl (decide (x=y))) H
def AD:R2:=λx y H Q=>EO x y=true∧Q (.bl (!decide (x=y))) H
theorem AE{i j:Int}:decide (V.int i=V.int j)=(i==j):=by
 rw[Bool.eq_iff_iff];simp
theorem ER{i j:Bool}:decide (V.bl i=V.bl j)=(i==j):=by
 rw[Bool.eq_iff_iff];simp
theorem ET{i j:Str}:decide (V.str i=V.str j)=(i==j):=by
 rw[Bool.eq_iff_iff];simp
theorem EU{i j:Array UInt8}:decide (V.jQ i=V.jQ j)=(i.toList==j.toList):=by
 rw[Bool.eq_iff_iff];cases i;cases j;simp
section
variable{X:Cx}{a b c:Expr}{ta tb tc:TE}{pos:Pos}
theorem dY{Q:VK}{k k':Bool}(I:Inv X aF σ H s)(q:Q (.bl k) H)(e:k=k'):EP X aF σ Q (.bool k') s:=by
 subst e;exact⟨.bl k,H,I,rfl,q⟩
theorem dZ:eB X (compareOp .Eq) iN:=by
 intro aF s σ H x y v u Q I rx ry h;obtain⟨hs,q⟩:=h;cases x with
 |cm=>
  cases rx;cases y with
  |cm=>cases ry;exact PySem.EqNone.eq_none_none (dY I q (by simp))
  |bl j=>cases ry;exact PySem.EqNone.eq_none_bool (dY I q (by simp))
  |int j=>obtain⟨t',rfl⟩:=ry;exact PySem.EqNone.eq_none_int (dY I q (by simp))
  |str j=>obtain⟨t',rfl⟩:=ry;exact PySem.EqNone.eq_none_str (dY I q (by simp))
  |_=>exact absurd (show false=true from hs) fi
 |bl i=>
  cases rx;cases y with
  |cm=>cases ry;exact PySem.EqNone.eq_bool_none (dY I q (by simp))
  |bl j=>cases ry;exact eq_bool (dY I q ER)
  |str j=>obtain⟨t',rfl⟩:=ry;exact PySem.EqMixed.eq_bool_str (dY I q (by simp))
  |_=>exact absurd (show false=true from hs) fi
 |int i=>
  obtain⟨t,rfl⟩:=rx;cases y with
  |cm=>cases ry;exact PySem.EqNone.eq_int_none (dY I q (by simp))
  |int j=>obtain⟨t',rfl⟩:=ry;exact eq_int (dY I q AE)
  |str j=>obtain⟨t',rfl⟩:=ry;exact PySem.EqMixed.eq_int_str (dY I q (by simp))
  |_=>exact absurd (show false=true from hs) fi
 |str i=>
  obtain⟨t,rfl⟩:=rx;cases y with
  |cm=>cases ry;exact PySem.EqNone.eq_str_none (dY I q (by simp))
  |bl j=>cases ry;exact PySem.EqMixed.eq_str_bool (dY I q (by simp))
  |int j=>obtain⟨t',rfl⟩:=ry;exact PySem.EqMixed.eq_str_int (dY I q (by simp))
  |str j=>obtain⟨t',rfl⟩:=ry;exact eq_str (dY I q ET)
  |_=>exact absurd (show false=true from hs) fi
 |jQ i=>
  obtain⟨t,rfl⟩:=rx;cases y with
  |jQ j=>obtain⟨t',rfl⟩:=ry;exact PySem.W.eq_bytes (dY I q EU)
  |_=>exact absurd (show false=true from hs) fi
 |_=>cases y<;>exact absurd (show false=true from hs) fi
theorem xD:eB X (compareOp .NotEq) AD:=by
 intro aF s σ H x y v u Q I rx ry h;obtain⟨hs,q⟩:=h;cases x with
 |cm=>
  cases rx;cases y with
  |cm=>cases ry;exact PySem.EqNone.ne_none_none (dY I q (by simp))
  |bl j=>cases ry;exact PySem.EqNone.ne_none_bool (dY I q (by simp))
  |int j=>obtain⟨t',rfl⟩:=ry;exact PySem.EqNone.ne_none_int (dY I q (by simp))
  |str j=>obtain⟨t',rfl⟩:=ry;exact PySem.EqNone.ne_none_str (dY I q (by simp))
  |_=>exact absurd (show false=true from hs) fi
 |bl i=>
  cases rx;cases y with
  |cm=>cases ry;exact PySem.EqNone.ne_bool_none (dY I q (by simp))
  |bl j=>cases ry;exact ne_bool (dY I q (aj not ER))
  |str j=>obtain⟨t',rfl⟩:=ry;exact PySem.EqMixed.ne_bool_str (dY I q (by simp))
  |_=>exact absurd (show false=true from hs) fi
 |int i=>
  obtain⟨t,rfl⟩:=rx;cases y with
  |cm=>cases ry;exact PySem.EqNone.ne_int_none (dY I q (by simp))
  |int j=>obtain⟨t',rfl⟩:=ry;exact ne_int (dY I q (aj not AE))
  |str j=>obtain⟨t',rfl⟩:=ry;exact PySem.EqMixed.ne_int_str (dY I q (by simp))
  |_=>exact absurd (show false=true from hs) fi
 |str i=>
  obtain⟨t,rfl⟩:=rx;cases y with
  |cm=>cases ry;exact PySem.EqNone.ne_str_none (dY I q (by simp))
  |bl j=>cases ry;exact PySem.EqMixed.ne_str_bool (dY I q (by simp))
  |int j=>obtain⟨t',rfl⟩:=ry;exact PySem.EqMixed.ne_str_int (dY I q (by simp))
  |str j=>obtain⟨t',rfl⟩:=ry;exact ne_str (dY I q (aj not ET))
  |_=>exact absurd (show false=true from hs) fi
 |jQ i=>
  obtain⟨t,rfl⟩:=rx;cases y with
  |jQ j=>obtain⟨t',rfl⟩:=ry;exact PySem.W.ne_bytes (dY I q (aj not EU))
  |_=>exact absurd (show false=true from hs) fi
 |_=>cases y<;>exact absurd (show false=true from hs) fi
theorem Nd:eB X (compareOp .Lt) (dX λi j=>.bl (decide (i<j))):=AB λ_ _ _ _ _ _ _ q=>lt_int q
theorem EV:eB X (compareOp .LtE) (dX λi j=>.bl (decide (i≤j))):=AB λ_ _ _ _ _ _ _ q=>le_int q
theorem uT:eB X (compareOp .Gt) (dX λi j=>.bl (decide (j<i))):=AB λ_ _ _ _ _ _ _ q=>gt_int q
theorem EW:eB X (compareOp .Is) (λx y H Q=>y=.cm∧Q (.bl (decide (x=.cm))) H):=by
 intro aF s σ H x y v u Q I rx ry h;obtain⟨rfl,q⟩:=h;cases ry;refine is_none_gen (dY I q ?_);cases x<;>first
  |(cases rx;rfl)
  |(obtain⟨t,rfl⟩:=rx;rfl)
theorem EX:eB X (compareOp .IsNot) (λx y H Q=>y=.cm∧Q (.bl (!decide (x=.cm))) H):=by
 intro aF s σ H x y v u Q I rx ry h;obtain⟨rfl,q⟩:=h;cases ry;refine isnot_none_gen (dY I q ?_);cases x<;>first
  |(cases rx;rfl)
  |(obtain⟨t,rfl⟩:=rx;rfl)
theorem cD(b:Expr)(h:op≠.In:=by decide)(h2:op≠.NotIn:=by decide):behindInMarks op b=false:=by
 have e1:(op==CmpOp.In)=false:=by cases op<;>first|rfl|exact absurd rfl h
 have e2:(op==CmpOp.NotIn)=false:=by cases op<;>first|rfl|exact absurd rfl h2
 cases b<;>simp[behindInMarks,e1,e2]
theorem AF{r:R2}(ho:eB X (compareOp op) r)(ha:PE X a ta)(hb:PE X b tb)(hm:behindInMarks op b=false):PE X (.Compare a [op] [b] pos) (aT r ta tb):=by
 intro aF s σ H Q I h;exact wpAny_Compare1 (Az ha hb I h λv u s2 x y H2 I2 rx ry q=>ho aF s2 σ H2 x y v u Q I2 rx ry q) hm
def eU(t:TE):TT:=λσ H Q=>t σ H λx H'=>∃k,x=.bl k∧Q k H'
theorem cE{r:R2}(ho:eB X (compareOp op) r)(ha:PE X a ta)(hb:PE X b tb)(hm:behindInMarks op b=false):PT X (.Compare a [op] [b] pos) (eU (aT r ta tb)):=by
 intro aF s σ H Q I h;refine wpAny_isTrue_Compare1 (aM (ha aF s σ H _ I h) λv s1 ⟨x,H1,I1,r1,q1⟩=>aM (hb aF s1 σ H1 _ I1 q1) λu s2 ⟨y,H2,I2,r2,q2⟩=>
  aM (ho aF s2 σ H2 x y v u _ I2 r1 r2 q2) λc s3 ⟨z,H3,I3,r3,k,e,q3⟩=>?_) hm
 subst e;cases r3;exact ai ⟨H3,I3,q3⟩
def EY(K:Frag)(x:V)(H:Hp)(k:Bool):Prop:=
 match x with
 | .cm=>k=false
 | .bl b=>k=b
 | .int i=>k=(i != 0)
 | .str y=>y.length≤sizeLine∧k=((y.length:Int) != 0)
 | .jQ y=>y.size≤sizeLine∧k=((y.size:Int) != 0)
 | .ref p=>(∃xs,cR K H p xs∧k=!xs.isEmpty)∨(∃xs,bQ K H p xs∧k=!xs.isEmpty)∨∃aH,H p=some (.dK aH)∧k=!aH.isEmpty
 |_=>False
theorem Nf{κ:Type}{aH:List (κ×V)}{vs:List (κ×Value)}(r:KV aH vs):(!vs.isEmpty)=!aH.isEmpty:=by
 cases r<;>rfl
theorem EZ{its:List Value}(r:Vals xs its):(!its.toArray.isEmpty)=!xs.isEmpty:=by
 cases r<;>simp
theorem xE:(sizeLine:Nat)<2^63:=by rw[sizeLine_eq];decide
theorem Ng:Na X (λx H Q=>∃k,EY X.K x H k∧Q k H):=by
 intro aF s σ H x v Q I rx h;obtain⟨k,e,q⟩:=h;have hl:=xE;have hs:sizeLine=16777216:=sizeLine_eq;cases x with
 |cm=>
  cases rx;have e':k=false:=e;subst e';exact truthy_none ⟨H,I,q⟩
 |bl b=>
  cases rx;have e':k=b:=e;subst e';exact ai ⟨H,I,q⟩
 |int i=>
  obtain⟨t,rfl⟩:=rx;have e':k=(i != 0):=e;subst e';exact PySem.P.truthy_int ⟨H,I,q⟩
 |str y=>
  obtain⟨t,rfl⟩:=rx;obtain⟨hy,e'⟩:y.length≤sizeLine∧k=((y.length:Int) != 0):=e;subst e';exact PySem.P.truthy_str (by lia) ⟨H,I.tok _,q⟩
 |jQ y=>
  obtain⟨t,rfl⟩:=rx;obtain⟨hy,e'⟩:y.size≤sizeLine∧k=((y.size:Int) != 0):=e;subst e';exact PySem.W.truthy_bytes (by lia) ⟨H,I.tok _,q⟩
 |ref p=>
  cases rx;have e':(∃xs,cR X.K H p xs∧k=!xs.isEmpty)∨(∃xs,bQ X.K H p xs∧k=!xs.isEmpty)∨∃aH,H p=some (.dK aH)∧k=!aH.isEmpty:=e;rcases e' with⟨xs,hx,e'⟩|⟨xs,hx,e'⟩|⟨aH,hx,e'⟩
  ·subst e';obtain⟨its,r,pl,hz⟩:=I.list hx;have cU:=r.length;exact wpAny_truthy_list pl.isList (by simp only[dC];lia) ⟨H,I.tok _,by rw[EZ r];exact q⟩
  ·subst e';obtain⟨its,r,pl,hz⟩:=I.tuple hx;have cU:=r.length;exact truthy_tuple pl (by simp only[dC];lia) ⟨H,I.tok _,by rw[EZ r];exact q⟩
  ·subst e';obtain⟨hz,hS,vs,r,m⟩:aH.length≤sizeLine∧(p==sysModules)=false∧∃vs,KV aH vs∧s.heap.DictOf (gj X.prog X.w) p vs:=I.bz p _ hx;have cU:aH.length=vs.length:=Paired.length r;exact wpAny_truthy_dict hS m (by lia) ⟨H,I.tok _,by rw[Nf r];exact q⟩
 |_=>exact(show False from e).elim
theorem E1(ha:PE X a ta)(he:∀nV,isTrue a X.env nV=(do let v ← nV;standAt a.pos;holding [v] (truthy v))) :
  PT X a (λσ H Q=>ta σ H λx H'=>∃k,EY X.K x H' k∧Q k H'):=by
 intro aF s σ H Q I h;exact isTrue_plain (aM (ha aF s σ H _ I h) λv s1 ⟨x,H1,I1,r1,q1⟩=>Ng aF s1 σ H1 x v Q I1 r1 q1) (he _)
theorem Nh:eB X (binaryOp .Add) (λx y H Q=>∃i j,x=.str i∧y=.str j∧i.length+j.length≤sizeLine∧Q (.str (i++j)) H):=by
 intro aF s σ H x y v u Q I rx ry h;obtain⟨i,j,rfl,rfl,hz,q⟩:=h;obtain⟨t,rfl⟩:=rx;obtain⟨t',rfl⟩:=ry;exact add_str (λt' tk=>⟨.str (i++j),H,I.tok _,⟨_,rfl⟩,q⟩) hz
theorem vals1{x:V}(r:Vals [x] us):∃u,us=[u]∧RelV x u:=by
 cases r with
 |cons r1 r2=>cases r2;exact⟨_,rfl,r1⟩
theorem vals2{x y:V}(r:Vals [x,y] us):∃u w',us=[u,w']∧RelV x u∧RelV y w':=by
 cases r with
 |cons r1 r2=>
  cases r2 with
  |cons r3 r4=>cases r4;exact⟨_,_,rfl,r1,r3⟩
theorem Ni:eI X (.type "int") (λxs H Q=>(∃i,xs=[.int i]∧Q (.int i) H)∨∃k,xs=[.bl k]∧Q (.int (if k then 1 else 0)) H):=by
 intro aF s σ H xs us Q I r h;rcases h with⟨i,rfl,q⟩|⟨k,rfl,q⟩
 ·obtain⟨u,rfl,t,rfl⟩:=vals1 r;exact call_int_int ⟨.int i,H,I,⟨_,rfl⟩,q⟩
 ·obtain⟨u,rfl,r1⟩:=vals1 r;cases r1;exact call_int_bool ⟨.int (if k then 1 else 0),H,I.tok _,⟨_,rfl⟩,q⟩
theorem Nj:eI X (.type "str") (λxs H Q=>∃i,xs=[.int i]∧i.natAbs.log2<1920∧Q (.str (toString i)) H):=by
 intro aF s σ H xs us Q I r h;obtain⟨i,rfl,hz,q⟩:=h;obtain⟨u,rfl,t,rfl⟩:=vals1 r;exact PySem.P.str_of_int hz ⟨.str _,H,I.tok _,⟨_,rfl⟩,q⟩
end
structure AG(h:Heap)(x dx C:Addr)(mA:Str→Option Value):Prop where
 obj:h.get? x=some (PySem.W.instObj C dx)
 ns:h.Ns1 dx mA
 ne:dx≠x
theorem Nk{dx:Addr}{mA:Str→Option Value}(n:h.Ns1 dx mA):∃od,h.get? dx=some od∧∀name,PySem.W.lookIn name od=some (mA name):=by
 obtain⟨o,es,ep,ho,hd,hk,_,hm⟩:=n;refine⟨o,ho,λname=>?_⟩;have e:=hm name;unfold nsFind findBy at e;rw[← Array.find?_toList]at e;unfold PySem.W.lookIn;rw[hd];dsimp only;split
 ·rename_i y q
  rw[q]at e;exact aj some e
 ·rename_i q
  rw[q]at e;have a:es.toList.any (·.refKey)=false:=by
   rw[List.any_eq_false];intro y hy;obtain⟨z,t,Nl⟩:=hk y (Array.mem_toList_iff.mp hy);simp[DictEntry.refKey,Nl]
  have a':¬es.toList.any (·.refKey)=true:=by rw[a];exact fi
  rw[ag a'];exact aj some e
theorem AG.look{x dx C:Addr}{mA:Str→Option Value}(I:AG h x dx C mA):∃od,PySem.W.InstAt h x (PySem.W.instObj C dx) C (some od)∧∀name,PySem.W.lookIn name od=some (mA name):=
 let ⟨od,ho,hl⟩:=Nk I.ns
 ⟨od,⟨I.obj,rfl,rfl,ho⟩,hl⟩
section
variable{prog:Program}{w:World}{A:Around}{E:QV}{s:Shared}{K:Frag}{x dx C f:Addr}{mA:Str→Option Value}{name:Str}{v:Value}
end
theorem jR.some_of{o:Option Value}(r:jR (some v) o):∃u,o=some u∧RelV v u:=by
 cases o with
 |none=>exact(show False from r).elim
 |some u=>exact⟨u,rfl,r⟩
section
variable{P:Program}{w:World}{H H':Hp}{h h':Heap}{a C dx:Addr}{fs Em:List (Str×V)}
theorem Nm(bz:d9 P w H h)(e:H a=some (.ins C dx fs)):∃mA,AG h a dx C mA∧(∀f,jR (fs.lookup f) (mA f))∧PySem.Within mA (fs.map (·.1))∧fs.length≤1000∧H dx=some (.own a):=by
 obtain⟨d,z,ne,ob,mA,n,r,q⟩:=(show eO P w H h a (.ins C dx fs) from bz a _ e)
 exact⟨mA,⟨ob,n,ne⟩,r,q,z,d⟩
end
structure AH(K:Frag)(C:Addr):Prop where
 pg:PySem.W.plainGet K C Str.empty=true
 hd:PySem.W.hasDictIn K C=true
 po:PySem.W.plainOver K C=true
 sa:PySem.W.findIn K (.ref C) "__setattr__"=some (some (.builtin "object.__setattr__"))
theorem AH.get{K:Frag}{C:Addr}(c:AH K C)(f:Str):PySem.W.plainGet K C f=true:=c.pg
section
variable{X:Cx}{aF:List (Addr×Obj)}{σ:St}{H:Hp}{s:Shared}{a C dx:Addr}{fs:List (Str×V)}{f:Str}{v:V}{A:Around}{E:QV}
end
section
variable{X:Cx}{o e value:Expr}{f:Str}{pos ju Nn:Pos}{ta tv:TE}
end
section
variable{X:Cx}{aF:List (Addr×Obj)}{σ:St}{H:Hp}{s:Shared}{A:Around}{E:QV}{Q:QV}{c:Value}{b:Bool}
inductive jU(K:Frag)(H:Hp):V→Value→Prop where
 |cm:jU K H .cm (.type "NoneType")
 |bl (x:Bool):jU K H (.bl x) (.type "bool")
 |int (i:Int):jU K H (.int i) (.type "int")
 |str (x:Str):jU K H (.str x) (.type "str")
 |rG (x:UInt64):jU K H (.rG x) (.type "float")
 |lst {a:Addr} {xs:List V} (e:H a=some (.lst xs)):jU K H (.ref a) (.type "list")
 |i8 {a:Addr} {o:Obj} {xs:List V} (e:H a=some (.i8 o (.lst xs))):jU K H (.ref a) (.type "list")
 |tup {a:Addr} {xs:List V} (e:H a=some (.tup xs)):jU K H (.ref a) (.type "tuple")
 |dK {a:Addr} {aH:List (Key×V)} (e:H a=some (.dK aH)):jU K H (.ref a) (.type "dict")
 |dT {a:Addr} {aH:List (List Key×V)} (e:H a=some (.dT aH)):jU K H (.ref a) (.type "dict")
 |ins {a C dx:Addr} {fs:List (Str×V)} (e:H a=some (.ins C dx fs)) (cl:AH K C) (ha:PySem.W.findIn K (.ref C) "__class__"=some (some (.builtin "object.__class__")))
   (hn:PySem.W.specialIn K (.builtin "object.__class__") "__get__"=some (some (.builtin "getset_descriptor.__get__"))) (qf:PySem.W.takesIn K (.builtin "object.__class__")=some true)
   (hm:PySem.W.mroIn K C (.type "object")=some true):jU K H (.ref a) (.ref C)
theorem Np{x:V}{t:Value}(I:Inv X aF σ H s)(rx:RelV x u)(ty:jU X.K H x t)(e:kitOne X.K t c=some b)(h:∀tk,Q (.bool b) { s with toks:=tk }) :
  wpAny (model X.prog X.w) A (call (.builtin "isinstance") [u,c]) Q E s:=by
 cases ty with
 |cm=>cases(show u=Value.none from rx);exact mf PySem.W.kitx_none I.eS True.intro e (λz=>nomatch z) h
 |bl y=>cases(show u=Value.bool y from rx);exact mf PySem.W.kitx_bool I.eS True.intro e (λz=>nomatch z) h
 |int i=>obtain⟨t,q⟩:=(show ∃t,u=Value.int i t from rx);cases q;exact mf PySem.W.kitx_int I.eS True.intro e (λz=>nomatch z) h
 |str y=>obtain⟨t,q⟩:=(show ∃t,u=Value.str y t from rx);cases q;exact mf PySem.W.kitx_str I.eS True.intro e (λz=>nomatch z) h
 |rG y=>obtain⟨t,q⟩:=(show ∃t,u=Value.float y t from rx);cases q;exact mf PySem.W.kitx_float I.eS True.intro e (λz=>nomatch z) h
 | @lst a xs ea=>
  cases(show u=Value.ref a from rx)
  obtain⟨_,_,n,_,h1⟩:=(show eO X.prog X.w H s.heap a (.lst xs) from I.bz a _ ea)
  exact mf PySem.W.kitx_list I.eS ⟨_,h1,rfl⟩ e (λz=>nomatch z) h
 | @i8 a ob xs ea=>
  cases(show u=Value.ref a from rx)
  obtain⟨_,_,_,n,_,h1⟩:=(show eO X.prog X.w H s.heap a (.i8 ob (.lst xs)) from I.bz a _ ea)
  exact mf PySem.W.kitx_list I.eS ⟨_,h1,rfl⟩ e (λz=>nomatch z) h
 | @tup a xs ea=>
  cases(show u=Value.ref a from rx)
  obtain⟨_,_,_,p⟩:=(show eO X.prog X.w H s.heap a (.tup xs) from I.bz a _ ea)
  obtain⟨o,h1,h2,_⟩:=p;exact mf PySem.W.kitx_tuple I.eS ⟨o,h1,h2⟩ e (λz=>nomatch z) h
 | @dK a aH ea=>
  cases(show u=Value.ref a from rx)
  obtain⟨_,_,vs,_,p⟩:=(show eO X.prog X.w H s.heap a (.dK aH) from I.bz a _ ea)
  obtain⟨o,es,ep,h1,h2,_⟩:=p;exact mf PySem.W.kitx_dict I.eS ⟨o,h1,h2.1⟩ e (λz=>nomatch z) h
 | @dT a aH ea=>
  cases(show u=Value.ref a from rx)
  obtain⟨_,_,xs,_,o,es,ep,h1,h2,_⟩:=(show eO X.prog X.w H s.heap a (.dT aH) from I.bz a _ ea)
  exact mf PySem.W.kitx_dict I.eS ⟨o,h1,h2.1⟩ e (λz=>nomatch z) h
 | @ins a C dx fs ea cl ha hn qf hm=>
  cases(show u=Value.ref a from rx)
  obtain⟨mA,O,_⟩:=Nm I.bz ea;obtain⟨od,J,_⟩:=O.look;exact mf (PySem.W.kitx_own (cl.get _) cl.hd ha hn qf hm) I.eS J e (λz=>nomatch z) h
end
structure dR(k:Nat)(A:Around):Prop where
 hd:A.handled=none
 dp:A.depth+3*k+5<recursionLimit
 un:A.units+16*k+200<cLine
theorem dR.mono{j k:Nat}(r:dR k A)(h:j≤k):dR j A:=⟨r.hd,by have:=r.dp;lia,by have:=r.un;lia⟩
theorem dR.deeper{k:Nat}{A:Around}(r:dR (k+1) A)(env:Env):dR k (A.deeper env):=
 ⟨r.hd,by have:=r.dp;show A.depth+1+3*k+5<_;lia,by have:=r.un;show A.units+3+16*k+200<_;lia⟩
theorem dR.depth{k:Nat}{A:Around}(r:dR k A):A.depth<recursionLimit:=by have:=r.dp;lia
theorem dR.units{k:Nat}{A:Around}(r:dR k A):A.units+64<cLine:=by have:=r.un;lia
def aV:TA:=λ_ H Q=>Q [] H
def aI(ta:TE)(tr:TA):TA:=λσ H Q=>ta σ H λx H1=>tr σ H1 λxs H2=>Q (x::xs) H2
section
variable{X:Cx}{e:Expr}{es:List Expr}{te:TE}{t:TA}{pos:Pos}
theorem aK:PA X [] aV:=λ_ _ _ _ H Q I h=>Calls.spliced_nil ⟨[],H,I,.nil,h⟩
theorem aG(ha:PE X e te)(hr:PA X es t)(hs:starEach (e::es) X.env=(false,eval e X.env)::starEach es X.env:=by rfl):PA X (e::es) (aI te t):=by
 intro pos aF s σ H Q I h;rw[hs];show wpAny _ _ (spliced ((false,eval e X.env)::backTo pos (starEach es X.env))) _ _ s;refine xh (aM (ha aF s σ H _ I h) λu s1 ⟨x,H1,I1,r1,q1⟩=>?_);exact aM (hr pos aF s1 σ H1 _ I1 q1) λus s2 ⟨xs,H2,I2,r2,q2⟩=>⟨x::xs,H2,I2,.cons r1 r2,q2⟩
def mx(t:TA):TE:=λσ H Q=>t σ H λxs H1=>xs.length≤sizeLine∧∀p,H1 p=none→Q (.ref p) (upd H1 p (.tup xs))
def bg(t:TA):TE:=λσ H Q=>t σ H λxs H1=>xs.length≤sizeLine∧∀p,H1 p=none→Q (.ref p) (upd H1 p (.lst xs))
theorem eJ{x1}(h:PA X es t):PE X (.Tuple es x1 pos) (mx t):=by
 intro aF s σ H Q I hq;refine wpAny_Tuple_spliced (aM (h pos aF s σ H _ I hq) λus s1 ⟨xs,H1,I1,r,z,q⟩=>⟨by rw[← r.length];exact z,?_⟩);have hf:H1 s1.heap.objs.size=none:=I1.bz.fresh (bH _);refine⟨.ref s1.heap.objs.size,upd H1 s1.heap.objs.size (.tup xs),I1.laid (t':=s1.toks) (λb u e=>fc _ e) (bH _) ?_,rfl,q _ hf⟩;exact⟨z,us,r,⟨_,jL _ rfl,rfl,rfl,_,rfl⟩⟩
theorem bc(h:PA X es t):PE X (.List es pos) (bg t):=by
 intro aF s σ H Q I hq;refine wpAny_List_spliced (aM (h pos aF s σ H _ I hq) λus s1 ⟨xs,H1,I1,r,z,q⟩=>⟨by rw[← r.length];exact z,?_⟩);have hf:H1 s1.heap.objs.size=none:=I1.bz.fresh (bH _);refine⟨.ref s1.heap.objs.size,upd H1 s1.heap.objs.size (.lst xs),I1.laid (t':=s1.toks) (λb u e=>fc _ e) (bH _) ?_,rfl,q _ hf⟩;exact⟨z,us,0,r,jL _ rfl⟩
end
abbrev Sp:=List V→Hp→VK→XK→Prop
abbrev mi:=List Env→Hp→Shared→XK→Value→Shared→Prop
structure rW(P:Program)(w:World)(K:Frag)(mg:Str→Option Value)(base:Heap)(A:Around)(outer:List Env)(s:Shared)(H:Hp):Prop where
 frames:A.frames=some outer
 mod:Mod K mg base
 bs:∀b o,base.get? b=some o→s.heap.get? b=some o∧H b=none
 oP:base.objs.size≤s.heap.objs.size
 kY:s.heap.FunFrames base outer
 rM:∀b∈jr outer,H b=none
 bz:d9 P w H s.heap
 bare:AllBare s.gens
def CE(outer:List Env)(P:Program)(w:World)(H:Hp)(s:Shared)(Q:VK)(u:Value)(s':Shared):Prop:=
 ∃v H',s'.os=s.os∧AllBare s'.gens∧Un (jr outer) [] H H' s.heap s'.heap∧d9 P w H' s'.heap∧RelV v u∧Q v H'
def CR(CX:mi)(outer:List Env)(P:Program)(w:World)(H:Hp)(s:Shared)(Q:VK)(E:XK)(r:Result)(s':Shared):Prop:=
 match r with
 | .ok (.ret u)=>CE outer P w H s Q u s'
 | .ok _=>False
 | .error e=>CX outer H s E e s'
structure bN(P:Program)(w:World)(K:Frag)(mg:Str→Option Value)(base:Heap)(CX:mi)(k:Nat)(f:Addr)(fd:FuncData)(ps:List Str)(sp:Sp):Prop where
 len:∀vs H Q E,sp vs H Q E→vs.length=ps.length
 run:∀(A:Around)(outer:List Env)(s:Shared)(H:Hp)(args:Args)(us:List Value)(vs:List V)(Q:VK)(E:XK),dR k A→rW P w K mg base A outer s H→BindsTo s fd args (ps.zip us)→Vals vs us→sp vs H Q E→
  codeAny (model P w) A (.call (.ref f) args) (CR CX outer P w H s Q E) s
theorem bN.imp{P:Program}{w:World}{K:Frag}{mg:Str→Option Value}{base:Heap}{k:Nat}{f:Addr}{fd:FuncData}{sp E2:Sp}(F:bN P w K mg base CX k f fd ps sp)
  (h:∀vs H Q E,E2 vs H Q E→sp vs H Q E):bN P w K mg base CX k f fd ps E2:=
 ⟨λvs H Q E q=>F.len vs H Q E (h _ _ _ _ q),λA outer s H args us vs Q E hr he hb hv hs=>F.run A outer s H args us vs Q E hr he hb hv (h _ _ _ _ hs)⟩
section
variable{X:Cx}{aF:List (Addr×Obj)}{σ:St}{H:Hp}{s s':Shared}
theorem Inv.AI(I:Inv X aF σ H s):rW X.prog X.w X.K X.mg X.base X.A X.stack s H:=
 ⟨I.ok.frames,I.ok.mod,I.bs,eu I.ok.oP I.sz,I.stack,I.En,I.bz,I.bare⟩
theorem Inv.after{Q:VK}(I:Inv X aF σ H s)(h:CE X.stack X.prog X.w H s Q u s'):EP X aF σ Q u s':=by
 obtain⟨v,H',os,bare,un,bz,r,q⟩:=h;obtain⟨hh,g,d,t,Nq⟩:=s';obtain rfl:Nq=s.os:=os;exact⟨v,H',I.call (h':=hh) (g':=g) (d':=d) (t':=t) (ch:=[]) un bz bare (λb z=>absurd z (by simp)),r,q⟩
end
def fw(sp:Sp)(oZ:List V)(E:XK)(t:TA):TE:=λσ H Q=>t σ H λvs H1=>sp (vs++oZ) H1 Q E
def Binds(K:Frag)(fd:FuncData)(ps:List Str)(ds:List Value):Prop:=
 ∀(s:Shared)(us:List Value),K.In s.heap→(us++ds).length=ps.length→BindsTo s fd ⟨us,[]⟩ (ps.zip (us++ds))
theorem Binds.all{K:Frag}{fd:FuncData}(h:∀us:List Value,us.length=ps.length→bindArgs fd ⟨us,[]⟩=pure (ps.zip us)):Binds K fd ps []:=λs us _ hl=>by
 rw[gJ]at hl ⊢;exact .of_eq (h us hl)
def Passes(CX:mi)(X:Cx)(E:XK):Prop:=∀(aF:List (Addr×Obj))(σ:St)(H:Hp)(s:Shared)(e:Value)(s':Shared),Inv X aF σ H s→CX X.stack H s E e s'→X.xe e s'
section
variable{X:Cx}{CX:mi}{k:Nat}{f C:Addr}{fd:FuncData}{ps:List Str}{sp:Sp}{oZ:List V}{ds:List Value}{E:XK}{x m:Str}{p pos gZ:Pos}{e o:Expr}{es:List Expr}{ta:TE}{t:TA}
theorem Nr{Q:VK}{vs:List V}(F:bN X.prog X.w X.K X.mg X.base CX k f fd ps sp)(hr:dR k X.A)(hb:Binds X.K fd ps ds)(hd:Vals oZ ds)(hx:Passes CX X E)
  (I:Inv X aF σ H s) (r:Vals vs us) (h:sp (vs++oZ) H Q E):wpAny (model X.prog X.w) X.A (call (.ref f) us) (EP X aF σ Q) X.xe s:=by
 have r2:Vals (vs++oZ) (us++ds):=r.append hd;have hl:(us++ds).length=ps.length:=by rw[← r2.length];exact F.len _ _ _ _ h
 refine wpAny_call (codeAny_mono (F.run X.A X.stack s H ⟨us,[]⟩ (us++ds) (vs++oZ) Q E hr I.AI (hb s us I.eS hl) r2 h) λr s' hq=>?_);cases r with
 |error e=>exact hx aF σ H s e s' I hq
 |ok fl=>
  cases fl with
  |ret u=>exact I.after hq
  |next=>exact False.elim hq
  |brk=>exact False.elim hq
  |cont=>exact False.elim hq
theorem cO(F:bN X.prog X.w X.K X.mg X.base CX k f fd ps sp)(hr:dR k X.A)(hg:Gl X x)(hm:X.mg x=some (.ref f))(hk:Kp X.K f)(hb:Binds X.K fd ps ds)(hd:Vals oZ ds)(hx:Passes CX X E)
  (ha:PA X (e::es) t) (qg:(x==("__debug__":Str))=false:=by decide) (he:starEach (e::es) X.env=(false,eval e X.env)::starEach es X.env:=by rfl) (jb:(backTo pos (starEach es X.env)).any (·.1)=false:=by rfl) :
  PE X (.Call (.Name x p) (e::es) [] pos) (fw sp oZ E t):=by
 intro aF s σ H Q I h;refine ar (Ap I hg hm ?_ qg);refine PySem.W.callWith_K (h₀:=X.base) I.ok.mod.rJ hk (aM (ha pos aF s σ H _ I h) λus s1 ⟨vs,H1,I1,r,q⟩=>⟨I1.eS,?_⟩) he jb;exact Nr F hr hb hd hx I1 r q
end
section
variable{X:Cx}{CX:mi}{k:Nat}{f C:Addr}{fd:FuncData}{ps ks:List Str}{sp:Sp}{E:XK}{x m:Str}{p pos gZ ace:Pos}{e o:Expr}{es:List Expr}{kws:List Keyword}{te ta:TE}{t tk:TA}{nm:Option Str}
variable{g:List Value→List Value→List Value}{gV:List V→List V→List V}
end
structure cY(N P:List Str)(sc:Scope):Prop where
 kind:sc.kind=.function
 co:sc.isCoroutine=false
 gen:sc.isGenerator=false
 nd:N.Nodup
 pre:N.take P.length=P
 par:∀x∈P,sc.names.lookup x=some .local∨sc.names.lookup x=some .cell
 Nt:∀y∈sc.names,y.2≠.free
theorem dE{N P:List Str}{sc:Scope}(a:sc.kind=.function)(b:sc.isCoroutine=false)(c:sc.isGenerator=false)(h:N.Nodup∧(∀x∈P,sc.names.lookup x=some .local∨sc.names.lookup x=some .cell)∧∀y∈sc.names,y.2≠.free)(e:N.take P.length=P):cY N P sc:=⟨a,b,c,h.1,e,h.2.1,h.2.2⟩
theorem E3{kindOf:Str→Option NameKind}{x:Str}:∀{binds:List (Str×Value)}{m:Str→Option Value},(∀v,(x,v) ∉ binds)→bindL kindOf binds m x=m x
 | [],_,_=>rfl
 |(n,v)::r,m,h=>by
  unfold bindL;rw[E3 λw hw=>h w (eR _ hw)];split
  ·have:x≠n:=by rintro rfl;exact h v dv
   simp[this]
  ·rfl
theorem E4{kindOf:Str→Option NameKind}{x:Str}:∀{binds:List (Str×Value)}{m:Str→Option Value},(∀v,(x,v) ∉ binds)→bindC kindOf binds m x=m x
 | [],_,_=>rfl
 |(n,v)::r,m,h=>by
  unfold bindC;rw[E4 λw hw=>h w (eR _ hw)];split
  ·rfl
  ·have:x≠n:=by rintro rfl;exact h v dv
   simp[this]
theorem E5{kindOf:Str→Option NameKind}{x:Str}{v:Value}:∀{P:List Str}{vs:List Value}{i:Nat}{m:Str→Option Value},P.Nodup→P[i]?=some x→vs[i]?=some v→kindOf x=some .local→
  bindL kindOf (P.zip vs) m x=some v
 | [],_,_,_,_,h,_,_=>by simp at h
 |_::_,[],_,_,_,_,h,_=>by simp at h
 |p::P,w::vs,0,m,nd,h1,h2,hk=>by
  simp at h1 h2;subst h1;subst h2;show bindL kindOf ((p,w)::P.zip vs) m p=_;unfold bindL;rw[E3 λv hv=>(List.nodup_cons.mp nd).1 (List.of_mem_zip hv).1,af hk];simp
 |p::P,w::vs,i+1,m,nd,h1,h2,hk=>by
  show bindL kindOf ((p,w)::P.zip vs) m x=_;unfold bindL;exact E5 (i:=i) (List.nodup_cons.mp nd).2 (by simpa using h1) (by simpa using h2) hk
theorem E6{kindOf:Str→Option NameKind}{x:Str}{v:Value}:∀{P:List Str}{vs:List Value}{i:Nat}{m:Str→Option Value},P.Nodup→P[i]?=some x→vs[i]?=some v→kindOf x≠some .local→
  bindC kindOf (P.zip vs) m x=some v
 | [],_,_,_,_,h,_,_=>by simp at h
 |_::_,[],_,_,_,_,h,_=>by simp at h
 |p::P,w::vs,0,m,nd,h1,h2,hk=>by
  simp at h1 h2;subst h1;subst h2;show bindC kindOf ((p,w)::P.zip vs) m p=_;unfold bindC;rw[E4 λv hv=>(List.nodup_cons.mp nd).1 (List.of_mem_zip hv).1,ag hk];simp
 |p::P,w::vs,i+1,m,nd,h1,h2,hk=>by
  show bindC kindOf ((p,w)::P.zip vs) m x=_;unfold bindC;exact E6 (i:=i) (List.nodup_cons.mp nd).2 (by simpa using h1) (by simpa using h2) hk
noncomputable def start(N:List Str)(vs:List V):St:=vs.map some++List.replicate (N.length-vs.length) none
noncomputable def n6(CX:mi)(P:Program)(w:World)(K:Frag)(mg:Str→Option Value)(base:Heap)(N:List Str)(qual:Str)(scope:Scope)(f:Addr)(cd:Value)(A:Around)(outer:List Env)(s:Shared)(H:Hp)(E:XK):Cx where
 prog:=P
 w:=w
 K:=K
 mg:=mg
 base:=base
 A:=A.deeper (envOfC qual scope s.heap.objs.size f cd)
 N:=N
 s₀:=s
 H₀:=H
 env:=envOfC qual scope s.heap.objs.size f cd
 outer:=outer
 stack:=envOfC qual scope s.heap.objs.size f cd::outer
 ex:=[]
 calm:=true
 fn:=λ_=>true
 pn:=[]
 xe:=λe s'=>wpAny (model P w) (A.deeper (envOfC qual scope s.heap.objs.size f cd)) (leaving (envOfC qual scope s.heap.objs.size f cd) e) (λ_ o3=>CX outer H s E e o3) (λe' o3=>CX outer H s E e' o3) s'
theorem E7{sc:Scope}(h:sc.names.lookup x=some .cell):∃c,(cellsFrom n sc.names []).lookup x=some c:=by
 have q:=PySem.W.cellsFrom_some sc.names n [] (.inl h);exact Option.isSome_iff_exists.mp q
theorem E8{P:Program}{w:World}{K:Frag}{mg:Str→Option Value}{base:Heap}{N:List Str}{qual:Str}{scope:Scope}{f:Addr}{cd:Value}{outer:List Env}{s1:Shared}{E:XK}{vs:List V}
  (S:cY N ps scope) (hd:A.handled=none) (e0:rW P w K mg base A outer s H) (hl:vs.length=ps.length) (r:Vals vs us)
  (x:InCallC s s.heap.objs.size (bindL (envOfC qual scope s.heap.objs.size f cd).kindOf (ps.zip us) λ_=>none) (cellsFrom (s.heap.objs.size+1) scope.names []) (bindC (envOfC qual scope s.heap.objs.size f cd).kindOf (ps.zip us) λ_=>none) s1) :
  Inv (n6 CX P w K mg base N qual scope f cd A outer s H E) [] (start N vs) H s1:=by
 have jb:ps.length≤N.length:=by have:=aj List.length S.pre;rw[dD]at this;lia
 obtain⟨h1,tk,rfl,hk⟩:=x.done;have uU:∀b:Addr,b ∉ (n6 CX P w K mg base N qual scope f cd A outer s H E).ex:=λb z=>absurd (show b∈([]:List Addr) from z) (by simp)
 refine⟨⟨e0.mod,S.kind,rfl,rfl,bH _,λy z c h1 h2=>?_,λy hy=>?_,λy c _ h=>?_,λ_=>hd,Around.frames_deeper e0.frames,.inr ⟨rfl,rfl⟩,λb z=>absurd z (uU b),e0.bs,e0.oP,λb _ _=>uU b,λb z=>absurd z (uU b),e0.kY,e0.rM⟩,
  rfl,e0.bare,Un.kept hk,⟨_,x.toInCall.ns,λi y v h1 h2 h3=>?_⟩,λy c h=>⟨_,x.cell y c h⟩,e0.bz.fresh (bH _),λy c h=>?_,λp hp=>absurd (show p∈([]:List (Addr×Obj)) from hp) (by simp),e0.bz.kept hk,?_⟩
 ·exact name_of_addr x.apart (pW h1) (pW h2)
 ·have hy:scope.names.lookup y=some .cell∨scope.names.lookup y=some .free:=hy;rcases hy with hy|hy
  ·exact E7 hy
  ·exact absurd rfl (S.Nt _ (pW hy))
 ·exact Nat.le_of_lt (x.above y c (pW h))
 ·have hi:i<vs.length:=by
   unfold start at h2;by_cases hi:i<vs.length
   ·exact hi
   ·rw[i5 (by simpa using hi)]at h2;rw[List.getElem?_replicate]at h2;split at h2<;>cases h2
  have ha:vs[i]?=some v:=by
   unfold start at h2;rw[iA (by simpa using hi),fj]at h2;cases e:vs[i]? with
   |none=>rw[e]at h2;cases h2
   |some a=>rw[e]at h2;cases h2;rfl
  obtain⟨u,hu,rv⟩:=r.get ha;have hp:ps[i]?=some y:=by
   rw[← S.pre,List.getElem?_take_of_lt (by lia)];exact h1
  have E9:ps.Nodup:=by rw[← S.pre];exact S.nd.sublist (List.take_sublist _ _)
  refine⟨u,rv,?_⟩;rcases S.par y (d8 hp)with k|k
  ·exact .inl ⟨k,E5 E9 hp hu k⟩
  ·obtain⟨c,e⟩:=E7 (n:=s.heap.objs.size+1) k;refine .inr ⟨.inl k,c,e,?_⟩;have q:=x.cell y c e;rw[E6 E9 hp hu (by show scope.names.lookup y≠_;rw[k];decide)]at q;exact q
 ·exact e0.bz.fresh (Nat.le_of_lt (x.above y c (pW h)))
 ·unfold start;show _=N.length;rw[bh,br,eA];lia
theorem Nu{P:Program}{w:World}{K:Frag}{mg:Str→Option Value}{base:Heap}{k:Nat}{f:Addr}{name qual:Str}{params:Arguments}{scope:Scope}{dV kV doc pm cj ct oc:Value}{an od:Option Addr}
  {my:Array (Option Value)} {N ps:List Str} {sp:Sp} (lk:K.lookup f=some ⟨oc,od,.func (fnOf name qual params body scope dV kV doc pm an cj ct),my⟩) (i9:codeIn K cj qual=true) (S:cY N ps scope)
  (len:∀vs H Q E,sp vs H Q E→vs.length=ps.length)
  (uW:∀(A:Around)(outer:List Env)(s:Shared)(H:Hp)(vs:List V)(Q:VK)(E:XK),dR k (A.deeper (envOfC qual scope s.heap.objs.size f cj))→sp vs H Q E→
   ∃t,jt (n6 CX P w K mg base N qual scope f cj A outer s H E) body t∧t { nx:=λ_ H'=>Q .cm H',rt:=Q } (start N vs) H) :
  bN P w K mg base CX (k+1) f (fnOf name qual params body scope dV kV doc pm an cj ct) ps sp:=by
 refine⟨len,λA outer s H args us vs Q E hr e0 hb r kf=>?_⟩;have hl:=len _ _ _ _ kf;have KX:K.In s.heap:=e0.mod.rJ.keeps λb o e=>(e0.bs b o e).1;have AJ:s.heap.NoLimit:=e0.mod.nolimit.keeps λb o e=>(e0.bs b o e).1;have AK:∀y∈ps.zip us,scope.names.lookup y.1=some .local∨(scope.names.lookup y.1=some .cell∧((cellsFrom (s.heap.objs.size+1) scope.names []).lookup y.1).isSome=true):=λ⟨n,v⟩ hy=>by
  rcases S.par n (List.of_mem_zip hy).1 with q|q
  ·exact .inl q
  ·exact .inr ⟨q,PySem.W.cellsFrom_some _ _ _ (.inl q)⟩
 refine codeAny_call_function hr.depth (KX _ _ lk) rfl S.co S.gen rfl (PySem.W.codeRec_of KX i9) (hb _ _ _ _ ?_);refine wpAny_newFunctionEnv_cells S.kind AK λenv he s1 x=>?_;subst he;refine⟨AJ.keeps x.toInCall.keep,codeAny_func ?_⟩;obtain⟨t,ht,hq⟩:=uW A outer s H vs Q E (hr.deeper _) kf;have I:Inv (n6 CX P w K mg base N qual scope f cj A outer s H E) [] (start N vs) H s1:=E8 S hr.hd e0 hl r x;refine ah (ht [] s1 (start N vs) H _ I hq) (λfl s' hs=>?_) λe s' hs=>hs;have fin:∀{σ':St}{H':Hp}{v:V}{u:Value},Inv (n6 CX P w K mg base N qual scope f cj A outer s H E) [] σ' H' s'→RelV v u→Q v H'→CE outer P w H s Q u s':=
  λ{σ' H' v u} J rv q=>⟨v,H',J.os,J.bare,J.base,J.bz,rv,q⟩
 cases fl with
 |ret u=>
  obtain⟨v,σ',H',J,rv,q⟩:=hs;exact fin J rv q
 |next=>
  obtain⟨σ',H',J,q⟩:=hs;exact fin (v:=V.cm) (u:=Value.none) J rfl q
 |brk=>
  obtain⟨_,_,_,q⟩:=hs;exact False.elim q
 |cont=>
  obtain⟨_,_,_,q⟩:=hs;exact False.elim q
section
variable{X:Cx}{x:Str}{p pos:Pos}{e:Expr}{es:List Expr}{t:TA}{id T:String}{r:List V→Hp→VK→Prop}
def jV(r:List V→Hp→VK→Prop)(t:TA):TE:=λσ H Q=>t σ H λvs H1=>r vs H1 Q
theorem gp(hc:eI X (.builtin id) r)(hg:Gl X x)(hm:X.mg x=none)(hv:bootBuiltins x=some (.builtin id))(ha:PA X (e::es) t)(hn:x ≠ "__name__":=by decide)(qg:(x==("__debug__":Str))=false:=by decide)
  (he:starEach (e::es) X.env=(false,eval e X.env)::starEach es X.env:=by rfl) (jb:(backTo pos (starEach es X.env)).any (·.1)=false:=by rfl):PE X (.Call (.Name x p) (e::es) [] pos) (jV r t):=by
 intro aF s σ H Q I h;refine ar (rO I hg hm hv ?_ hn qg);exact PyProof.Rows.callWith_builtin1 (aM (ha pos aF s σ H _ I h) λus s1 ⟨vs,H1,I1,r1,q1⟩=>hc aF s1 σ H1 vs us Q I1 r1 q1) he jb
theorem jc(hc:eI X (.type T) r)(hg:Gl X x)(hm:X.mg x=none)(hv:bootBuiltins x=some (.type T))(ha:PA X (e::es) t)(hn:x ≠ "__name__":=by decide)(qg:(x==("__debug__":Str))=false:=by decide)
  (he:starEach (e::es) X.env=(false,eval e X.env)::starEach es X.env:=by rfl) (jb:(backTo pos (starEach es X.env)).any (·.1)=false:=by rfl):PE X (.Call (.Name x p) (e::es) [] pos) (jV r t):=by
 intro aF s σ H Q I h;refine ar (rO I hg hm hv ?_ hn qg);exact Ej (aM (ha pos aF s σ H _ I h) λus s1 ⟨vs,H1,I1,r1,q1⟩=>hc aF s1 σ H1 vs us Q I1 r1 q1) he jb
end
end L2
namespace HT
open PySem PyProof.Rows
section
open PySem.SeqAt
open PySem.AutoSeq1 (wpAny_loadPart')
open PySem.MeetsSeq PySem.MeetsSeq2 PySem.MeetsSeq3
end
section
variable{prog:Program}{w:World}{A:Around}{E:QV}{s:Shared}
theorem Nv{t b:Addr}{vs ws:List Value}{Q:QV}(ht:IsTup s.heap t vs.toArray)(hb:IsTup s.heap b ws.toArray)(hv:vs≠[])
  (h1:ws=[]→Q (.ref t) s) (h2:ws≠[]→Q (.ref s.heap.objs.size) { s with heap:=s.heap.push { cls:=.type "tuple",data:=.seq (vs++ws).toArray } })
  (hsz:vs.length+ws.length≤sizeLine):wpAny (model prog w) A (binaryOp .Add (.ref t) (.ref b)) Q E s:=by
 obtain⟨⟨cls,dd,data,sl⟩,ho,hc,n,hd⟩:=id ht;obtain⟨⟨acf,xF,data2,rX⟩,xG,rY,n2,uX⟩:=id hb;simp only at hc hd rY uX;subst hc hd rY uX;have e:vs.toArray++ws.toArray=(vs++ws).toArray:=by simp
 by_cases hw:ws=[]
 ·exact concat_meets ⟨_,ho,rfl⟩ ⟨_,xG,rfl⟩ noFill_tuple_add seq_tuple_add PySem.F.slot_tuple_add PySem.F.entry_tuple_add (PySem.F.args_tuple_add_2 _ _)
   (tuple_addW1 t b vs.toArray ws.toArray n n2 dd xF sl rX (by simpa using hv) (by simp[hw])) ⟨ho,xG,h1 hw⟩
 ·refine concat_meets ⟨_,ho,rfl⟩ ⟨_,xG,rfl⟩ noFill_tuple_add seq_tuple_add PySem.F.slot_tuple_add PySem.F.entry_tuple_add (PySem.F.args_tuple_add_2 _ _)
   (tuple_addW2 t b vs.toArray ws.toArray n n2 dd xF sl rX (by simpa using hv) (by simpa using hw) (by rw[dC,dC];exact hsz)) ⟨ho,xG,?_⟩
  rw[e];exact h2 hw
noncomputable def ck(n d:Nat):Option Int→Nat
 |none=>d
 |some v=>if v<0 then(v+(n:Int)).toNat else min v.toNat n
theorem rZ(n d:Nat):ck n d none=d:=rfl
theorem r8(n d k:Nat):ck n d (some (k:Int))=min k n:=by
 show(if(k:Int)<0 then((k:Int)+(n:Int)).toNat else min (k:Int).toNat n)=min k n
 rw[ag (by lia),Int.toNat_natCast]
theorem Nw(n d:Nat)(hd:d≤n)(o:Option Int):ck n d o≤n:=by
 cases o with
 |none=>exact hd
 |some v=>
  show(if v<0 then(v+(n:Int)).toNat else min v.toNat n)≤n
  by_cases hv:v<0
  ·rw[af hv];lia
  ·rw[ag hv];exact Nat.min_le_right _ _
theorem Fb(v:Int)(n d:Nat):(if v<0 then max (v+(n:Int)) 0 else min v (n:Int))=((ck n d (some v):Nat):Int):=by
 show(if v<0 then max (v+(n:Int)) 0 else min v (n:Int))=(((if v<0 then(v+(n:Int)).toNat else min v.toNat n):Nat):Int)
 by_cases hv:v<0
 ·simp only[af hv];lia
 ·simp only[ag hv];lia
theorem Nx(lo hi:Option Int)(n:Nat):Builtin.Slice.sliceAdjust lo hi 1 (n:Int)=(((ck n 0 lo:Nat):Int),((ck n n hi:Nat):Int)):=by
 have h1:¬((1:Int)<0):=by lia
 unfold Builtin.Slice.sliceAdjust;simp only[h1,if_false];refine Prod.ext ?_ ?_
 ·cases lo with
  |none=>rfl
  |some v=>exact Fb v n 0
 ·cases hi with
  |none=>rfl
  |some v=>exact Fb v n n
theorem Ny(i j:Nat):Builtin.Slice.slicePlaces (i:Int) (j:Int) 1=j-i:=by
 unfold Builtin.Slice.slicePlaces;have h1:(1:Int)>0:=by lia
 simp only[h1,if_true,Int.ediv_one];split<;>lia
theorem Fc{v:Value}{o:Option Int}{Q:Option Int→Shared→Prop}(p:IsPart v o)(h:Q o s):wpAny (model prog w) A (Builtin.Slice.slicePartIndex v) Q E s:=by
 cases p with
 |none=>exact slicePart_none h
 |int i t=>exact slicePart_int h
theorem Fd{sl:Addr}{vl vu:Value}{lo hi:Option Int}{n:Nat}{Q:Int×Int×Nat→Shared→Prop}(hs:s.heap.IsSliceOf sl vl vu .none)(pl:IsPart vl lo)(pu:IsPart vu hi)
  (h:Q (((ck n 0 lo:Nat):Int),1,ck n n hi-ck n 0 lo) s):wpAny (model prog w) A (Builtin.Slice.sliceApplied (.ref sl) (pure (n:Int))) Q E s:=by
 obtain⟨os,qh,xH,uY⟩:=id hs;unfold Builtin.Slice.sliceApplied Builtin.Slice.sliceFields;refine aq (aq (wpAny_field qh uY (x:=vl) rfl (aq (wpAny_field qh uY (x:=vu) rfl (aq (wpAny_field qh uY (x:=.none) rfl (ao ?_)))))));refine aq (slicePart_none ?_);show wpAny _ _ (if((1:Int)==0)=true then _ else _) _ _ s
 rw[ag (by decide)];refine aq (Fc pl (aq (Fc pu (aq (ao ?_)))));show wpAny _ _ (match Builtin.Slice.sliceAdjust lo hi 1 (n:Int)with|(lo,hi)=>pure (lo,(1:Int),Builtin.Slice.slicePlaces lo hi 1)) _ _ s
 rw[Nx lo hi n];show wpAny _ _ (pure (((ck n 0 lo:Nat):Int),(1:Int),Builtin.Slice.slicePlaces ((ck n 0 lo:Nat):Int) ((ck n n hi:Nat):Int) 1)) _ _ s;rw[Ny];exact ao h
theorem Nz(xs:Array Value)(i k:Nat):((List.range k).filterMap λ(m:Nat)=>xs[((i:Int)+(m:Int)*1).toNat]?).toArray=((xs.toList.drop i).take k).toArray:=by
 have e:(λ(m:Nat)=>xs[((i:Int)+(m:Int)*1).toNat]?)=λm=>xs[i+m]?:=by
  funext m
  have:((i:Int)+(m:Int)*1).toNat=i+m:=by lia
  rw[this]
 rw[e]
 have:=pick_run xs i k
 rw[List.filterMap_map]at this;have e2:((λx=>xs[x]?) ∘ λx=>i+x)=λm=>xs[i+m]?:=rfl;rw[e2]at this;rw[this]
theorem NA{t sl:Addr}{items:Array Value}{vl vu:Value}{lo hi:Option Int}{Q:QV}(ht:IsTup s.heap t items)(hs:s.heap.IsSliceOf sl vl vu .none)(pl:IsPart vl lo)(pu:IsPart vu hi)
  (hw:¬(ck items.size 0 lo=0∧ck items.size items.size hi=items.size))
  (h:Q (.ref s.heap.objs.size) { s with heap:=s.heap.push { cls:=.type "tuple",data:=.seq ((items.toList.drop (ck items.size 0 lo)).take (ck items.size items.size hi-ck items.size 0 lo)).toArray } })
  (hsz:items.size≤sizeLine):wpAny (model prog w) A (getItem (.ref t) (.ref sl)) Q E s:=by
 have xI:sizeOk (.seq ((items.toList.drop (ck items.size 0 lo)).take (ck items.size items.size hi-ck items.size 0 lo)).toArray):=by
  show((items.toList.drop (ck items.size 0 lo)).take (ck items.size items.size hi-ck items.size 0 lo)).toArray.size≤sizeLine;rw[dC,dD,eF,Array.length_toList];lia
 have hj:ck items.size items.size hi≤items.size:=Nw _ _ (bH _) hi;obtain⟨os,qh,xH,uY⟩:=id hs;have AL:s.TypeIs (.ref sl) "slice":=⟨os,qh,xH⟩;unfold getItem
 try with_reducible refine wpAny_holding ?_
 first|refine aq (ao ?_)|skip
 refine aq (wpAny_sequenceKey ht.typeIs (by decide) ?_);refine aq (wpAny_callSpecial?_slot (name:=Str.ofString "__getitem__") ht.typeIs xi (wpAny_call_entry xi ht.typeIs entry_tuple_getitem ?_ (args_tuple_getitem _ _)));show wpAny _ _ (Builtin.Tuple.tupleItemsOf (.ref t) >>= _) _ _ s;refine aq (tupleItemsOf_ ht ?_);refine aq (wpAny_typeOf AL ?_);rw[af (by decide)];refine aq (Fd hs pl pu ?_);have r9:¬((((ck items.size 0 lo:Nat):Int)==0&&(1:Int)==1&&(ck items.size items.size hi-ck items.size 0 lo)==items.size)=true):=by
  intro q;rw[fq,fq]at q;have q1:((ck items.size 0 lo:Nat):Int)=0:=eq_of_beq q.1.1;have q2:ck items.size items.size hi-ck items.size 0 lo=items.size:=eq_of_beq q.2;exact hw ⟨by lia,by lia⟩
 show wpAny _ _ (if(((ck items.size 0 lo:Nat):Int)==0&&(1:Int)==1&&(ck items.size items.size hi-ck items.size 0 lo)==items.size)=true then _ else _) _ _ s
 rw[ag r9,Nz];first
  |exact aq (m:=Builtin.Tuple.tupleExact _) (av (ao ⟨_,rfl,ao h⟩) xI)
  |exact aq (m:=Builtin.Tuple.tupleExact _) (av (aq (ao (ao ⟨_,rfl,ao h⟩))) xI)
  |exact aq (aq (m:=Builtin.Tuple.tupleExact _) (av (ao (ao ⟨_,rfl,ao h⟩)) xI))
  |exact aq (aq (m:=Builtin.Tuple.tupleExact _) (av (ao ⟨_,rfl,ao h⟩) xI))
end
end HT
namespace L2
open PySem PySem.Spec PyProof.Rows
variable{n:Nat}{x:V}{α:Type}
abbrev TO:=St→Hp→(Option Int→Hp→Prop)→Prop
def PO(X:Cx)(e:Option Expr)(t:TO):Prop:=
 ∀(aF:List (Addr×Obj))(s:Shared)(σ:St)(H:Hp)(Q:Option Int→Hp→Prop),Inv X aF σ H s→t σ H Q→
  wpAny (model X.prog X.w) X.A (evalPart e X.env) (λu s'=>∃o H',Inv X aF σ H' s'∧IsPart u o∧Q o H') X.xe s
def o4:TO:=λ_ H Q=>Q none H
def iO(t:TE):TO:=λσ H Q=>t σ H λx H1=>∃i,x=.int i∧Q (some i) H1
section
variable{X:Cx}{e:Expr}{te:TE}{lo hi:Option Expr}{tl th:TO}{pos p2:Pos}
theorem gq:PO X none o4:=by
 intro aF s σ H Q I h;rw[evalPart_none];exact ao ⟨none,H,I,.none,h⟩
theorem dy(h:PE X e te):PO X (some e) (iO te):=by
 intro aF s σ H Q I hw;rw[evalPart_some];refine aM (h aF s σ H _ I hw) λu s1 ⟨x,H1,I1,r1,q1⟩=>?_;obtain⟨i,rfl,q⟩:=q1;obtain⟨t,rfl⟩:=r1;exact⟨some i,H1,I1,.int i t,q⟩
def sd(X:Cx)(r:V→Option Int→Option Int→Hp→VK→Prop):Prop:=
 ∀(aF:List (Addr×Obj))(s:Shared)(σ:St)(H:Hp)(x:V)(v vl vu:Value)(lo hi:Option Int)(sl:Addr)(Q:VK),Inv X aF σ H s→RelV x v→s.heap.IsSliceOf sl vl vu .none→IsPart vl lo→IsPart vu hi→r x lo hi H Q→
  ∃T id,typeLookup (.type T) "__getitem__"=pure (some (.builtin id))∧s.TypeIs v T∧wpAny (model X.prog X.w) X.A (getItem v (.ref sl)) (EP X aF σ Q) X.xe s
def jv(r:V→Option Int→Option Int→Hp→VK→Prop)(te:TE)(tl th:TO):TE:=λσ H Q=>te σ H λx H1=>tl σ H1 λl H2=>th σ H2 λu H3=>r x l u H3 Q
theorem eX{r:V→Option Int→Option Int→Hp→VK→Prop}(hr:sd X r)(he:PE X e te)(hl:PO X lo tl)(hu:PO X hi th):PE X (.Subscript e (.Slice lo hi none p2) pos) (jv r te tl th):=by
 intro aF s σ H Q I h;refine Subscript_ (aM (he aF s σ H _ I h) λv s1 ⟨x,H1,I1,r1,q1⟩=>?_);refine wpAny_Slice (aM (hl aF s1 σ H1 _ I1 q1) λvl s2 ⟨l,H2,I2,pl,q2⟩=>aM (hu aF s2 σ H2 _ I2 q2) λvu s3 ⟨u,H3,I3,pu,q3⟩=>?_);rw[evalPart_none];refine ao ?_;have I4:Inv X aF σ H3 { s3 with heap:=s3.heap.push { cls:=.type "slice",data:=.fields #[vl,vu,.none] } }:=I3.kept (t':=s3.toks) λb ob q=>fc _ q;obtain⟨T,id,hT,ht,hg⟩:=hr aF { s3 with heap:=s3.heap.push { cls:=.type "slice",data:=.fields #[vl,vu,.none] } } σ H3 x v vl vu l u s3.heap.objs.size Q I4 r1 (Heap.IsSliceOf.new ..) pl pu q3;show wpAny (model X.prog X.w) X.A (subscriptTail e (.Slice lo hi none p2) v (.ref s3.heap.objs.size)) (EP X aF σ Q) X.xe { s3 with heap:=s3.heap.push { cls:=.type "slice",data:=.fields #[vl,vu,.none] } };exact tail_any (ops:=[.ref s3.heap.objs.size,v]) ht hT hg (by with_unfolding_all rfl)
noncomputable def eV(xs:List V)(lo hi:Option Int):List V:=(xs.drop (HT.ck xs.length 0 lo)).take (HT.ck xs.length xs.length hi-HT.ck xs.length 0 lo)
theorem Fe(xs:List V)(lo hi:Option Int):(eV xs lo hi).length≤xs.length:=by
 unfold eV;rw[dD,eF];lia
def NB(K:Frag):V→Option Int→Option Int→Hp→VK→Prop:=λx lo hi H Q=>∃a xs,x=.ref a∧bQ K H a xs∧
 ¬(HT.ck xs.length 0 lo=0∧HT.ck xs.length xs.length hi=xs.length)∧∀p,H p=none→Q (.ref p) (upd H p (.tup (eV xs lo hi)))
theorem NC:sd X (NB X.K):=by
 intro aF s σ H x v vl vu lo hi sl Q I rx hs pl pu h;obtain⟨a,xs,rfl,hx,hw,q⟩:=h;cases rx;obtain⟨its,r,ht,hz⟩:=I.tuple hx;have cU:its.toArray.size=xs.length:=by rw[dC];exact r.length.symm
 refine⟨"tuple",_,xi.lookup,ht.typeIs,?_⟩;refine HT.NA ht hs pl pu (by rw[cU];exact hw) ?_ (by rw[cU];exact hz);rw[cU];refine⟨.ref s.heap.objs.size,_,I.laid (t':=s.toks) (o:=.tup (eV xs lo hi)) (λb ob q=>fc _ q) (bH _) ?_,rfl,q _ (I.bz.fresh (bH _))⟩;exact⟨eu (Fe xs lo hi) hz,_,(r.drop (HT.ck xs.length 0 lo)).take (HT.ck xs.length xs.length hi-HT.ck xs.length 0 lo),nR.new _ _⟩
def ND(K:Frag):R2:=λx y H Q=>∃a b xs ys,x=.ref a∧y=.ref b∧bQ K H a xs∧bQ K H b ys∧xs≠[]∧xs.length+ys.length≤sizeLine∧
 (ys=[]→Q (.ref a) H)∧(ys≠[]→∀p,H p=none→Q (.ref p) (upd H p (.tup (xs++ys))))
theorem Vals.se{xs:List V}{us:List Value}(r:Vals xs us):us=[]↔xs=[]:=by
 cases r with
 |nil=>simp
 |cons _ _=>simp
theorem NF:eB X (binaryOp .Add) (ND X.K):=by
 intro aF s σ H x y v u Q I rx ry h;obtain⟨a,b,xs,ys,rfl,rfl,ha,hb,hx,hz,q1,q2⟩:=h;cases rx;cases ry;obtain⟨its,r1,p1,_⟩:=I.tuple ha;obtain⟨jW,r2,p2,_⟩:=I.tuple hb;refine HT.Nv p1 p2 (λz=>hx (r1.se.mp z)) (λz=>⟨.ref a,H,I,rfl,q1 (r2.se.mp z)⟩) (λz=>?_) (by rw[← r1.length,← r2.length];exact hz);refine⟨.ref s.heap.objs.size,_,I.laid (t':=s.toks) (o:=.tup (xs++ys)) (λb ob q=>fc _ q) (bH _) ?_,rfl,q2 (λw=>z (r2.se.mpr w)) _ (I.bz.fresh (bH _))⟩;exact⟨by rw[bh];exact hz,_,r1.append r2,nR.new _ _⟩
end
noncomputable def o5(n:Nat)(i:Int):Option Nat:=if 0≤i then(if i<n then some i.toNat else none)else if -(n:Int)≤i then some (i+n).toNat else none
noncomputable def mz(xs:List α)(i:Int):Option α:=(o5 xs.length i).bind λj=>xs[j]?
theorem NG{i:Int}{j:Nat}(h:o5 n i=some j):seqIndex? i n=some j∧j<n∧-(n:Int)≤i∧i<n:=by
 unfold o5 at h;by_cases h0:0≤i
 ·rw[af h0]at h;by_cases h1:i<n
  ·rw[af h1]at h;have e:i.toNat=j:=eM h;exact⟨by rw[seqIndex_of h0 h1,e],by lia,by lia,h1⟩
  ·rw[ag h1]at h;cases h
 ·rw[ag h0]at h;by_cases h1:-(n:Int)≤i
  ·rw[af h1]at h;have e:(i+n).toNat=j:=eM h;exact⟨by rw[seqIndex_neg (by lia) h1,e],by lia,h1,by lia⟩
  ·rw[ag h1]at h;cases h
theorem Ff{xs:List α}{i:Int}{v:α}(h:mz xs i=some v):∃j,seqIndex? i xs.length=some j∧xs[j]?=some v∧j<xs.length∧-(xs.length:Int)≤i∧i<xs.length:=by
 unfold mz at h;cases e:o5 xs.length i with
 |none=>rw[e]at h;cases h
 |some j=>
  rw[e]at h;obtain⟨h1,h2,h3,h4⟩:=NG e;exact⟨j,h1,h,h2,h3,h4⟩
theorem cb{xs:List α}{j:Nat}{v:α}(h:xs[j]?=some v):mz xs (j:Int)=some v:=by
 have hj:j<xs.length:=(dB.mp h).1;have e:o5 xs.length (j:Int)=some j:=by
  unfold o5;rw[af (by lia),af (by lia)];simp
 unfold mz;rw[e];exact h
theorem Fg(xs:List α)(v:α):mz (xs++[v]) (-1)=some v:=by
 have hl:(xs++[v]).length=xs.length+1:=by simp
 have e:o5 (xs++[v]).length (-1)=some xs.length:=by
  unfold o5;rw[hl,ag (by decide),af (by lia)]
  congr 1
  lia
 unfold mz;rw[e];show(xs++[v])[xs.length]?=some v;simp
def NH(b:Expr):Prop:=∀o i,subscripted b false o i=operate [o,i] (getItem o i)
def uZ(X:Cx)(r:R2):Prop:=
 ∀(value slice:Expr)(aF:List (Addr×Obj))(s:Shared)(σ:St)(H:Hp)(x y:V)(v u:Value)(Q:VK),Inv X aF σ H s→RelV x v→RelV y u→r x y H Q→
  subscripted slice false v u=operate [v,u] (getItem v u)→wpAny (model X.prog X.w) X.A (subscriptTail value slice v u) (EP X aF σ Q) X.xe s
def AM(X:Cx)(id:String)(r:V→List V→Hp→VK→Prop):Prop:=
 ∀(aF:List (Addr×Obj))(s:Shared)(σ:St)(H:Hp)(x:V)(xs:List V)(v:Value)(us:List Value)(Q:VK),Inv X aF σ H s→RelV x v→Vals xs us→r x xs H Q→
  wpAny (model X.prog X.w) X.A (call (.builtin id) (v::us)) (EP X aF σ Q) X.xe s
section
variable{X:Cx}{a b:Expr}{ta tb:TE}{pos:Pos}
theorem bZ{r:R2}(hr:uZ X r)(ha:PE X a ta)(hb:PE X b tb)(hs:NH b):PE X (.Subscript a b pos) (aT r ta tb):=by
 intro aF s σ H Q I h;exact Subscript_ (Az ha hb I h λv u s2 x y H2 I2 rx ry q=>hr a b aF s2 σ H2 x y v u Q I2 rx ry q (hs _ _))
def ff(K:Frag):R2:=λx y H Q=>∃p xs i v,x=.ref p∧y=.int i∧cR K H p xs∧mz xs i=some v∧Q v H
def Fh(K:Frag):R2:=λx y H Q=>∃p xs i v,x=.ref p∧y=.int i∧bQ K H p xs∧mz xs i=some v∧Q v H
theorem NI:uZ X (ff X.K):=by
 intro value slice aF s σ H x y v u Q I rx ry h hs;obtain⟨p,xs,i,z,rfl,rfl,hq,he,q⟩:=h;cases rx;obtain⟨t,rfl⟩:=ry;obtain⟨its,r,pl,hz⟩:=I.list hq;obtain⟨j,h1,h2,h3,h4,h5⟩:=Ff he;obtain⟨w,ew,lz⟩:=r.get h2;have hl:=r.length;have hn:=xE;have fin:EP X aF σ Q w s:=⟨z,H,I,lz,q⟩;by_cases h0:0≤i
 ·have hj:i.toNat=j:=by
   rw[seqIndex_of h0 h5]at h1;exact eM h1
  exact item_listR pl.isList h0 (by lia) (by rw[hj];simpa using ew) fin hs
 ·have hj:(i+(its.toArray.size:Int)).toNat=j:=by
   rw[seqIndex_neg (by lia) h4]at h1;rw[dC,← hl];exact eM h1
  exact subscriptTail_builtinR (x:=w) pl.isList.typeIs slot_list_getitem.lookup
   (wpAny_getItem_list_neg (Q:=λr s'=>r=w∧EP X aF σ Q r s') pl.isList (by lia) (by rw[dC]<;>lia) (by lia) (by rw[hj];simpa using ew) ⟨rfl,fin⟩) hs
theorem NJ:uZ X (Fh X.K):=by
 intro value slice aF s σ H x y v u Q I rx ry h hs;obtain⟨p,xs,i,z,rfl,rfl,hq,he,q⟩:=h;cases rx;obtain⟨t,rfl⟩:=ry;obtain⟨its,r,pl,hz⟩:=I.tuple hq;obtain⟨j,h1,h2,h3,h4,h5⟩:=Ff he;obtain⟨w,ew,lz⟩:=r.get h2;have hl:=r.length;have hn:=xE;have fin:EP X aF σ Q w s:=⟨z,H,I,lz,q⟩;exact subscriptTail_builtinR (x:=w) pl.typeIs slot_tuple_getitem.lookup
  (getItem_tuple (j:=j) (Q:=λr s'=>r=w∧EP X aF σ Q r s') pl (by lia) (by lia) (by rw[dC,← hl];exact h1) (by simpa using ew) ⟨rfl,fin⟩) hs
theorem NK(lo hi:Option Int)(n:Nat):(sliceBounds lo hi none n).1=((HT.ck n 0 lo:Nat):Int)∧(sliceBounds lo hi none n).2.1=((HT.ck n n hi:Nat):Int)∧(sliceBounds lo hi none n).2.2=1:=by
 refine⟨?_,?_,rfl⟩
 ·cases lo with
  |none=>simp[sliceBounds,HT.ck]
  |some i=>
   simp only[sliceBounds,HT.ck,Option.getD_none,show(1:Int)>0 by decide,if_true];by_cases h:i<0
   ·simp only[h,if_true]<;>lia
   ·simp only[h,if_false]<;>lia
 ·cases hi with
  |none=>simp[sliceBounds,HT.ck]
  |some i=>
   simp only[sliceBounds,HT.ck,Option.getD_none,show(1:Int)>0 by decide,if_true];by_cases h:i<0
   ·simp only[h,if_true]<;>lia
   ·simp only[h,if_false]<;>lia
theorem NL(its:List Value)(lo hi:Option Int):slicePick its.toArray lo hi none=((its.drop (HT.ck its.length 0 lo)).take (HT.ck its.length its.length hi-HT.ck its.length 0 lo)).toArray:=by
 obtain⟨h1,h2,h3⟩:=NK lo hi its.toArray.size;unfold slicePick;rw[h1,h2,h3];simp only[sliceRange_one,pick_run,dC]<;>rfl
def jd(K:Frag):V→Option Int→Option Int→Hp→VK→Prop:=λx lo hi H Q=>∃a xs,x=.ref a∧cR K H a xs∧∀p,H p=none→Q (.ref p) (upd H p (.lst (eV xs lo hi)))
theorem NM:sd X (jd X.K):=by
 intro aF s σ H x v vl vu lo hi sl Q I rx hs pl pu h;obtain⟨a,xs,rfl,hx,q⟩:=h;cases rx;obtain⟨its,r,ht,hz⟩:=I.list hx;have cU:=r.length;refine⟨"list",_,slot_list_getitem.lookup,ht.isList.typeIs,?_⟩;refine wpAny_getItem_list_slice ht.isList hs pl pu .none (by simp) ?_ (by rw[dC]<;>lia)
 rw[NL,← cU];refine⟨.ref s.heap.objs.size,_,I.laid (t':=s.toks) (o:=.lst (eV xs lo hi)) (λb ob q=>fc _ q) (bH _) ?_,rfl,q _ (I.bz.fresh (bH _))⟩;exact⟨eu (Fe xs lo hi) hz,_,0,(r.drop (HT.ck xs.length 0 lo)).take (HT.ck xs.length xs.length hi-HT.ck xs.length 0 lo),jL _ rfl⟩
noncomputable def o6:V→Bool
 | .cm=>true
 | .bl _=>true
 | .int _=>true
 | .str _=>true
 |_=>false
noncomputable def o7:V→V→Bool
 | .cm,.cm=>true
 | .bl a,.bl b=>a==b
 | .bl a,.int b=>(if a then 1 else 0)==b
 | .int a,.bl b=>a==(if b then 1 else 0)
 | .int a,.int b=>a==b
 | .str a,.str b=>a==b
 |_,_=>false
theorem NO{A:Around}{s:Shared}{y:V}{u v:Value}(ry:RelV y u)(rx:RelV x v)(fy:o6 y=true)(fx:o6 x=true):SeqAt.EqAt A s u v (o7 y x):=by
 cases y with
 |cm=>
  cases ry;cases x with
  |cm=>cases rx;exact SeqAt.EqAt.same _
  |bl b=>cases rx;exact SeqAt.EqAt.none_bool b
  |int b=>obtain⟨t,rfl⟩:=rx;exact SeqAt.EqAt.none_int b t
  |str b=>obtain⟨t,rfl⟩:=rx;exact SeqAt.EqAt.none_str b t
  |_=>exact absurd (show false=true from fx) fi
 |bl a=>
  cases ry;cases x with
  |cm=>cases rx;exact SeqAt.EqAt.bool_none a
  |bl b=>cases rx;exact SeqAt.EqAt.bool_bool a b
  |int b=>obtain⟨t,rfl⟩:=rx;exact SeqAt.EqAt.bool_int a b t
  |str b=>obtain⟨t,rfl⟩:=rx;exact SeqAt.EqAt.bool_str a b t
  |_=>exact absurd (show false=true from fx) fi
 |int a=>
  obtain⟨t',rfl⟩:=ry;cases x with
  |cm=>cases rx;exact SeqAt.EqAt.int_none a t'
  |bl b=>cases rx;exact SeqAt.EqAt.int_bool a t' b
  |int b=>obtain⟨t,rfl⟩:=rx;exact SeqAt.EqAt.int_int a t' b t
  |str b=>obtain⟨t,rfl⟩:=rx;exact SeqAt.EqAt.int_str a t' b t
  |_=>exact absurd (show false=true from fx) fi
 |str a=>
  obtain⟨t',rfl⟩:=ry;cases x with
  |cm=>cases rx;exact SeqAt.EqAt.str_none a t'
  |bl b=>cases rx;exact SeqAt.EqAt.str_bool a t' b
  |int b=>obtain⟨t,rfl⟩:=rx;exact SeqAt.EqAt.str_int a t' b t
  |str b=>obtain⟨t,rfl⟩:=rx;exact SeqAt.EqAt.str_str a t' b t
  |_=>exact absurd (show false=true from fx) fi
 |_=>exact absurd (show false=true from fy) fi
noncomputable def n8(x:V)(u:Value):Bool:=match u with
 | .none=>o7 .cm x
 | .bool b=>o7 (.bl b) x
 | .int i _=>o7 (.int i) x
 | .str z _=>o7 (.str z) x
 |_=>false
theorem Fi{y:V}{u:Value}(r:RelV y u)(f:o6 y=true):n8 x u=o7 y x:=by
 cases y with
 |cm=>cases r;rfl
 |bl b=>cases r;rfl
 |int i=>obtain⟨t,rfl⟩:=r;rfl
 |str z=>obtain⟨t,rfl⟩:=r;rfl
 |_=>exact absurd (show false=true from f) fi
theorem AN{x:V}:∀{xs:List V}{us:List Value},Vals xs us→xs.all o6=true→us.any (n8 x)=xs.any λy=>o7 y x
 |_,_,.nil,_=>rfl
 |y::xs,u::us,.cons r t,f=>by
  rw[List.all_cons,fq]at f;rw[List.any_cons,List.any_cons,Fi r f.1,AN t f.2]
theorem AO{A:Around}{s:Shared}{x:V}{v:Value}(rx:RelV x v)(fx:o6 x=true):∀{xs:List V}{us:List Value},Vals xs us→xs.all o6=true→∀u∈us,SeqAt.EqAt A s u v (n8 x u)
 |_,_,.nil,_=>λu hu=>by cases hu
 |y::xs,u::us,.cons r t,f=>λu' hu=>by
  rw[List.all_cons,fq]at f;rcases e9.mp hu with rfl|hu
  ·rw[Fi r f.1];exact NO r rx f.1 fx
  ·exact AO rx fx t f.2 u' hu
noncomputable def o8(x:V)(xs:List V):Bool:=xs.any λy=>o7 y x
def Fj(K:Frag)(neg:Bool):R2:=λx y H Q=>∃p xs,y=.ref p∧(cR K H p xs∨bQ K H p xs)∧o6 x=true∧xs.all o6=true∧Q (.bl (if neg then !o8 x xs else o8 x xs)) H
theorem NP:eB X (compareOp .In) (Fj X.K false):=by
 intro aF s σ H x y v u Q I rx ry h;obtain⟨p,xs,rfl,hq,fx,fs,q⟩:=h;cases ry;rcases hq with hq|hq
 ·obtain⟨its,r,pl,hz⟩:=I.list hq;refine SeqAt.in_listAt (n8 x) pl.isList (λw hw=>AO rx fx r fs w (by simpa using hw)) ⟨.bl _,H,I,rfl,?_⟩;rw[show its.toArray.any (n8 x)=its.any (n8 x) by simp,AN r fs];exact q
 ·obtain⟨its,r,pl,hz⟩:=I.tuple hq;refine SeqAt.in_tupleAt (n8 x) pl (λw hw=>AO rx fx r fs w (by simpa using hw)) ⟨.bl _,H,I,rfl,?_⟩;rw[show its.toArray.any (n8 x)=its.any (n8 x) by simp,AN r fs];exact q
theorem NQ:eI X (.builtin "len") (λxs H Q=>∃p ys,xs=[.ref p]∧(cR X.K H p ys∨bQ X.K H p ys)∧Q (.int ys.length) H):=by
 intro aF s σ H xs us Q I r h;obtain⟨p,ys,rfl,hq,q⟩:=h;obtain⟨u,rfl,rx⟩:=vals1 r;cases rx;have hn:=xE;rcases hq with hq|hq
 ·obtain⟨its,r',pl,hz⟩:=I.list hq;have cU:=r'.length;exact Calls.call_len_list pl.isList (by simp only[dC]<;>lia) ⟨.int ys.length,H,I.tok _,⟨s.toks+1,by rw[dC,cU]⟩,q⟩
 ·obtain⟨its,r',pl,hz⟩:=I.tuple hq;have cU:=r'.length;exact len_tuple pl (by simp only[dC]<;>lia) ⟨.int ys.length,H,I.tok _,⟨s.toks+1,by rw[dC,cU]⟩,q⟩
theorem eI.or{f:Value}{r r':List V→Hp→VK→Prop}(h:eI X f r)(h':eI X f r'):eI X f (λxs H Q=>r xs H Q∨r' xs H Q):=by
 intro aF s σ H xs us Q I rs q;rcases q with q|q
 ·exact h aF s σ H xs us Q I rs q
 ·exact h' aF s σ H xs us Q I rs q
theorem NR:eI X (.type "list") (λxs H Q=>∃p ys,xs=[.ref p]∧(cR X.K H p ys∨bQ X.K H p ys)∧∀l,H l=none→Q (.ref l) (upd H l (.lst ys))):=by
 intro aF s σ H xs us Q I r h;obtain⟨p,ys,rfl,hq,q⟩:=h;obtain⟨u,rfl,rx⟩:=vals1 r;cases rx;have fin:∀(its:List Value),Vals ys its→ys.length≤sizeLine→∀(h':Heap)(c':Nat),(∀b o',s.heap.get? b=some o'→h'.get? b=some o')→
   h'.get? s.heap.objs.size=some { cls:=.type "list",dict:=none,data:=.seq its.toArray c',slots:=#[] }→EP X aF σ Q (.ref s.heap.objs.size) { s with heap:=h' }:=λits r' hz h' c' kp e=>
  ⟨.ref s.heap.objs.size,_,I.laid (t':=s.toks) kp (bH _) (show eO X.prog X.w _ h' _ (.lst ys) from⟨hz,its,c',r',e⟩),rfl,q _ (I.bz.fresh (bH _))⟩
 rcases hq with hq|hq
 ·obtain⟨its,r',pl,hz⟩:=I.list hq;have cU:=r'.length;obtain⟨o,ho,hc,n,hd⟩:=pl.isList;exact call_list_seq p (.inl rfl) ho hc hd (λh' c' kp e=>fin its r' hz h' c' kp e) (by simp only[dC]<;>lia)
 ·obtain⟨its,r',pl,hz⟩:=I.tuple hq;have cU:=r'.length;obtain⟨o,ho,hc,n,hd⟩:=pl;exact call_list_seq p (.inr rfl) ho hc hd (λh' c' kp e=>fin its r' hz h' c' kp e) (by simp only[dC]<;>lia)
theorem NT:eI X (.type "tuple") (λxs H Q=>∃p ys,xs=[.ref p]∧((cR X.K H p ys∧∀l,H l=none→Q (.ref l) (upd H l (.tup ys)))∨(bQ X.K H p ys∧Q (.ref p) H))):=by
 intro aF s σ H xs us Q I r h;obtain⟨p,ys,rfl,h⟩:=h;obtain⟨u,rfl,rx⟩:=vals1 r;cases rx;rcases h with⟨hq,q⟩|⟨hq,q⟩
 ·obtain⟨its,r',pl,hz⟩:=I.list hq;have cU:=r'.length;refine call_tuple_list pl.isList (λh' kp=>?_) (by simp only[dC]<;>lia)
  have I1:Inv X aF σ H { s with heap:=h' }:=I.kept (t':=s.toks) kp;have I2:Inv X aF σ (upd H h'.objs.size (.tup ys)) { s with heap:=h'.push { cls:=.type "tuple",data:=.seq its.toArray } }:=
   I1.laid (t':=s.toks) (λb o e=>fc _ e) (bH _) (show eO X.prog X.w _ _ _ (.tup ys) from⟨hz,its,r',nR.new _ _⟩)
  exact⟨.ref h'.objs.size,_,I2,rfl,q _ (I1.bz.fresh (bH _))⟩
 ·obtain⟨its,r',pl,hz⟩:=I.tuple hq;exact call_tuple_same pl ⟨.ref p,H,I,rfl,q⟩
def AQ(K:Frag)(T:String)(x:V)(H:Hp):Prop:=match x with
 | .str _=>T="str"
 | .int _=>T="int"
 | .ref p=>(T="list"∧∃xs,cR K H p xs)∨(T="tuple"∧∃o,K.lookup p=some o∧o.cls=.type "tuple"∧o.dict=none) ∨
   (T="dict"∧((∃aH,H p=some (.dK aH))∨∃aH,H p=some (.dT aH)))∨(T="set"∧∃S n,H p=some (.set S n))
 |_=>False
theorem Fl{aF:List (Addr×Obj)}{σ:St}{H:Hp}{s:Shared}{T:String}{v:Value}(I:Inv X aF σ H s)(r:RelV x v)(ty:AQ X.K T x H) :
  s.TypeIs v T∧∀a,v=.ref a→∃ob,s.heap.get? a=some ob∧ob.dict=none:=by
 cases x with
 |str z=>
  obtain⟨t,rfl⟩:=r;cases(show T="str" from ty)
  exact⟨typeIs_str s z t,λ_ e=>nomatch e⟩
 |int i=>
  obtain⟨t,rfl⟩:=r;cases(show T="int" from ty)
  exact⟨typeIs_int s i t,λ_ e=>nomatch e⟩
 |ref p=>
  cases r;rcases ty with⟨rfl,xs,hq⟩|⟨rfl,o,hk,hc,hd⟩|⟨rfl,hk⟩|⟨rfl,S,n,hk⟩
  ·obtain⟨its,_,pl,_⟩:=I.list hq;refine⟨pl.isList.typeIs,λa e=>?_⟩;cases e;obtain⟨o,n,e,c,hd,_⟩:=pl;exact⟨o,e,hd⟩
  ·refine⟨⟨o,I.eS p o hk,hc⟩,λa e=>?_⟩;cases e;exact⟨o,I.eS _ o hk,hd⟩
  ·have z:∃o,s.heap.get? p=some o∧o.ExactDict:=by
    rcases hk with⟨aH,hk⟩|⟨aH,hk⟩
    ·obtain⟨_,_,_,_,o,_,_,e,ex,_⟩:=I.bz p _ hk;exact⟨o,e,ex⟩
    ·obtain⟨_,_,_,_,o,_,_,e,ex,_⟩:=I.bz p _ hk;exact⟨o,e,ex⟩
   obtain⟨o,e,ex⟩:=z;refine⟨⟨o,e,ex.1⟩,λa e2=>?_⟩;cases e2;exact⟨o,e,ex.2.1⟩
  ·obtain⟨o,_,_,_,e,ex,_⟩:=I.bz p _ hk;refine⟨⟨o,e,ex.1⟩,λa e2=>?_⟩;cases e2;exact⟨o,e,ex.2.1⟩
 |_=>exact False.elim ty
def xJ(K:Frag)(T:String)(r:V→List V→Hp→VK→Prop)(to:TE):TE:=λσ H Q=>to σ H λx H1=>AQ K T x H1∧r x [] H1 Q
def qi(K:Frag)(T:String)(r:V→List V→Hp→VK→Prop)(to:TE)(t:TA):TE:=λσ H Q=>to σ H λx H1=>AQ K T x H1∧t σ H1 λxs H2=>r x xs H2 Q
variable{o e:Expr}{es:List Expr}{to:TE}{t:TA}{name:Str}{gZ eY:Pos}{T id:String}{r:V→List V→Hp→VK→Prop}
theorem Fm(pa:PlainAttrs T)(slot:Slot T name id)(AR:typeOf (.builtin id)=pure (.type "method_descriptor"))(hm:AM X id r)(ho:PE X o to)
  (qj:attributeBase o name X.env (eval o X.env)=eval o X.env:=by rfl) (qk:(gZ.endLine==eY.line)=true:=by rfl):PE X (.Call (.Attribute o name gZ) [] [] eY) (xJ X.K T r to):=by
 intro aF s σ H Q I h;refine wpAny_Call_method0_late qj qk (aM (ho aF s σ H _ I h) λv s1 ⟨x,H1,I1,r1,ty,q1⟩=>?_);obtain⟨h1,h2⟩:=Fl I1 r1 ty;exact⟨T,id,pa,slot,AR,h1,h2,Ag rfl (PySem.evalArgs_none (hm aF s1 σ H1 x [] v [] Q I1 r1 .nil q1))⟩
theorem iP(pa:PlainAttrs T)(slot:Slot T name id)(AR:typeOf (.builtin id)=pure (.type "method_descriptor"))(hm:AM X id r)(ho:PE X o to)(ha:PA X (e::es) t)
  (qj:attributeBase o name X.env (eval o X.env)=eval o X.env:=by rfl)
  (AU:((backTo eY (starEach (e::es) X.env)).all (λx=>!x.1)&&(backToKw eY (keywordEach [] X.env)).all (λx=>x.1.isSome)
   && decide ((e::es).length+([]:List Keyword).length+(if([]:List Keyword).isEmpty then 0 else 1)<30))=true:=by rfl)
  (qk:(gZ.endLine==eY.line)=true:=by rfl) (hs:starEach (e::es) X.env=(false,eval e X.env)::starEach es X.env:=by rfl) (NU:(backTo eY (starEach es X.env)).any (·.1)=false:=by rfl) :
  PE X (.Call (.Attribute o name gZ) (e::es) [] eY) (qi X.K T r to t):=by
 intro aF s σ H Q I h;refine wpAny_Call_method_late qj AU qk rfl (aM (ho aF s σ H _ I h) λv s1 ⟨x,H1,I1,r1,ty,q1⟩=>?_);obtain⟨h1,h2⟩:=Fl I1 r1 ty;refine⟨T,id,pa,slot,AR,h1,h2,?_⟩;have hA:=ha eY aF s1 σ H1 _ I1 q1;rw[hs]at hA ⊢;refine Ag (by show(false||(backTo eY (starEach es X.env)).any (·.1))=false;rw[NU]<;>rfl) (Calls.evalArgs_plain ?_)
 exact aM hA λus s2 ⟨vs,H2,I2,r2,q2⟩=>hm aF s2 σ H2 x vs v us Q I2 r1 r2 q2
end
def xK(X:Cx)(id:String)(r:V→List V→Hp→VK→Prop):Prop:=
 ∀(aF:List (Addr×Obj))(s:Shared)(σ:St)(H:Hp)(x:V)(xs:List V)(v:Value)(us:List Value)(Q:VK),Inv X aF σ H s→RelV x v→Vals xs us→r x xs H Q→
  wpAny (model X.prog X.w) X.A (call (.builtin id) (v::us)) (EP X aF σ Q) X.xe s
theorem Vals.one:∀{x:V}{us:List Value},Vals [x] us→∃u,us=[u]∧RelV x u
 |_,_,.cons r .nil=>⟨_,rfl,r⟩
theorem Vals.zero:∀{us:List Value},Vals [] us→us=[]
 |_,.nil=>rfl
theorem Vals.dropLast{xs:List V}{us:List Value}(h:Vals xs us):Vals xs.dropLast us.dropLast:=by
 induction h with
 |nil=>exact .nil
 |cons r t ih=>
  cases t with
  |nil=>exact .nil
  |cons q t'=>exact .cons r ih
theorem Vals.eraseIdx:∀{xs:List V}{us:List Value}(i:Nat),Vals xs us→Vals (xs.eraseIdx i) (us.eraseIdx i)
 |_,_,_,.nil=>.nil
 |_,_,0,.cons _ t=>t
 |_,_,i+1,.cons r t=>.cons r (Vals.eraseIdx i t)
theorem Vals.reverse{xs:List V}{us:List Value}(h:Vals xs us):Vals xs.reverse us.reverse:=by
 induction h with
 |nil=>exact .nil
 |cons r t ih=>rw[List.reverse_cons,List.reverse_cons];exact Vals.append ih (.cons r .nil)
theorem Vals.rep{xs:List V}{us:List Value}(h:Vals xs us):∀k:Nat,Vals (List.replicate k xs).flatten (List.replicate k us).flatten
 |0=>.nil
 |k+1=>by
  rw[uE,uE,List.flatten_cons,List.flatten_cons];exact Vals.append h (Vals.rep h k)
theorem NV(l:List α):l.eraseIdx (l.length-1)=l.dropLast:=by
 induction l with
 |nil=>rfl
 |cons a r ih=>
  cases r with
  |nil=>rfl
  |cons b r=>
   have e:(a::b::r).length-1=((b::r).length-1)+1:=by
    have h1:(a::b::r).length=r.length+2:=rfl;have h2:(b::r).length=r.length+1:=rfl;lia
   rw[e,List.eraseIdx_cons_succ,ih];all_goals rfl
theorem Fo{α:Type}:∀(l:List α)(i:Nat),(l.eraseIdx i).length≤l.length
 | [],_=>bH _
 |_::_,0=>Nat.le_succ _
 |_::r,i+1=>Nat.succ_le_succ (Fo r i)
theorem foldl_rep(its:List Value):∀(k:Nat)(acc:List Value),
  List.foldl (λx1 x2=>x1++x2) acc.toArray (List.replicate k its.toArray)=(acc++(List.replicate k its).flatten).toArray
 |0,acc=>by simp
 |k+1,acc=>by
  have e:acc.toArray++its.toArray=(acc++its).toArray:=by simp
  have e2:(acc++its)++(List.replicate k its).flatten=acc++(List.replicate (k+1) its).flatten:=by
   rw[uE,List.flatten_cons,pX]
  rw[← e2,← foldl_rep its k (acc++its),← e,uE,List.foldl_cons]
section
variable{X:Cx}{aF:List (Addr×Obj)}{σ:St}{H:Hp}{s:Shared}{l b:Addr}{xs ys zs:List V}
theorem Inv.xM{its its':List Value}{f:Array Value→Array Value}{t':Nat}(I:Inv X aF σ H s)(hH:H l=some (.lst xs))
  (e:s.heap.get? l=some { cls:=.type "list",data:=.seq its.toArray n }) (hf:f its.toArray=its'.toArray) (hv:Vals ys its') (hz:ys.length≤sizeLine) :
  Inv X aF σ (upd H l (.lst ys)) { s with heap:=s.heap.update l (Obj.mapSeq f),toks:=t' }:=by
 have q:=PySem.IsL.update e f;rw[hf]at q;refine I.write (x:=l) (e:=l) (by rw[hH];exact trivial) (.inl rfl) (λb' u hb hu=>(Heap.get?_update_other s.heap (Obj.mapSeq f) (Ne.symm hb)).trans hu) ⟨_,q⟩ ?_;exact⟨hz,its',_,hv,q⟩
theorem Inv.Fp{its:List Value}{t':Nat}(I:Inv X aF σ H s)(hv:Vals ys its)(hz:ys.length≤sizeLine) :
  Inv X aF σ (upd H s.heap.objs.size (.lst ys)) { s with heap:=s.heap.push { cls:=.type "list",data:=.seq its.toArray },toks:=t' }:=
 I.laid (λ_ _ q=>fc _ q) (bH _) ⟨hz,its,0,hv,jL _ rfl⟩
theorem Inv.fresh(I:Inv X aF σ H s):H s.heap.objs.size=none:=I.bz.fresh (bH _)
theorem Inv.ql(I:Inv X aF σ H s)(hH:H l=some (.lst xs)):xs.length≤sizeLine∧∃(its:List Value)(n:Nat),Vals xs its∧xs.length=its.length∧s.heap.get? l=some { cls:=.type "list",data:=.seq its.toArray n }:=by
 obtain⟨z,its,n,r,e⟩:=I.bz l _ hH;exact⟨z,its,n,r,r.length,e⟩
theorem NW(h:n≤sizeLine):Builtin.List.listTooLong n=false:=by
 unfold Builtin.List.listTooLong;exact ae (by lia)
end
section
variable{X:Cx}
def u0:V→List V→Hp→VK→Prop:=λx vs H Q=>∃l xs y,x=.ref l∧vs=[y]∧H l=some (.lst xs)∧xs.length<sizeLine∧Q .cm (upd H l (.lst (xs++[y])))
theorem lC:xK X "list.append" u0:=by
 intro aF s σ H x vs v us Q I rx rv h;obtain⟨l,xs,y,rfl,rfl,hH,hz,q⟩:=h;cases rx;obtain⟨u,rfl,ru⟩:=rv.one;obtain⟨z,its,n,r,hl,e⟩:=I.ql hH;refine call_meets F.slot_list_append ⟨_,e,rfl⟩ F.entry_list_append (F.args_list_append_2 _ _) (PySem.list_append l its.toArray n u (by rw[dC];lia)) ⟨e,?_⟩;refine⟨.cm,_,I.xM (its':=its++[u]) hH e (by simp) (r.append (.cons ru .nil)) ?_,rfl,q⟩;rw[bh,List.length_singleton];lia
def AV:V→List V→Hp→VK→Prop:=λx vs H Q=>∃l xs y,x=.ref l∧vs=[]∧H l=some (.lst xs)∧xs[xs.length-1]?=some y∧Q y (upd H l (.lst xs.dropLast))
theorem NX:xK X "list.pop" AV:=by
 intro aF s σ H x vs v us Q I rx rv h;obtain⟨l,xs,y,rfl,rfl,hH,hy,q⟩:=h;cases rx;have AW:=rv.zero;subst AW;obtain⟨z,its,n,r,hl,e⟩:=I.ql hH;obtain⟨u,hu,ru⟩:=r.get hy;have NY:its.toArray[its.toArray.size-1]?=some u:=by
  show its.toArray[its.length-1]?=some u;rw[← Array.getElem?_toList,← hl];exact hu
 refine call_meets F.slot_list_pop ⟨_,e,rfl⟩ F.entry_list_pop (F.args_list_pop_1 _) (MeetsSeq.list_pop_last l its.toArray n u NY (by rw[dC];lia)) ⟨e,?_⟩;refine⟨y,_,I.xM (its':=its.dropLast) hH e ?_ r.dropLast ?_,ru,q⟩
 ·show its.toArray.eraseIdxIfInBounds (its.toArray.size-1)=its.dropLast.toArray;rw[dC,List.eraseIdxIfInBounds_toArray,NV]
 ·rw[List.length_dropLast];lia
def Fq:V→List V→Hp→VK→Prop:=λx vs H Q=>∃l xs,x=.ref l∧vs=[]∧H l=some (.lst xs)∧Q .cm (upd H l (.lst xs.reverse))
theorem NZ:xK X "list.reverse" Fq:=by
 intro aF s σ H x vs v us Q I rx rv h;obtain⟨l,xs,rfl,rfl,hH,q⟩:=h;cases rx;have AW:=rv.zero;subst AW;obtain⟨z,its,n,r,hl,e⟩:=I.ql hH;refine call_meets F.slot_list_reverse ⟨_,e,rfl⟩ F.entry_list_reverse (F.args_list_reverse_1 _) (AutoSeq1.list_reverse_list_0 l its.toArray n (by rw[dC];lia)) ⟨e,?_⟩;refine⟨.cm,_,I.xM (its':=its.reverse) hH e (by simp) r.reverse ?_,rfl,q⟩;rw[List.length_reverse];lia
def cc:R2:=λx y H Q=>∃l b xs zs,x=.ref l∧y=.ref b∧H l=some (.lst xs)∧H b=some (.lst zs)∧xs.length+zs.length≤sizeLine∧∀p,H p=none→Q (.ref p) (upd H p (.lst (xs++zs)))
theorem bV:eB X (binaryOp .Add) cc:=by
 intro aF s σ H x y v u Q I rx ry h;obtain⟨l,b,xs,zs,rfl,rfl,hH,hB,hz,q⟩:=h;cases rx;cases ry;obtain⟨z,its,n,r,hl,e⟩:=I.ql hH;obtain⟨z2,jW,n2,r2,o9,e2⟩:=I.ql hB;refine PySem.P.add_list e e2 ?_ (by rw[dC,dC];lia);have ea:its.toArray++jW.toArray=(its++jW).toArray:=by simp
 rw[ea];exact⟨.ref _,_,I.Fp (t':=s.toks) (r.append r2) (by rw[bh];lia),rfl,q _ I.fresh⟩
def xN:R2:=λx y H Q=>∃l k xs,x=.ref l∧y=.int k∧H l=some (.lst xs)∧-(2^63)≤k∧k<2^63∧xs.length*k.toNat≤sizeLine∧
 ∀p,H p=none→Q (.ref p) (upd H p (.lst (List.replicate k.toNat xs).flatten))
theorem N0(xs:List α)(k:Nat):(List.replicate k xs).flatten.length=k*xs.length:=by
 induction k with
 |zero=>simp
 |succ k ih=>rw[uE,List.flatten_cons,bh,ih,Nat.succ_mul,Nat.add_comm]
theorem lD:eB X (binaryOp .Mult) xN:=by
 intro aF s σ H x y v u Q I rx ry h;obtain⟨l,k,xs,rfl,rfl,hH,h1,h2,hz,q⟩:=h;cases rx;obtain⟨t,rfl⟩:=ry;obtain⟨z,its,n,r,hl,e⟩:=I.ql hH;have cU:its.toArray.size*k.toNat≤sizeLine:=by rw[dC,← hl];exact hz
 have N1:¬its.toArray.size*k.toNat>(2^63-1)/8:=by
  have:(sizeLine:Nat)≤(2^63-1)/8:=by decide
  lia
 have N2:¬(!Builtin.List.listFitsIndex k)=true:=by
  rw[fitsIndex_both h1 h2];exact fi
 have N3:¬Builtin.List.listTooLong (its.toArray.size*k.toNat)=true:=by
  rw[NW cU];exact fi
 have AX:List.foldl (λx1 x2=>x1++x2) #[] (List.replicate (if its.toArray.isEmpty=true then 0 else k.toNat) its.toArray)=(List.replicate k.toNat its).flatten.toArray:=by
  have f0:∀m:Nat,List.foldl (λx1 x2=>x1++x2) #[] (List.replicate m its.toArray)=(List.replicate m its).flatten.toArray:=λm=>by
   have:=foldl_rep its m []
   rw[List.nil_append]at this;exact this
  rw[f0];cases its with
  |nil=>simp
  |cons a r'=>rw[ag (by simp)]
 refine wpAny_binaryOp_repeat_ref (T := "list") (U := "int") (by decide) ⟨_,e,rfl⟩ (λs'=>typeIs_int s' k t) noFill_list_mul F.fills_int_mul F.slot_int_rmul repeat_list F.slot_int_index.lookup
  (call_meets F.slot_int_rmul (typeIs_int s k t) F.entry_int_rmul (F.args_int_rmul_2 _ _) (int___rmul___int_list k t l its.toArray n) ⟨e,rfl,⟨_,e,rfl⟩,call_meets F.slot_list_mul ⟨_,e,rfl⟩ F.entry_list_mul (F.args_list_mul_2 _ _) (AutoListH.list___mul___list_int_3 l its.toArray n k t N2 N1 N3) ⟨e,?_⟩⟩)
 rw[AX];exact⟨.ref _,_,I.Fp (t':=s.toks) (r.rep k.toNat) (by rw[N0,Nat.mul_comm];exact hz),rfl,q _ I.fresh⟩
end
section
variable{prog:Program}{w:World}{A:Around}{E:QV}{s:Shared}
end
section
variable{X:Cx}
end
end L2
namespace Att
open PySem PySem.W PySem.Calls PyProof.Rows
theorem N4{P:Params}{h:Heap}:∀(ns:List Int)(vs:List Value),WellAll P h vs (ns.map WData.int)→IntsAre vs ns:=by
 intro ns;induction ns with
 |nil=>
  intro vs w;rw[List.map_nil]at w;cases w;exact .nil
 |cons n ns ih=>
  intro vs w;rw[iJ]at w;cases w with
  |cons a b=>
   cases a;exact .cons _ _ (ih _ b)
theorem N5{l:OpenLaw}{n:Nat}(hn:l.most=some n){P:Params}{h:Heap}{args:List WData}{AY:List Value}
  (xO:l.row.toRowW.claim.pre args=true) (xP:WellAll P h AY args) :
  ∃a vs ns,AY=[Value.ref a]∧args=[WData.list (ns.map WData.int)]∧h.get? a=some { cls:=.type "list",data:=.seq vs.toArray }∧IntsAre vs ns∧ns.length≤n:=by
 have N6:WShape.hasAll [] args [.list .int]=true:=(pre_splitW xO).1;have hc:l.pre.holds [] { args:=args }=true:=(pre_splitW xO).2;obtain⟨d,r,rfl,h1,h2⟩:=hasAllW_cons N6;obtain rfl:=hasAllW_nil h2;obtain⟨xs,rfl,h3⟩:=hasW_list h1;obtain⟨ns,rfl⟩:=items_int h3;have cU:ns.length≤n:=by
  unfold OpenLaw.pre at hc;have h4:(WTm.not (.lt (.lit (.int (n:Int))) (.len (.arg 0)))).holds [] { args:=[.list (ns.map .int)] }=true:=by
   have h4:=(holds_andW hc).1;rw[hn]at h4;exact h4
  have h5:=condW_of h4 (w_not (w_lt w_lit (w_len_list (w_arg rfl))));rw[br]at h5;refine Nat.le_of_not_lt λq=>?_;have q':(n:Int)<((ns.length:Nat):Int):=by lia
  first
   |(rw[ax q']at h5;exact absurd h5 (by decide))
   |(simp at h5;lia)
 cases xP with
 |cons w1 w2=>
  cases w2;cases w1 with
  |list ho AZ=>exact⟨_,_,ns,rfl,rfl,ho,N4 ns _ AZ,cU⟩
theorem N7(l:OpenLaw)(args:List WData):l.row.toRowW.claim.post args (.bool true) args=true:=
 postW_of (r:=l.row.toRowW) (X:=(true==true))
  (show WShape.has [] (.bool true) .bool=true by first|rfl|decide|simp[WShape.has,WShape.arms,WShape.armsAll])
  (show(WTm.eq .res (.lit (.bool true))).value [] { args:=args,res:=some (.bool true),after:=args }=some (.bool (true==true)) from w_eq_bool (w_res rfl) w_lit) rfl
theorem N8{l:OpenLaw}{n:Nat}{q:Program}{sf:List Str}{XP:(Str→Option Value)→Heap→Prop}{YP:World→Heap→Prop}{d:DefRec}
  (hn:l.most=some n) (u7:d.params.defaults=[])
  (call:∀(w:World)(s₀ s₁:Shared)(mg mb:Str→Option Value)(fa:Addr)(o:Obj)(pm cd doc:Value)(a:Addr)(vs:List Value)(ns:List Int),
   Ground q sf [] XP w s₀ mg mb s₁.heap→YP w s₁.heap→
   s₁.heap.get? fa=some o→o.data=.func (docDef d.name d.params d.body d.scope pm cd doc)→s₁.heap.CodeRec cd d.name→mg d.name=some (.ref fa)→
   s₁.heap.get? a=some { cls:=.type "list",data:=.seq vs.toArray }→IntsAre vs ns→ns.length≤n→s₁.gens=#[]→
   codeAny (model l.prog w) callerA (.call (.ref fa) ⟨[.ref a],[]⟩) (λr s'=>r=.ok (.ret (.bool true))∧OldK s₁.heap s'.heap∧s'.os=s₁.os∧AllBare s'.gens) s₁) :
  WalkO q sf XP YP l.row.toRowW d [] (λf vs=>PySem.call f vs):=by
 intro w s₀ s₁ mg mb G Y fa o pm cd doc dV kV ho hd i9 hD hmg hg args AY as xO acg hrd xP sg;obtain rfl:dV=.none:=Dflts.none hD u7;obtain rfl:kV=.none:=Dflts.noKw hD;obtain⟨a,vs,ns,rfl,rfl,A0,hints,cU⟩:=N5 hn xO xP;refine enter_call (codeAny_mono (call w s₀ s₁ mg mb fa o pm cd doc a vs ns G Y ho (fd_plain hd) i9 hmg A0 hints cU hg) λr s' hq=>?_);obtain⟨rfl,h2,h3,h4⟩:=hq;exact⟨.inl ⟨.bool true,.bool true,[],rfl,λ_=>rfl,.bool true,N7 l _,λ_=>⟨List.Pairwise.nil,λ_ hm=>(nomatch hm)⟩⟩,h2,h3,h4⟩
section
variable{prog:Program}{w:World}{A:Around}{E:QV}{s:Shared}{K:Frag}
end
end Att
namespace L2
open PySem PySem.Spec PyProof.Rows
variable{A B:Prop}{H H':Hp}{Q:VK}{X:Cx}{a f p:Addr}{env:Env}{fd:FuncData}{qual x:Str}{s:Shared}{scope:Scope}{st:Stmt}{xs:List V}
theorem Fs:∀{vs:List Value}{ns:List Int},IntsAre vs ns→Vals (ns.map V.int) vs
 |_,_,.nil=>.nil
 |_,_,.cons n t h=>.cons ⟨t,rfl⟩ (Fs h)
def A1(H:Hp):Prop:=∀b,H b=none∨∃o xs,H b=some (.i8 o (.lst xs))
theorem N9{P:Program}{w:World}{K:Frag}{mg mb:Str→Option Value}{CX:mi}{k:Nat}{fa:Addr}{sp:Sp}{s₁:Shared}{vs:List Value}{ns:List Int}
  (KX:K.In s₁.heap) (Ft:s₁.heap.Ns mainGlobals mg) (hb:s₁.heap.Ns builtinsNs mb) (qm:∀x:Str,x ≠ "__name__"→mb x=bootBuiltins x) (Oa:s₁.heap.NoLimit) (hg:s₁.gens=#[])
  (ha:s₁.heap.get? a=some { cls:=.type "list",data:=.seq vs.toArray }) (hi:IntsAre vs ns) (hl:ns.length≤sizeLine) (hr:dR k callerA)
  (F:∀base:Heap,K.In base→base.Ns mainGlobals mg→bN P w K mg base CX k fa fd [x] sp) (Ob:∀(s:Shared)(u:Value),BindsTo s fd ⟨[u],[]⟩ [(x,u)])
  (kf:∀H:Hp,A1 H→cR K H a (ns.map V.int)→sp [.ref a] H (λv _=>v=.bl true) λ_ _ _=>False)
  (A2:∀H e s',CX [] H s₁ (λ_ _ _=>False) e s'→False) :
  codeAny (model P w) callerA (.call (.ref fa) ⟨[.ref a],[]⟩) (λr s'=>r=.ok (.ret (.bool true))∧OldK s₁.heap s'.heap∧s'.os=s₁.os∧AllBare s'.gens) s₁:=by
 have rv:=Fs hi;have Oc:=hi.length;have core:∀H:Hp,A1 H→cR K H a (ns.map V.int)→d9 P w H s₁.heap→(∀b,H b≠none→b=a)→(H a≠none→K.lookup a=none)→
   codeAny (model P w) callerA (.call (.ref fa) ⟨[.ref a],[]⟩) (λr s'=>r=.ok (.ret (.bool true))∧OldK s₁.heap s'.heap∧s'.os=s₁.os∧AllBare s'.gens) s₁:=by
  intro H hO hS bz hA hK;have Fu:∀{b:Addr}{o:Obj},s₁.heap.get? b=some o→H b=none→(nU s₁.heap H).get? b=some o:=λe n=>Mz e n;have uU:∀{b:Addr}{o:Obj}{es:Array DictEntry}{ep:Nat},s₁.heap.get? b=some o→o.data=.dict es ep→H b=none:=λ{b o es ep} e d=>by
   cases q:H b with
   |none=>rfl
   |some u=>
    have e':b=a:=hA b (by rw[q];simp);subst e';rw[ha]at e;cases e;have d':Data.seq vs.toArray _=Data.dict es ep:=d;cases d'
  have xQ:∀{b:Addr}{m:Str→Option Value},s₁.heap.Ns b m→(nU s₁.heap H).Ns b m:=λ{b m} ⟨o,es,ep,e,d,r⟩=>⟨o,es,ep,Fu e (uU e d),d,r⟩;have Fv:K.In (nU s₁.heap H):=λb o e=>Fu (KX b o e) (by
   cases q:H b with
   |none=>rfl
   |some u=>
    have e':b=a:=hA b (by rw[q];simp);subst e';rw[hK (by rw[q];simp)]at e;cases e)
  have hM:Mod K mg (nU s₁.heap H):=⟨Fv,xQ Ft,⟨mb,xQ hb,qm⟩,let ⟨mc,h1,h2⟩:=Oa;⟨mc,xQ h1,h2⟩⟩;have e0:rW P w K mg (nU s₁.heap H) callerA [] s₁ H:=⟨rfl,hM,λb o e=>MA e,Nat.le_of_eq (My _ _),trivial,λb hb=>absurd (show b∈([]:List Addr) from hb) (by simp),bz,.of_eq hg⟩
  refine codeAny_mono ((F _ Fv (xQ Ft)).run callerA [] s₁ H ⟨[.ref a],[]⟩ [.ref a] [.ref a] _ _ hr e0 (Ob s₁ (.ref a)) (.cons rfl .nil) (kf H hO hS)) λr s' h=>?_;cases r with
  |error e=>exact(A2 H e s' h).elim
  |ok fl=>
   cases fl with
   |next=>exact False.elim h
   |brk=>exact False.elim h
   |cont=>exact False.elim h
   |ret u=>
    obtain⟨v,H',os,bare,un,Od,r',q⟩:=h;have q':v=.bl true:=q;subst q';obtain rfl:u=Value.bool true:=r';refine⟨rfl,OldK.of_keep λb o e=>?_,os,bare⟩;cases q:H b with
    |none=>exact un.keep b o e q (by intro z;exact absurd (show b∈([]:List Addr) from z) (by simp)) (by simp)
    |some u=>
     rcases hO b with z|⟨ob,xs,z⟩
     ·rw[q]at z;cases z
     ·have z2:=un.mm b ob _ z;obtain⟨e1,_⟩:=bz b _ z;obtain⟨e2,_⟩:=Od b _ z2;rw[e]at e1;cases e1;exact e2
 cases hk:K.lookup a with
 |some o=>
  have e:=KX a o hk;rw[ha]at e;cases e;refine core (λ_=>none) (λ_=>.inl rfl) (.inr ⟨_,vs.toArray,_,hk,rfl,rfl,rfl,by rw[dC,Oc];exact hl,by simpa using rv⟩) (λb u z=>by have z':(none:Option HO)=some u:=z;cases z') (λb z=>absurd rfl z) λz=>absurd rfl z
 |none=>
  refine core (λb=>if b=a then some (.i8 { cls:=.type "list",data:=.seq vs.toArray } (.lst (ns.map V.int)))else none) (λb=>?_) (.inl (.inr ⟨{ cls:=.type "list",data:=.seq vs.toArray },af rfl⟩)) (λb u z=>?_) (λb z=>?_) λ_=>hk
  ·by_cases hb:b=a
   ·exact .inr ⟨_,_,af hb⟩
   ·exact .inl (ag hb)
  ·by_cases hb:b=a
   ·have z':=(af hb).symm.trans z;cases z';subst hb;exact⟨ha,by rw[br];exact hl,vs,_,rv,ha⟩
   ·have z':=(ag hb).symm.trans z;cases z'
  ·by_cases hb:b=a
   ·exact hb
   ·exact absurd (ag hb) z
theorem Oe{l:PySem.W.OpenLaw}{n k:Nat}{q:Program}{sf:List Str}{XP:(Str→Option Value)→Heap→Prop}{YP:World→Heap→Prop}{d:DefRec}{K:Params→Frag}{CX:World→mi}{sp:World→Sp}
  (hn:l.most=some n) (Of:n≤sizeLine) (u7:d.params.defaults=[]) (hr:dR k callerA)
  (hY:∀(w:World)(h:Heap),YP w h→(K w.params).In h)
  (F:∀(w:World)(mg:Str→Option Value)(fa:Addr)(h:Heap),(K w.params).In h→h.Ns mainGlobals mg→mg d.name=some (.ref fa)→
   ∃fd:FuncData,(∀(s:Shared)(u:Value),BindsTo s fd ⟨[u],[]⟩ [(x,u)])∧
    ∀base:Heap,(K w.params).In base→base.Ns mainGlobals mg→bN l.prog w (K w.params) mg base (CX w) k fa fd [x] (sp w))
  (kf:∀(w:World)(H:Hp)(a:Addr)(ns:List Int),ns.length≤n→A1 H→cR (K w.params) H a (ns.map V.int)→sp w [.ref a] H (λv _=>v=.bl true) λ_ _ _=>False)
  (A2:∀(w:World)(H:Hp)(s:Shared)(e:Value)(s':Shared),CX w [] H s (λ_ _ _=>False) e s'→False) :
  PySem.W.WalkO q sf XP YP l.row.toRowW d [] (λf vs=>PySem.call f vs):=by
 refine Att.N8 hn u7 λw s₀ s₁ mg mb fa o pm cd doc a vs ns G Y ho hd i9 hmg A0 hints cU hg=>?_;have KX:=hY w _ Y;obtain⟨fd,hb,hF⟩:=F w mg fa _ KX G.T.g hmg;exact N9 KX G.T.g G.T.b G.T.builtins G.T.nolimit hg A0 hints (eu cU Of) hr hF hb (λH hO hS=>kf w H a ns cU hO hS) λH e s'=>A2 w H s₁ e s'
noncomputable def cZ(s:Stmt):Arguments:=match s with
 | .FunctionDef _ a _ _ _ _ _ _ _ _=>a
 |_=>{ posonlyargs:=[],args:=[],vararg:=none,kwonlyargs:=[],kw_defaults:=[],kwarg:=none,defaults:=[] }
noncomputable def cV(s:Stmt):List Stmt:=match s with
 | .FunctionDef _ _ b _ _ _ _ _ _ _=>b
 |_=>[]
noncomputable def bp(s:Stmt):Scope:=match s with
 | .FunctionDef _ _ _ _ _ _ sc _ _ _=>sc
 |_=>{ kind:=.function,names:=[],isGenerator:=false,isCoroutine:=false }
abbrev bO:mi:=λ_ _ _ _ _ _=>False
abbrev E0:XK:=λ_ _ _=>False
theorem cP:Passes bO X E0:=λ_ _ _ _ _ _ _ h=>h.elim
structure cL(K:Frag)(x qual:Str)(st:Stmt)(f:Addr)(fd:FuncData):Prop where
 ex:∃(oc:Value)(od:Option Addr)(kV doc pm:Value)(an:Option Addr)(cj ct:Value)(my:Array (Option Value)),
  fd=fnOf x qual (cZ st) (cV st) (bp st) .none kV doc pm an cj ct∧K.lookup f=some ⟨oc,od,.func fd,my⟩∧codeIn K cj qual=true
 kp:Kp K f
section
variable{P:Program}{w:World}{K:Frag}{mg:Str→Option Value}{base:Heap}
theorem cL.ok{N ps:List Str}{k:Nat}{sp:Sp}(F:cL K x qual st f fd)(S:cY N ps (bp st))(len:∀vs H Q E,sp vs H Q E→vs.length=ps.length)
  (uW:∀(cj:Value)(A:Around)(outer:List Env)(s:Shared)(H:Hp)(vs:List V)(Q:VK)(E:XK),dR k (A.deeper (envOfC qual (bp st) s.heap.objs.size f cj))→sp vs H Q E→
   ∃t,jt (n6 bO P w K mg base N qual (bp st) f cj A outer s H E).rR (cV st) t∧t { nx:=λ_ H'=>Q .cm H',rt:=Q } (start N vs) H):bN P w K mg base bO (k+1) f fd ps sp:=by
 obtain⟨oc,od,kV,doc,pm,an,cj,ct,my,rfl,lk,i9⟩:=F.ex;refine Nu lk i9 S len λA outer s H vs Q E hr kf=>?_;obtain⟨t,h,q⟩:=uW cj A outer s H vs Q E hr kf;exact⟨t,h.rR,q⟩
theorem cL.binds{ps:List Str}(F:cL K x qual st f fd)
  (h:∀(kV doc pm:Value)(an:Option Addr)(cj ct:Value)(us:List Value),us.length=ps.length→bindArgs (fnOf x qual (cZ st) (cV st) (bp st) .none kV doc pm an cj ct) ⟨us,[]⟩=pure (ps.zip us)):Binds K fd ps []:=by
 obtain⟨oc,od,kV,doc,pm,an,cj,ct,my,rfl,lk,i9⟩:=F.ex;exact .all (h kV doc pm an cj ct)
theorem dF{oc:Value}{od an:Option Addr}{my:Array (Option Value)}{kV doc pm cj ct:Value}(l:K.lookup f=some ⟨oc,od,.func (fnOf x qual (cZ st) (cV st) (bp st) .none kV doc pm an cj ct),my⟩)
  (c:codeIn K cj qual=true) (k:Kp K f):cL K x qual st f (fnOf x qual (cZ st) (cV st) (bp st) .none kV doc pm an cj ct):=⟨⟨oc,od,kV,doc,pm,an,cj,ct,my,rfl,l,c⟩,k⟩
end
theorem qo{A:Around}{k:Nat}(hr:dR k A):A.units+1<cLine:=Nat.lt_of_le_of_lt (Nat.add_le_add_left (by decide:1≤64) _) hr.units
section
variable{X:Cx}
theorem pv(i:Nat){pos:Pos}(hN:X.N[i]?=some x:=by rfl)(hv:rK X.env.scope x:=by first|exact Or.inl rfl|exact Or.inr (.inl rfl)|exact Or.inr (Or.inr rfl))(hd:(x==("__debug__":Str))=false:=by decide)
  (i9:(x==("__classdict__":Str))=false:=by decide):PE X (.Name x pos) (aL i):=EB hN hv hd i9
end
theorem cW(h:B):if false=true then A else B:=by
 rw[ag fi];exact h
theorem eP(h:A):if true=true then A else B:=by
 rw[af rfl];exact h
theorem xR{c:Prop} [Decidable c] (h1:c→A) (h2:¬c→B):if c then A else B:=by
 by_cases h:c
 ·rw[af h];exact h1 h
 ·rw[ag h];exact h2 h
theorem Og{c:Prop} [Decidable c] (hc:c) (h:B):if(!decide c)=true then A else B:=by
 rw[ax hc];exact cW h
def aJ(H H':Hp):Prop:=∀b o,H b=some o→H' b=some o
theorem aJ.refl(H:Hp):aJ H H:=λ_ _ h=>h
theorem aJ.trans{H1 H2:Hp}(a:aJ H H1)(b:aJ H1 H2):aJ H H2:=λc o h=>b c o (a c o h)
theorem aJ.seq{K:Frag}(e:aJ H H')(h:cR K H a xs):cR K H' a xs:=by
 rcases h with(h|⟨o,h⟩)|h
 ·exact .inl (.inl (e _ _ h))
 ·exact .inl (.inr ⟨o,e _ _ h⟩)
 ·exact .inr h
noncomputable def je(cells:List (Str×Addr)):List (Str×NameKind)→List (Str×Addr)→List (Str×Addr)
 | [],acc=>acc
 |(n,k)::r,acc=>if k == .free then je cells r ((n,(cells.lookup n).getD 0)::acc)else je cells r acc
theorem Oh(h:∀x∈scope.names,x.2=.free→∃c,env.cells.lookup x.1=some c):closureFor scope env=pure (je env.cells scope.names []):=by
 unfold closureFor;have key:∀(names:List (Str×NameKind))(acc:List (Str×Addr)),(∀x∈names,x.2=.free→∃c,env.cells.lookup x.1=some c)→
   (forIn names acc (λ(x:Str×NameKind)(r:List (Str×Addr))=>(if(x.2==NameKind.free)=true then do let c ← cellOf env x.1;pure (ForInStep.yield ((x.1,c)::r))else pure (ForInStep.yield r):Sem (ForInStep (List (Str×Addr))))))=pure (je env.cells names acc):=by
  intro names;induction names with
  |nil=>intro acc _;rfl
  |cons x r ih=>
   intro acc hx;obtain⟨n,k⟩:=x;rw[List.forIn_cons];unfold je;by_cases hk:(k==NameKind.free)=true
   ·have jf:k=.free:=by simpa using hk
    obtain⟨c,hc⟩:=hx (n,k) dv jf;have iL:env.cells.lookup n=some c:=hc;simp only[hk,if_true];have e1:cellOf env n=pure c:=by unfold cellOf;rw[iL]
    rw[e1,iL];exact ih ((n,c)::acc) λy hy=>hx y (eR _ hy)
   ·simp only[hk,if_false,Bool.false_eq_true];exact ih acc λy hy=>hx y (eR _ hy)
 have e:=key scope.names [] h;first
  |exact e
  |(simp only[bind_pure];exact e)
theorem xS{cells:List (Str×Addr)}{x:Str}{c:Addr}:∀(names:List (Str×NameKind))(acc:List (Str×Addr)),(je cells names acc).lookup x=some c→acc.lookup x=some c∨((x,NameKind.free)∈names∧c=(cells.lookup x).getD 0)
 | [],_,h=>.inl h
 |(n,k)::r,acc,h=>by
  unfold je at h;by_cases hk:(k==NameKind.free)=true
  ·have jf:k=.free:=by simpa using hk
   rw[af hk]at h;rcases xS r _ h with z|⟨z,e⟩
   ·rw[nM]at z;cases hb:x==n with
    |true=>
     rw[hb]at z;have e':x=n:=by simpa using hb
     subst e';subst jf;exact .inr ⟨dv,(eM z).symm⟩
    |false=>rw[hb]at z;exact .inl z
   ·exact .inr ⟨eR _ z,e⟩
  ·rw[ag hk]at h;rcases xS r _ h with z|⟨z,e⟩
   ·exact .inl z
   ·exact .inr ⟨eR _ z,e⟩
theorem A3{cells:List (Str×Addr)}{x:Str}:∀(names:List (Str×NameKind))(acc:List (Str×Addr)),((x,NameKind.free)∈names∨(acc.lookup x).isSome=true)→((je cells names acc).lookup x).isSome=true
 | [],_,h=>by
  rcases h with h|h
  ·cases h
  ·exact h
 |(n,k)::r,acc,h=>by
  unfold je;by_cases hk:(k==NameKind.free)=true
  ·rw[af hk];refine A3 r _ ?_;rcases h with h|h
   ·rcases(e9.mp h)with(e|h)
    ·cases e;exact .inr (by rw[nM];simp)
    ·exact .inl h
   ·refine .inr ?_;rw[nM];cases hb:x==n<;>simp[h]
  ·rw[ag hk];refine A3 r _ ?_;rcases h with h|h
   ·rcases(e9.mp h)with(e|h)
    ·cases e;exact absurd rfl hk
    ·exact .inl h
   ·exact .inr h
theorem si:∀(names:List (Str×NameKind))(n:Nat)(acc:List (Str×Addr)),cellsFrom n names acc=cellsFrom n names []++acc
 | [],_,_=>rfl
 |(x,k)::r,n,acc=>by
  unfold cellsFrom;by_cases hk:(k==NameKind.cell)=true
  ·rw[af hk,af hk,si r (n+1) ((x,n)::acc),si r (n+1) [(x,n)],pX];rfl
  ·rw[ag hk,ag hk];exact si r n acc
theorem A4:∀(names:List (Str×NameKind))(n:Nat)(x:Str)(c:Addr),(x,c)∈cellsFrom n names []→(x,NameKind.cell)∈names
 | [],_,_,_,h=>nomatch h
 |(y,k)::r,n,x,c,h=>by
  unfold cellsFrom at h;by_cases hk:(k==NameKind.cell)=true
  ·have jf:k=.cell:=by simpa using hk
   rw[af hk,si]at h;refine(dM.mp h).elim (λh=>?_) λh=>?_
   ·exact eR _ (A4 r _ x c h)
   ·have e:(x,c)=(y,n):=by simpa using h
    cases e;subst jf;exact dv
  ·rw[ag hk]at h;exact eR _ (A4 r n x c h)
theorem A5{α:Type}{x:Str}:∀(a b:List (Str×α)),(a++b).lookup x=(a.lookup x).or (b.lookup x)
 | [],_=>by simp
 |(y,v)::r,b=>by
  rw[List.cons_append,nM,nM];cases hb:x==y with
  |true=>simp
  |false=>exact A5 r b
theorem u9{α:Type}{x:Str}{v:α}:∀{l:List (Str×α)},(l.map (·.1)).Nodup→(x,v)∈l→l.lookup x=some v
 | [],_,h=>by cases h
 |(y,w)::r,nd,h=>by
  rw[iJ,List.nodup_cons]at nd;rw[nM];cases h with
  |head=>simp
  |tail _ h=>
   have fg:(x==y)=false:=by
    apply beq_false_of_ne;intro Oi;exact nd.1 (dN.mpr ⟨(x,v),h,Oi⟩)
   rw[fg];exact u9 nd.2 h
theorem Fw{α β:Type}{x:Str}(f:Str×α→Str×β)(hf:∀p,(f p).1=p.1):∀(l:List (Str×α)),(l.map f).lookup x=(l.lookup x).map λk=>(f (x,k)).2
 | []=>rfl
 |(n,k)::r=>by
  obtain⟨m,z⟩:∃z,f (n,k)=(n,z):=⟨(f (n,k)).2,Prod.ext (hf _) rfl⟩;rw[iJ,z,nM,nM];cases hx:x==n with
  |false=>exact Fw f hf r
  |true=>cases(beq_iff_eq.mp hx);simp[z]
theorem Oj(names:List (Str×NameKind)):(names.map λ(n,k)=>if(k==NameKind.free&&env.scope.kind == .function&&env.kindOf n==some .cell)then(n,NameKind.cell)else(n,k)).lookup x =
  (names.lookup x).map λk=>if(k==NameKind.free&&env.scope.kind == .function&&env.kindOf x==some .cell)=true then NameKind.cell else k:=by
 rw[Fw _ (λp=>by dsimp only;split<;>rfl)]
 congr 1
 funext k
 dsimp only;split<;>rfl
theorem Ol{M:Model}{A:Around}{E:QV}{cl:List (Str×Addr)}{Q:Env→Shared→Prop}
  (q:Q (newEnv scope s.heap.objs.size env.globals (cellsFrom (s.heap.objs.size+1) scope.names cl) env.qual none .none (some env) builtinsNs)
   { s with heap:=pushCells (s.heap.push { cls:=.type "dict",data:=.dict #[] }) scope.names }) :
  wpAny M A (newFunctionEnv scope env.globals cl [] env.qual none .none (some env)) Q E s:=by
 have z:(s.heap.push { cls:=.type "dict",data:=.dict #[] }).objs.size=s.heap.objs.size+1:=Heap.size_push ..;rw[← z]at q;unfold newFunctionEnv;have cells:=wpAny_layCells (M:=M) (A:=A) (E:=E) (λx r=>if(x.2==NameKind.cell)=true then(do let c ← alloc { cls:=.type "cell",data:=.cell none };pure (ForInStep.yield ((x.1,c)::r)))else pure (ForInStep.yield r)) (λ_ _ _=>rfl) scope.names cl { s with heap:=s.heap.push { cls:=.type "dict",data:=.dict #[] } }
 exact aq (wpAny_alloc (aq (cells _ (aq (ao (ao q))))))
noncomputable def kg(X:Cx)(N:List Str)(scope:Scope)(cs:List (Str×Addr))(C:Addr)(s₀:Shared)(H₀:Hp)(ex:List Addr):Cx where
 prog:=X.prog
 w:=X.w
 K:=X.K
 mg:=X.mg
 base:=X.base
 A:=X.A
 N:=N
 s₀:=s₀
 H₀:=H₀
 env:=compEnvC scope cs C X.env
 outer:=X.stack
 stack:=X.stack
 ex:=ex
 fn:=λx=>scope.names.lookup x==some .cell
 calm:=X.calm
 pn:=[]
 xe:=λ_ _=>False
structure eZ(oN:List Str)(pd:Scope)(N:List Str)(own:Nat)(caps:List Nat)(scope:Scope):Prop where
 kind:scope.kind=.function
 nd:N.Nodup
 xT:(scope.names.map (·.1)).Nodup
 free:∀x∈scope.names,x.2=.free→pd.names.lookup x.1=some .cell∨pd.names.lookup x.1=some .free
 len:N.length=own+caps.length
 kh:caps.map (λi=>oN[i]?)=(N.drop own).map some
 Om:∀x∈N.drop own,scope.names.lookup x=some .free
noncomputable def mH(own:Nat)(caps:List Nat)(σ:St):St:=List.replicate own none++caps.map λi=>(σ[i]?).join
noncomputable abbrev pe(X:Cx)(scope:Scope)(C:Addr):List (Str×Addr):=cellsFrom (C+1) scope.names (je X.env.cells scope.names [])
noncomputable abbrev va(h:Heap)(scope:Scope):Heap:=pushCells (h.push { cls:=.type "dict",data:=.dict #[] }) scope.names
section
variable{X:Cx}{aF:List (Addr×Obj)}{σ:St}{H:Hp}{s:Shared}{N:List Str}{own:Nat}{caps:List Nat}{scope:Scope}{ex:List Addr}
theorem sj(S:eZ X.N X.env.scope N own caps scope)(I:Inv X aF σ H s)(n:Nat){c:Addr}(h:(cellsFrom n scope.names (je X.env.cells scope.names [])).lookup x=some c) :
  (x,c)∈cellsFrom n scope.names []∨((x,NameKind.free)∈scope.names∧X.env.cells.lookup x=some c):=by
 rw[si,A5]at h;cases q:(cellsFrom n scope.names []).lookup x with
 |some c'=>
  rw[q]at h;have e:c'=c:=by simpa using h
  subst e;exact .inl (pW q)
 |none=>
  rw[q]at h;have h':(je X.env.cells scope.names []).lookup x=some c:=by simpa using h
  rcases xS _ _ h' with z|⟨z,e⟩
  ·cases z
  ·refine .inr ⟨z,?_⟩;obtain⟨c',iL⟩:=I.ok.has x (S.free (x,.free) z rfl);rw[iL]at e ⊢;rw[e];rfl
theorem Fx(S:eZ X.N X.env.scope N own caps scope)(I:Inv X aF σ H s)(n:Nat)(hx:scope.names.lookup x=some .free) :
  ∃c,X.env.cells.lookup x=some c∧(cellsFrom n scope.names (je X.env.cells scope.names [])).lookup x=some c:=by
 have hm:(x,NameKind.free)∈scope.names:=pW hx;obtain⟨c,hc⟩:=I.ok.has x (S.free (x,.free) hm rfl);refine⟨c,hc,?_⟩;obtain⟨c',iL⟩:=Option.isSome_iff_exists.mp (A3 (cells:=X.env.cells) (x:=x) scope.names [] (.inl hm));have e0:(cellsFrom n scope.names []).lookup x=none:=by
  cases q:(cellsFrom n scope.names []).lookup x with
  |none=>rfl
  |some d=>
   have:=u9 S.xT (A4 _ _ _ _ (pW q))
   rw[hx]at this;cases this
 rw[si,A5,e0,iL];rcases xS _ _ iL with z|⟨_,e⟩
 ·cases z
 ·rw[hc]at e;rw[e];rfl
theorem Oo(S:eZ X.N X.env.scope N own caps scope)(I:Inv X aF σ H s)(hex:∀b∈ex,iC X aF H b∧b<s.heap.objs.size) :
  Inv (kg X N scope (pe X scope s.heap.objs.size) s.heap.objs.size s H ex) [] (mH own caps σ) H { s with heap:=va s.heap scope }:=by
 have k1:∀b o,s.heap.get? b=some o→(va s.heap scope).get? b=some o:=λb o e=>pushCells_keeps _ _ b o (fc _ e);have ok:=cellsFrom_ok scope.names (s.heap.push { cls:=.type "dict",data:=.dict #[] }) (s.heap.objs.size+1) [] ⟨λ_ _ hm=>(nomatch hm),List.Pairwise.nil⟩ (by rw[Heap.size_push];exact bH _);rw[Heap.size_push]at ok;have Fy:∀x c,X.env.cells.lookup x=some c→c<s.heap.objs.size:=λx c e=>by
  obtain⟨v,q⟩:=I.cell x c e;exact q.lt
 have Fz:∀x,(compEnvC scope (pe X scope s.heap.objs.size) s.heap.objs.size X.env).kindOf x=(scope.names.lookup x).map λk=>if(k==NameKind.free&&X.env.scope.kind == .function&&X.env.kindOf x==some .cell)=true then NameKind.cell else k:=
  λx=>Oj (env:=X.env) scope.names
 have kk:∀x,(compEnvC scope (pe X scope s.heap.objs.size) s.heap.objs.size X.env).kindOf x=some .cell∨(compEnvC scope (pe X scope s.heap.objs.size) s.heap.objs.size X.env).kindOf x=some .free→
   scope.names.lookup x=some .cell∨scope.names.lookup x=some .free:=λx h=>by
  rw[Fz]at h;cases q:scope.names.lookup x with
  |none=>rw[q]at h;rcases h with h|h<;>cases h
  |some k=>
   rw[q]at h;by_cases hf:k=.free
   ·exact .inr (by rw[hf])
   ·have hb:(k==NameKind.free)=false:=by simpa using hf
    have e:(some k).map (λk=>if(k==NameKind.free&&X.env.scope.kind == .function&&X.env.kindOf x==some .cell)=true then NameKind.cell else k)=some k:=by
     simp[hf]
    rw[e]at h;exact h
 refine⟨⟨I.ok.mod,S.kind,I.ok.glob,I.ok.blt,bH _,λx y c h1 h2=>?_,λx hx=>?_,λx c hf h=>?_,I.ok.hd,I.ok.frames,.inl rfl,λb hb=>⟨?_,λx c h=>?_⟩,λb o e=>?_,eu I.ok.oP I.sz,λb o e hb=>?_,λb hb hf=>?_,I.stack,I.En⟩,
  rfl,I.bare,Un.kept k1,⟨λ_=>none,?_,λi x v h1 h2 h3=>?_⟩,λx c h=>?_,I.bz.fresh (bH _),λx c h=>?_,λp hp=>absurd (show p∈([]:List (Addr×Obj)) from hp) (by simp),I.bz.kept k1,?_⟩
 ·
  rcases sj S I _ h1 with a1|⟨_,a1⟩<;>rcases sj S I _ h2 with a2|⟨_,a2⟩
  ·exact name_of_addr ok.apart a1 a2
  ·exact absurd (Fy _ _ a2) (Nat.not_lt.mpr (Nat.le_of_succ_le (ok.empty _ _ a1).2))
  ·exact absurd (Fy _ _ a1) (Nat.not_lt.mpr (Nat.le_of_succ_le (ok.empty _ _ a2).2))
  ·exact I.ok.inj _ _ _ a1 a2
 ·
  rcases kk x hx with q|q
  ·exact Option.isSome_iff_exists.mp (PySem.W.cellsFrom_some scope.names _ _ (.inl q))
  ·obtain⟨c,_,hc⟩:=Fx S I (s.heap.objs.size+1) q;exact⟨c,hc⟩
 ·
  have pf:scope.names.lookup x=some .cell:=by simpa[kg]using hf
  rcases sj S I _ h with a|⟨a,_⟩
  ·exact Nat.le_of_succ_le (ok.empty _ _ a).2
  ·rw[u9 S.xT a]at pf;cases pf
 ·exact kO (hex b hb).2
 ·rcases sj S I _ h with a|⟨_,a⟩
  ·exact Nat.ne_of_gt (jo (hex b hb).2 (Nat.le_of_succ_le (ok.empty _ _ a).2))
  ·exact(hex b hb).1.2.2.2.2.1 x c a
 ·exact I.bs b o e
 ·rcases(hex b hb).1.2.2.2.1 with z|z
  ·exact I.ok.uK b o e z
  ·exact absurd (jo (eW e) (eu I.ok.oP z)) (rq _)
 ·rcases e9.mp (I.Ak b hf)with z|z
  ·exact(hex b hb).1.2.1 z
  ·exact(hex b hb).1.2.2.1 z
 ·exact(Heap.Ns.new s.heap (.type "dict")).keeps (pushCells_keeps _ _)
 ·
  have hi:own≤i:=by
   refine Nat.le_of_not_lt λdt=>?_;unfold mH at h2;rw[iA (by simpa using dt),List.getElem?_replicate]at h2;split at h2<;>cases h2
  obtain⟨j,rfl⟩:∃j,i=own+j:=⟨i-own,by lia⟩;unfold mH at h2;rw[i5 (by simp),eA,Nat.add_sub_cancel_left,fj]at h2;cases hc:caps[j]? with
  |none=>rw[hc]at h2;cases h2
  |some ci=>
   rw[hc]at h2;have hσ:σ[ci]?=some (some v):=by
    have z:(σ[ci]?).join=some v:=by simpa using h2
    cases q:σ[ci]? with
    |none=>rw[q]at z;cases z
    |some o=>rw[q]at z;have z':o=some v:=z;rw[z']
   have FA:(N.drop own)[j]?=some x:=by rw[List.getElem?_drop];exact h1
   have hX:X.N[ci]?=some x:=by
    have e:=aj (λl=>l[j]?) S.kh;simp only[fj,hc,FA,Option.map_some]at e;exact eM e
   have A6:=S.Om x (d8 FA);obtain⟨c,xU,rY⟩:=Fx S I (s.heap.objs.size+1) A6;obtain⟨m,hn,hl⟩:=I.loc;have hk:=S.free (x,.free) (pW A6) rfl;have Oq:rK X.env.scope x:=.inr hk;obtain⟨u,ru,lk⟩:=hl ci x v hX hσ Oq;refine⟨u,ru,?_⟩;rcases lk with⟨z,_⟩|⟨_,c',e',z⟩
   ·have z':X.env.scope.names.lookup x=some .local:=z;rcases hk with hk|hk
    ·have jf:X.env.scope.names.lookup x=some .cell:=hk;rw[z']at jf;cases jf
    ·have jf:X.env.scope.names.lookup x=some .free:=hk;rw[z']at jf;cases jf
   ·rw[xU]at e';cases e';refine .inr ⟨?_,c,rY,z.keeps k1⟩;show(compEnvC scope _ _ X.env).kindOf x=_∨(compEnvC scope _ _ X.env).kindOf x=_;rw[Fz,A6];show some (if _ then NameKind.cell else NameKind.free)=_∨some (if _ then NameKind.cell else NameKind.free)=_
    split
    ·exact .inl rfl
    ·exact .inr rfl
 ·rcases sj S I _ h with a|⟨_,a⟩
  ·exact⟨_,(ok.empty _ _ a).1⟩
  ·obtain⟨v,q⟩:=I.cell x c a;exact⟨v,q.keeps k1⟩
 ·rcases sj S I _ h with a|⟨_,a⟩
  ·exact I.bz.fresh (Nat.le_of_succ_le (ok.empty _ _ a).2)
  ·exact I.mn x c a
 ·unfold mH;show _=N.length;rw[S.len,bh,eA,br]
end
def sk(X:Cx)(iq:List Expr)(t:TT):Prop:=
 ∀(aF:List (Addr×Obj))(s:Shared)(σ:St)(H:Hp)(Q:Bool→Hp→Prop),Inv X aF σ H s→t σ H Q→
  wpAny (model X.prog X.w) X.A (forIn iq true λc r=>if r=true then do let ok ← isTrue c X.env (eval c X.env);pure (ForInStep.yield ok)else pure (ForInStep.yield r)) (TP X aF σ Q) X.xe s
def mK:TT:=λ_ H Q=>Q true H
theorem jw:sk X [] mK:=λ_ _ _ H _ I h=>wpAny_tests_nil ⟨H,I,h⟩
theorem A7{c:Expr}{t:TT}(h:PT X c t):sk X [c] t:=λaF s σ H Q I q=>wpAny_tests_one (h aF s σ H Q I q)
def A8(M:Model)(A:Around)(env:Env)(it acc:Value)(tg iQ:Expr)(iq:List Expr)(E:QV)(fin iB:Shared→Prop):Shared→Prop:=
 let kept:Shared→Prop:=λu=>wpAny M A (eval iQ env) (λx u5=>wpAny M A (call (.builtin "list.append") [acc,x]) (λ_ u6=>iB u6) E u5) E u
 let Ot:Shared→Prop:=λu=>wpAny M A (forIn iq true λc r=>if r=true then(do let ok ← isTrue c env (eval c env);pure (ForInStep.yield ok))else pure (ForInStep.yield r)) (λok u4=>if ok=true then kept u4 else iB u4) E u
 let Ou:QV:=λv u=>wpAny M A (letOwnedTupleGo tg it v) (λ_ u2=>wpAny M A (assign tg env v) (λ_ u3=>Ot u3) E u2) E u
 λu=>wpAny M A (pyNext it) (λo u1=>match o with|none=>fin u1|some v=>Ou v u1) E u
theorem Ov{prog:Program}{w:World}{A:Around}{R:Result→Shared→Prop}{iQ tg iter:Expr}{iq:List Expr}{pos:Pos}{it acc:Value}(I:Nat→Shared→Prop)(n:Nat)(start:I n s)
  (lg:∀m u,I m u→A8 (model prog w) A env it acc tg iQ iq (notedBy (model prog w) A env λe v=>R (.error e) v) (R (.ok .next)) (λv=>∃j,j<m∧I j v) u) :
  codeAny (model prog w) A (.compLoop (.ListComp iQ [⟨tg,iter,iq,0⟩] scope pos) 0 it acc env) R s:=by
 refine codeAny_loop rfl I (λm u hu=>wpAny_noted (m:=compTurn (.ListComp iQ [⟨tg,iter,iq,0⟩] scope pos) 0 it acc env) ?_) n start;have go:=lg m u hu;unfold A8 at go;rw[compTurn_list];refine aq (wpAny_standAt (aq (aM go λo u1 b1=>?_)))
 match o,b1 with
 |none,b1=>exact ao b1
 |some v,b1=>
  refine aq (aM b1 λ_ u2 b2=>aq (aM b2 λ_ u3 b3=>aq (aM b3 λok u4 b4=>?_)))
  match ok,b4 with
  |false,b4=>exact ao ⟨rfl,b4⟩
  |true,b4=>exact aq (aq (aM b4 λx u5 b5=>aq (aM b5 λ_ u6 b6=>ao (ao ⟨rfl,b6⟩))))
def ph(J:It)(g:TG)(tt:TT)(te:TE)(Q:VK)(W:Nat→Nat→St→Hp→List V→Prop):Prop:=
 ∀i m σ' H' ys,W i m σ' H' ys→
  (J.stop i H'∧ys.length≤sizeLine∧∀p,H' p=none→Q (.ref p) (upd H' p (.lst ys))) ∨
  (J.go i H'∧ys.length<sizeLine∧∃N:St→Hp→List V→Prop,(∀σ2 H2 zs,N σ2 H2 zs→∃m',m'<m∧W (i+1) m' σ2 H2 zs)∧
   ∀x H2,J.oU i H' x H2→g x σ' H2 λσ3 H3=>tt σ3 H3 λb H4=>if b=true then te σ3 H4 λv H5=>N σ3 H5 (ys++[v])else N σ3 H4 ys)
def n9(wi:TI)(own:Nat)(caps:List Nat)(g:TG)(tt:TT)(te:TE):TE:=λσ H Q=>wi σ H λJ H1=>
 ∃W:Nat→Nat→St→Hp→List V→Prop,(∃m,W 0 m (mH own caps σ) H1 [])∧ph J g tt te Q W
section
variable{X:Cx}{tg iQ iter:Expr}{iq:List Expr}{scope:Scope}{pos:Pos}{N:List Str}{own:Nat}{caps:List Nat}{wi:TI}{g:TG}{tt:TT}{te:TE}
theorem FC{aF:List (Addr×Obj)}{σ:St}{H2:Hp}{s2:Shared}{J:It}{fp:List Addr}{it:Addr}{tn:Nat→Heap→Prop}{W:Nat→Nat→St→Hp→List V→Prop}{m0:Nat}
  {E:QV} {R:Value→Addr→Result→Shared→Prop} (hc:X.calm=true) (S:eZ X.N X.env.scope N own caps scope)
  (hg:∀cs C s₀ H₀ ex,PG (kg X N scope cs C s₀ H₀ ex) tg g) (ht:∀cs C s₀ H₀ ex,sk (kg X N scope cs C s₀ H₀ ex) iq tt) (he:∀cs C s₀ H₀ ex,PE (kg X N scope cs C s₀ H₀ ex) iQ te)
  (I2:Inv X aF σ H2 s2) (T:Turn X.prog X.w X.K tg J fp it tn) (oX:tn 0 s2.heap) (f2:∀b∈fp,iC X aF H2 b)
  (w0:W 0 m0 (mH own caps σ) H2 []) (lg:ph J g tt te Q W)
  (Ow:∀D C s' H' ys,Inv X aF σ (upd H' D (.lst ys)) s'→iC X aF (upd H' D (.lst ys)) C→(∃m,s'.heap.Ns C m)→Q (.ref D) (upd H' D (.lst ys))→R (.ref D) C (.ok .next) s') :
  wpAny (model X.prog X.w) X.A (newList []) (λacc s₃=>wpAny (model X.prog X.w) X.A (newFunctionEnv scope X.env.globals (je X.env.cells scope.names []) [] X.env.qual none .none (some X.env)) (λFD s₄=>
   codeAny (model X.prog X.w) X.A (.compStart (.ListComp iQ [⟨tg,iter,iq,0⟩] scope pos) 0 (.ref it) acc { FD with scope:=relabel scope X.env }) (R acc FD.locals) s₄) E s₃) E s2:=by
 refine av (Ol ?_);dsimp only;generalize A9:s2.heap.push { cls:=.type "list",dict:=none,data:=.seq ([]:List Value).toArray }=h3;have hC:h3.objs.size=s2.heap.objs.size+1:=by rw[← A9,Heap.size_push]
 have FE:∀b o,s2.heap.get? b=some o→h3.get? b=some o:=λb o e=>A9▸fc _ e;have I3:Inv X aF σ H2 { s2 with heap:=h3 }:=I2.kept (t':=s2.toks) FE;have gD:h3.get? s2.heap.objs.size=some { cls:=.type "list",data:=.seq ([]:List Value).toArray }:=A9▸jL _ rfl;have fD:iC X aF H2 s2.heap.objs.size:=I2.nY (bH _) (I2.bz.fresh (bH _));have FF:∀b∈fp,b<s2.heap.objs.size:=λb hb=>by
  obtain⟨o,e,_⟩:=T.obj 0 _ oX b hb;exact eW e
 have hex:∀b∈s2.heap.objs.size::fp,iC X aF H2 b∧b<({ s2 with heap:=h3 }:Shared).heap.objs.size:=λb hb=>by
  show _∧b<h3.objs.size;rw[hC];cases hb with
  |head=>exact⟨fD,Nat.lt_succ_self _⟩
  |tail _ hb=>exact⟨f2 b hb,Nat.lt_succ_of_lt (FF b hb)⟩
 have IB:=Oo S I3 hex;generalize hY:kg X N scope (pe X scope h3.objs.size) h3.objs.size { s2 with heap:=h3 } H2 (s2.heap.objs.size::fp)=Y at IB;have yP:Y.prog=X.prog:=by rw[← hY];rfl
 have yW:Y.w=X.w:=by rw[← hY];rfl
 have yK:Y.K=X.K:=by rw[← hY];rfl
 have yc:Y.calm=true:=by rw[← hY];exact hc
 have yA:Y.A=X.A:=by rw[← hY];rfl
 have yx:Y.xe=λ_ _=>False:=by rw[← hY];rfl
 have yL:Y.env.locals=h3.objs.size:=by rw[← hY];rfl
 have FG:Y.ex=s2.heap.objs.size::fp:=by rw[← hY];rfl
 have Ox:Y.fs=jr X.stack:=by rw[← hY];rfl
 have FH:Y.pn=[]:=by rw[← hY];rfl
 have Ba:Y.env=compEnvC scope (pe X scope h3.objs.size) h3.objs.size X.env:=by rw[← hY];rfl
 have yg:PG Y tg g:=by rw[← hY];exact hg _ _ _ _ _
 have yt:sk Y iq tt:=by rw[← hY];exact ht _ _ _ _ _
 have ye:PE Y iQ te:=by rw[← hY];exact he _ _ _ _ _
 have yb:∀{σ':St}{H':Hp}{s':Shared}{pn:List (Addr×Obj)},Inv Y pn σ' H' s'→Un (jr X.stack) (s2.heap.objs.size::fp) H2 H' h3 s'.heap:=λ{σ' H' s' pn} J=>by
  have b:=J.base;rw[Ox,FG]at b;have e1:Y.H₀=H2:=by rw[← hY];rfl
  have e2:Y.s₀.heap=h3:=by rw[← hY];rfl
  rw[e1,e2]at b;exact b
 have Oy:∀{σ':St}{H':Hp}{s':Shared}{pn:List (Addr×Obj)},Inv Y pn σ' H' s'→s'.os=s2.os:=λ{σ' H' s' pn} J=>by
  have e:Y.s₀.os=s2.os:=by rw[← hY];rfl
  exact J.os.trans e
 have DL:s2.heap.objs.size≠Y.env.locals:=by rw[yL,hC];exact kO (Nat.lt_succ_self _)
 have FI:s2.heap.objs.size ∉ fp:=λz=>rq _ (FF _ z);have Bb:∀b∈s2.heap.objs.size::fp,b∈Y.ex:=λb hb=>by rw[FG];exact hb
 have Oz:∀{pn:List (Addr×Obj)}{H':Hp},(∀p∈pn,p.1 ∉ fp)→(∀b∈fp,H' b=none)→∀b∈fp,iC Y pn H' b:=λ{pn H'} hp hn b hb=>by
  have mO:=Bb b (eR _ hb);refine⟨hn b hb,(IB.ok.uJ b mO).1,IB.ok.rL b mO,.inl mO,(IB.ok.uJ b mO).2,λp vb z=>?_⟩;rw[FH,List.nil_append]at vb;exact hp p vb (z▸hb)
 have FJ:∀b o,h3.get? b=some o→(va h3 scope).get? b=some o:=λb o e=>pushCells_keeps _ _ b o (fc _ e);have FK:tn 0 (va h3 scope):=T.keep 0 s2.heap _ oX λb _ o e=>FJ b o (FE b o e);have OA:=FJ _ _ gD;have loop:codeAny (model X.prog X.w) X.A (.compLoop (.ListComp iQ [⟨tg,iter,iq,0⟩] scope pos) 0 (.ref it) (.ref s2.heap.objs.size) (compEnvC scope (pe X scope h3.objs.size) h3.objs.size X.env)) (R (.ref s2.heap.objs.size) h3.objs.size)
   { s2 with heap:=va h3 scope }:=by
  refine Ov (λn s'=>∃i σ' H' ys its kh,Inv Y [] σ' H' s'∧tn i s'.heap∧(∀b∈fp,H' b=none)∧H' s2.heap.objs.size=none∧
   s'.heap.get? s2.heap.objs.size=some { cls:=.type "list",data:=.seq (its:List Value).toArray kh }∧Vals ys its∧W i n σ' H' ys) m0
   ⟨0,_,H2,[],[],_,IB,FK,λb hb=>(f2 b hb).1,fD.1,OA,.nil,w0⟩ ?_
  rintro n s5 ⟨i,σ5,H5,ys,its,kh,I5,t5,xB,FL,OB,xV,w5⟩;unfold A8;dsimp only;have FN:Inv Y [(s2.heap.objs.size,{ cls:=.type "list",data:=.seq its.toArray kh })] σ5 H5 s5:=I5.xo λp hp=>by
   have e:=cX.mp hp;subst e;exact⟨OB,FL,DL,IB.ok.rL _ (Bb _ dv),λv z=>by cases z⟩
  have OC:∀p∈[((s2.heap.objs.size:Addr),({ cls:=.type "list",data:=.seq its.toArray kh }:Obj))],p.1 ∉ fp:=λp hp=>by
   have e:=cX.mp hp;subst e;exact FI
  have Bc:∀{H':Hp},(∀b∈fp,H' b=none)→∀b∈fp,iC Y [((s2.heap.objs.size:Addr),({ cls:=.type "list",data:=.seq its.toArray kh }:Obj))] H' b:=λhn=>Oz OC hn;rcases lg i n σ5 H5 ys w5 with⟨stop,hz,qn⟩|⟨go,hz,NN,FO,step⟩
  ·rw[← yA];refine ah (T.done Y yP yW yK yc i _ s5 σ5 H5 (λ_ _=>False) FN (Bc xB) t5 stop) (λr s6 h6=>?_) λ_ _ f=>f.elim;obtain⟨hr,I6⟩:=h6;subst hr;have so:=I6.pin (s2.heap.objs.size,_) (fY _ (cX.mpr rfl));have nD:H2 s2.heap.objs.size=none:=fD.1;have base:=yb I6;have un:Un (jr X.stack) (s2.heap.objs.size::fp) H2 (upd H5 s2.heap.objs.size (.lst ys)) h3 s6.heap:=⟨base.keep,base.slot,λb o e n hx=>by
     rw[cC (λz=>hx (by rw[z];exact dv))];exact base.free b o e n hx,base.there,
    λb xs e=>by rw[cC (fZ e nD)];exact base.nS b xs e,λb o u e=>by rw[cC (fZ e nD)];exact base.mm b o u e,λb ps e=>by
     obtain⟨iB,q⟩:=base.nT b ps e;exact⟨iB,by rw[cC (fZ e nD)];exact q⟩⟩
   have bz:d9 X.prog X.w (upd H5 s2.heap.objs.size (.lst ys)) s6.heap:=λb u e=>by
    have FP:=I6.bz;rw[yP,yW]at FP;by_cases hb:b=s2.heap.objs.size
    ·subst hb;rw[aZ]at e;cases e;exact⟨hz,its,kh,xV,so.1⟩
    ·rw[cC hb]at e;exact(FP b u e).p7 (λc v _ q=>q) (λc q=>by rw[cC (fZ q so.2.1)];exact q) λc xs q=>by rw[cC (fZ q so.2.1)];exact q
   have I7:Inv X aF σ (upd H5 s2.heap.objs.size (.lst ys)) s6:=I3.MH (Oy I6) un bz I6.bare λb hb=>by
    have z:=(hex b hb).1;exact⟨z.2.2.2.1,z.2.1,z.2.2.2.2.1,z.2.2.2.2.2⟩
   have OD:H5 h3.objs.size=none:=by rw[← yL];exact I6.free
   have CD:h3.objs.size≠s2.heap.objs.size:=by rw[hC];exact Nat.succ_ne_self _
   refine Ow _ _ s6 H5 ys I7 (I3.nY (bH _) (by rw[cC CD];exact OD)) ?_ (qn _ FL);obtain⟨m,hn,_⟩:=I6.loc;rw[yL]at hn;exact⟨m,hn⟩
  ·rw[← yA];have lift:∀{α:Type}{t:Sem α}{Q1 Q2:α→Shared→Prop}{s':Shared},wpAny (model X.prog X.w) Y.A t Q1 Y.xe s'→(∀a o3,Q1 a o3→Q2 a o3)→
     wpAny (model X.prog X.w) Y.A t Q2 (notedBy (model X.prog X.w) Y.A (compEnvC scope (pe X scope h3.objs.size) h3.objs.size X.env) λe s'=>R (.ref s2.heap.objs.size) h3.objs.size (.error e) s') s':=λh k=>
    ah h k λ_ _ f=>by rw[yx]at f;exact f.elim
   refine lift (T.item Y yP yW yK yc i _ s5 σ5 H5 Y.xe FN (Bc xB) t5 go) λr s6 h6=>?_;obtain⟨u,hr,h6⟩:=h6;subst hr;refine lift h6 λ_ s7 h7=>?_;obtain⟨x,H7,I7,r7,y7,t7,OE⟩:=h7;have OF:=I7.pinned (Bc OE) (T.obj _ _ t7);have ha:=yg _ s7 σ5 H7 x u _ OF r7 (step x H7 y7);rw[yP,yW,Ba]at ha;refine lift ha λ_ s8 h8=>?_;obtain⟨σ8,H8,I8,q8⟩:=h8;have hb:=yt _ s8 σ8 H8 _ I8 q8;rw[yP,yW,Ba]at hb;refine lift hb λok s9 h9=>?_;obtain⟨H9,I9,q9⟩:=h9;have after:∀{σ':St}{H':Hp}{s':Shared},Inv Y ([((s2.heap.objs.size:Addr),({ cls:=.type "list",data:=.seq its.toArray kh }:Obj))]++uQ fp s7.heap) σ' H' s'→
     Inv Y [] σ' H' s'∧tn (i+1) s'.heap∧(∀b∈fp,H' b=none)∧H' s2.heap.objs.size=none∧s'.heap.get? s2.heap.objs.size=some { cls:=.type "list",data:=.seq its.toArray kh }:=λ{σ' H' s'} J=>by
    have pD:=J.pin (s2.heap.objs.size,_) (fY _ (jM _ (cX.mpr rfl)));refine⟨J.xo (λp hp=>by cases hp),T.keep _ _ _ t7 λb hb o e=>(J.pin (b,o) (fY _ (fY _ (xA hb e)))).1,λb hb=>?_,pD.2.1,pD.1⟩;obtain⟨o,e,d⟩:=T.obj _ _ t7 b hb;exact(J.pin (b,o) (fY _ (fY _ (xA hb e)))).2.1
   cases ok with
   |false=>
    rw[ag (by decide)]at q9;rw[ag (by decide)];obtain⟨m',hm,w9⟩:=FO _ _ _ q9;obtain⟨a1,a2,a3,a4,a5⟩:=after I9;exact⟨m',hm,i+1,σ8,H9,ys,its,kh,a1,a2,a3,a4,a5,xV,w9⟩
   |true=>
    rw[af rfl]at q9;rw[af rfl];have hd:=ye _ s9 σ8 H9 _ I9 q9;rw[yP,yW,Ba]at hd;refine lift hd λv mQ Bd=>?_;obtain⟨y,FQ,OG,OH,OI⟩:=Bd;obtain⟨m',hm,OJ⟩:=FO _ _ _ OI;obtain⟨a1,a2,a3,a4,a5⟩:=after OG;have cU:=xV.length;refine append_at (hsz:=by rw[dC];lia) a5 λh' sb g'=>?_;have FR:=Bb _ (dv (a:=s2.heap.objs.size) (l:=fp));have OK:Inv Y [] σ8 FQ { mQ with heap:=h' }:=a1.turned (t':=mQ.toks) (it:=s2.heap.objs.size) (λb o hb e=>(sb.2 b hb).trans e) a4 DL (.inl FR) (IB.ok.uJ _ FR).2 (by rw[FH];intro p hp;cases hp);refine⟨m',hm,i+1,σ8,FQ,ys++[y],its++[v],kh+1,OK,T.keep _ _ _ a2 λb hb o e=>(sb.2 b (λz=>FI (z▸hb))).trans e,a3,a4,?_,xV.snoc OH,OJ⟩;rw[g',List.push_toArray]
 exact codeAny_compStart_list loop (T.self X.A 0 _ _ _ FK loop)
theorem FT(S:eZ X.N X.env.scope N own caps scope){aF:List (Addr×Obj)}{σ:St}(I:Inv X aF σ H s):closureFor scope X.env=pure (je X.env.cells scope.names []):=
 Oh λx hx hk=>I.ok.has x.1 (S.free x hx hk)
theorem mV(hc:X.calm=true)(hi:PI X tg iter wi)(S:eZ X.N X.env.scope N own caps scope)
  (hg:∀cs C s₀ H₀ ex,PG (kg X N scope cs C s₀ H₀ ex) tg g) (ht:∀cs C s₀ H₀ ex,sk (kg X N scope cs C s₀ H₀ ex) iq tt) (he:∀cs C s₀ H₀ ex,PE (kg X N scope cs C s₀ H₀ ex) iQ te)
  (hs:∀x,foldedSetIterable iter X.env x=pure x:=by intro _;rfl):PE X (.ListComp iQ [⟨tg,iter,iq,0⟩] scope pos) (n9 wi own caps g tt te):=by
 intro aF s σ H Q I h;rw[eval_ListComp];refine wpAny_comprehension_free (use:=none) rfl hs (FT S I) S.kind (λx hx hl=>u9 S.xT (by rw[← hl];exact hx)) ?_;refine aM (hi aF s σ H _ I h) λv s1 h1=>aM h1 λxw s2 h2=>?_;obtain⟨it,fp,tn,J,H2,e,I2,T,oX,f2,W,⟨m0,w0⟩,lg⟩:=h2;subst e;refine FC hc S hg ht he I2 T oX f2 w0 lg λD C s' H' ys I' F' hn q=>?_;obtain⟨m,hn⟩:=hn;refine⟨m,hn,λh' sb=>⟨.ref D,_,I'.turned (t':=s'.toks) (λb o hb e=>(sb.2 b hb).trans e) F'.1 F'.2.1 F'.2.2.2.1 F'.2.2.2.2.1 F'.2.2.2.2.2,rfl,q⟩⟩
theorem qp{i:Nat}{ju FU:Pos}(hc:X.calm=true)(hN:X.N.Nodup)(xW:X.N[i]?=some x)(hx:X.env.scope.names.lookup x=some .local)(hi:PI X tg iter wi)(S:eZ X.N X.env.scope N own caps scope)
  (hg:∀cs C s₀ H₀ ex,PG (kg X N scope cs C s₀ H₀ ex) tg g) (ht:∀cs C s₀ H₀ ex,sk (kg X N scope cs C s₀ H₀ ex) iq tt) (he:∀cs C s₀ H₀ ex,PE (kg X N scope cs C s₀ H₀ ex) iQ te)
  (OL:swapsWith (.ListComp iQ [⟨tg,iter,iq,0⟩] scope pos) (some (.Name x ju)) FU.line X.env=pure true:=by rfl)
  (hs:∀x,foldedSetIterable iter X.env x=pure x:=by intro _;rfl):PS X (.Assign [.Name x ju] (.ListComp iQ [⟨tg,iter,iq,0⟩] scope pos) FU) (cx (n9 wi own caps g tt te) (bo i)):=by
 intro aF s σ H D I h;rw[exec_Assign_Name_used _ _ _ _ OL];refine aq (wpAny_standAt (aq ?_));show wpAny _ X.A (do let _ ← comprehension (.ListComp iQ [⟨tg,iter,iq,0⟩] scope pos) scope X.env _ (newList []) false (eval iter X.env) (some (assign (.Name x ju) X.env))) _ _ s
 refine aq (ah (wpAny_comprehension_free (use:=some (assign (.Name x ju) X.env)) (Q:=λ_ s'=>SP X aF D .next s') rfl hs (FT S I) S.kind (λx hx hl=>u9 S.xT (by rw[← hl];exact hx)) ?_) (λ_ s' hq=>ao (ao hq)) λ_ _ e=>e);refine aM (hi aF s σ H _ I h) λv s1 h1=>aM h1 λxw s2 h2=>?_;obtain⟨it,fp,tn,J,H2,e,I2,T,oX,f2,W,⟨m0,w0⟩,lg⟩:=h2;subst e;refine FC hc S hg ht he I2 T oX f2 w0 lg λD' C s' H' ys I' F' hn q=>?_;obtain⟨m,hn⟩:=hn;refine wpAny_assign_Name (Eu (v:=.ref D') I' hN xW (.inl hx) rfl (λo3 OM ON=>?_) (.inr hx));obtain⟨a,sb,ha⟩:=ON;have OO:C≠a:=by
  rcases ha with ha|ha
  ·rw[ha];exact F'.2.1
  ·exact(F'.2.2.2.2.1 x a ha).symm
 exact⟨m,hn.sameBut sb OO,λh' OP=>⟨_,_,OM.turned (t':=o3.toks) (λb o hb e=>(OP.2 b hb).trans e) F'.1 F'.2.1 F'.2.2.2.1 F'.2.2.2.2.1 F'.2.2.2.2.2,q⟩⟩
end
section
variable(it a:Addr)(i:Nat)(its:Array Value)(o:Obj)(n:Nat)(ed:o.data=.seq its n)
include ed
end
section
variable{prog:Program}{w:World}{A:Around}{E:QV}{s:Shared}{b:Bool}{it a:Addr}{i:Nat}{its:Array Value}
end
section
variable{prog:Program}{w:World}{A:Around}{E:QV}{z TI TO i1 i2:Addr}{OQ OR:List Addr}{n1 n2 k:Nat}{P1 P2:Nat→Value→Prop}{S1 S2:Nat→Heap→Prop}{a b:Value}
end
section
variable{prog:Program}{w:World}{A:Around}{E:QV}{z TI TO i1 i2:Addr}{OQ OR:List Addr}{n1 n2 k:Nat}{P1 P2:Nat→Value→Prop}{S1 S2:Nat→Heap→Prop}{a b:Value}
end
def Sq(b:Bool)(K:Frag)(H:Hp)(a:Addr)(xs:List V):Prop:=match b with
 |true=>cR K H a xs
 |false=>bQ K H a xs
section
variable{X:Cx}{aF:List (Addr×Obj)}{σ:St}{H:Hp}{s:Shared}{h':Heap}
theorem Inv.Be{o:HO}(I:Inv X aF σ H s)(f:iC X aF H p)(new:eO X.prog X.w (upd H p o) s.heap p o):Inv X aF σ (upd H p o) s:=by
 have hp:=f.1;refine I.step (g':=s.gens) (d':=s.drawn) (t':=s.toks) (h':=s.heap) (ch:=[p]) (λb hb=>?_) (λb o _ _ _ e _=>e) (λb o _ _ _ e _=>⟨o.slots,e⟩) (λb o hc e n=>?_)
  (λb o _ e=>⟨o,e⟩) (λb xs e=>by rw[cC (fZ e hp)];exact e) (λb o u e=>by rw[cC (fZ e hp)];exact e) (λb ps e=>⟨#[],by rw[cC (fZ e hp),e];simp⟩) (λm hm=>hm) (λb u e=>?_) I.bare
 ·have e:=cX.mp hb;subst e;exact⟨f.2.2.2.1,f.2.1,f.2.2.2.2.1,f.2.2.2.2.2⟩
 ·rw[cC (λz=>hc (by rw[z];exact cX.mpr rfl))];exact n
 ·by_cases hb:b=p
  ·subst hb;rw[aZ]at e;cases e;exact new
  ·rw[cC hb]at e;exact(I.bz b u e).p7 (λc v _ q=>q) (λc q=>by rw[cC (fZ q hp)];exact q) λc xs q=>by rw[cC (fZ q hp)];exact q
end
section
variable{prog:Program}{w:World}{A:Around}{E:QV}{s:Shared}
end
section
variable{prog:Program}{w:World}{A:Around}{E:QV}{s:Shared}
end
section
variable{X:Cx}
end
theorem aJ.sq{K:Frag}{b:Bool}(e:aJ H H')(h:Sq b K H a xs):Sq b K H' a xs:=by
 cases b with
 |true=>exact e.seq h
 |false=>
  rcases h with h|h
  ·refine .inl ?_;rcases h with h|⟨o,h⟩
   ·exact .inl (e _ _ h)
   ·exact .inr ⟨o,e _ _ h⟩
  ·exact .inr h
theorem aJ.cG{K:Frag}(e:aJ H H')(h:bQ K H a xs):bQ K H' a xs:=e.sq (b:=false) h
theorem aJ.upd{H:Hp}{p:Addr}{o:HO}(h:H p=none):aJ H (upd H p o):=λb u e=>by rw[cC (fZ e h)];exact e
def gK(K:Frag)(H:Hp)(xs:List V)(Q:VK):Prop:=∀p H',aJ H H'→bQ K H' p xs→Q (.ref p) H'
theorem gK.old{K:Frag}(h:gK K H xs Q)(q:bQ K H p xs):Q (.ref p) H:=h p H (.refl H) q
theorem gK.new{K:Frag}(h:gK K H xs Q)(n:H p=none):Q (.ref p) (upd H p (.tup xs)):=h p _ (.upd n) (.of aZ)
section
variable{X:Cx}
theorem OS:eI X (.type "range") (λxs H Q=>∃i j:Int,xs=[.int i,.int j]∧∀p,H p=none→Q (.ref p) (upd H p (.kX i j))):=by
 intro aF s σ H vs us Q I r h;obtain⟨i,j,rfl,q⟩:=h;obtain⟨u,v,rfl,ru,rv⟩:=vals2 r;obtain⟨t,rfl⟩:=ru;obtain⟨t',rfl⟩:=rv;refine call_range_2 ?_;exact⟨.ref _,_,I.laid (t':=_) (o:=.kX i j) (λb o e=>fc _ e) (bH _) ⟨_,_,_,jL _ rfl⟩,rfl,q _ I.fresh⟩
theorem OT{a:Int}:∀(n:Nat)(acc:Array Value),ItemsOf (λi v=>∃t,v=.int (a+i*1) t) acc n→Vals ((List.range n).map λ(i:Nat)=>V.int (a+i)) acc.toList:=by
 intro n acc h;have hsz:acc.size=n:=h.1;have key:∀(k:Nat),k≤n→Vals (((List.range n).map λ(i:Nat)=>V.int (a+i)).take k) (acc.toList.take k):=by
  intro k;induction k with
  |zero=>intro _;exact .nil
  |succ k ih=>
   intro hk;have jf:k<acc.size:=by lia
   rw[jN,jN];refine Vals.append (ih (by lia)) ?_;have e1:((List.range n).map λ(i:Nat)=>V.int (a+i))[k]?=some (V.int (a+k)):=by
    rw[fj,List.getElem?_range (by lia)];rfl
   have e2:acc.toList[k]?=some acc[k]:=by simp[jf]
   rw[e1,e2];obtain⟨t,e⟩:=h.2 k acc[k] (by simp[jf]);refine .cons ⟨t,?_⟩ .nil;rw[e,Int.mul_one]
 have:=key n (bH _)
 rw[rB (by simp),rB (by simp[hsz])]at this;exact this
theorem Bf(hc:X.calm=true):eI X (.type "list") (λxs H Q=>∃p i j,xs=[.ref p]∧H p=some (.kX i j)∧(-(2^62)≤i∧i<2^62∧-(2^62)≤j∧j<2^62)∧j-i≤16777216∧
  ∀l,H l=none→Q (.ref l) (upd H l (.lst ((List.range (j-i).toNat).map λ(k:Nat)=>V.int (i+k))))):=by
 intro aF s σ H vs us Q I r h;obtain⟨p,i,j,rfl,hp,⟨h1,h2,h3,h4⟩,hz,q⟩:=h;obtain⟨u,rfl,ru⟩:=vals1 r;cases ru;obtain⟨t,u,v,e⟩:=I.bz p _ hp;have hn:Builtin.Range.rangeSize i j 1=(((j-i).toNat:Nat):Int):=by rw[rangeSize_one];split<;>lia
 refine call_list_range (I.ok.hd hc) (show IsRange s.heap p i j 1 t u v from e) (small_one h1 h2 h3 h4) hn (by lia) λh' tk acc c hk hS hI=>?_
 have rv:=OT (a:=i) _ _ hI;have I1:Inv X aF σ H { s with heap:=h',toks:=tk }:=I.kept hk;have f:iC X aF H s.heap.objs.size:=I.nY (bH _) I.fresh;have I2:=I1.Be (o:=.lst ((List.range (j-i).toNat).map λ(k:Nat)=>V.int (i+k))) f ⟨?_,acc.toList,c,rv,hS⟩
 ·exact⟨.ref _,_,I2,rfl,q _ f.1⟩
 ·rw[br,List.length_range]
  have:(16777216:Nat)≤sizeLine:=by decide
  lia
theorem FV:∀{ns:List Int}{its:List Value},Vals (ns.map V.int) its→∃ps:List (Int×Tok),its=ps.map (λp=>Value.int p.1 p.2)∧ps.map (·.1)=ns
 | [],_,.nil=>⟨[],rfl,rfl⟩
 |n::ns,_,.cons r rr=>by
  obtain⟨t,rfl⟩:=r;obtain⟨ps,rfl,rfl⟩:=FV rr;exact⟨(n,t)::ps,rfl,rfl⟩
theorem OU(hc:X.calm=true):eI X (.builtin "sum") (λxs H Q=>∃p ns,xs=[.ref p]∧cR X.K H p (List.map V.int ns)∧Q (.int ns.sum) H):=by
 intro aF s σ H vs us Q I r h;obtain⟨p,ns,rfl,hq,q⟩:=h;obtain⟨u,rfl,ru⟩:=vals1 r;cases ru;obtain⟨its,rv,pl,hz⟩:=I.list hq;obtain⟨ps,rfl,rfl⟩:=FV rv;have vc:s.heap.IsList p (intItems ps.toArray):=by
  have z:=pl.isList;rwa[show(ps.map λp=>Value.int p.1 p.2).toArray=intItems ps.toArray by simp[intItems]]at z
 refine sum_intListG (I.ok.hd hc) vc λh' tk t' hk=>⟨.int _,H,I.kept hk,⟨t',?_⟩,q⟩
 have:=preSum_eq ps.toArray ps.toArray.size
 simp only[dC]at this;rw[rB (Nat.le_of_eq (br _))]at this;simp[this]
theorem Bg{T:String}:eI X (.builtin "isinstance") (λxs H Q=>∃x t b,xs=[x,.ty T]∧jU X.K H x t∧kitOne X.K t (.type T)=some b∧Q (.bl b) H):=by
 intro aF s σ H vs us Q I r h;obtain⟨x,t,b,rfl,ty,e,q⟩:=h;obtain⟨u,v,rfl,ru,rv⟩:=vals2 r;cases rv;exact Np I ru ty e λtk=>⟨.bl b,H,I.tok tk,rfl,q⟩
end
mutual
inductive iD(K:Frag)(H:Hp):V→Dat→Prop
 |none:iD K H .cm .none
 |bool (b:Bool):iD K H (.bl b) (.bool b)
 |int (i:Int):iD K H (.int i) (.int i)
 |str (x:Str):iD K H (.str x) (.str x)
 |tuple {a:Addr} {xs:List V} {ds:List Dat}:bQ K H a xs→du K H xs ds→iD K H (.ref a) (.tuple ds)
 |list {a:Addr} {xs:List V} {ds:List Dat}:cR K H a xs→du K H xs ds→iD K H (.ref a) (.list ds)
inductive du(K:Frag)(H:Hp):List V→List Dat→Prop
 |nil:du K H [] []
 |cons {v:V} {vs:List V} {d:Dat} {ds:List Dat}:iD K H v d→du K H vs ds→du K H (v::vs) (d::ds)
end
mutual
theorem iD.mono{K:Frag}{H H':Hp}(e:aJ H H'):∀{v:V}{d:Dat},iD K H v d→iD K H' v d
 |_,_,.none=>.none
 |_,_,.bool b=>.bool b
 |_,_,.int i=>.int i
 |_,_,.str x=>.str x
 |_,_,.tuple h r=>.tuple (e.cG h) (du.mono e r)
 |_,_,.list h r=>.list (e.seq h) (du.mono e r)
theorem du.mono{K:Frag}{H H':Hp}(e:aJ H H'):∀{vs:List V}{ds:List Dat},du K H vs ds→du K H' vs ds
 |_,_,.nil=>.nil
 |_,_,.cons h r=>.cons (iD.mono e h) (du.mono e r)
end
theorem du.length{K:Frag}{H:Hp}:∀{vs:List V}{ds:List Dat},du K H vs ds→vs.length=ds.length
 |_,_,.nil=>rfl
 |_,_,.cons _ r=>by rw[cu,cu,du.length r]
theorem du.append{K:Frag}{H:Hp}:∀{vs ws:List V}{ds es:List Dat},du K H vs ds→du K H ws es→du K H (vs++ws) (ds++es)
 |_,_,_,_,.nil,k=>k
 |_,_,_,_,.cons h r,k=>.cons h (du.append r k)
theorem du.ints{K:Frag}{H:Hp}:∀(ns:List Int),du K H (ns.map V.int) (ns.map Dat.int)
 | []=>.nil
 |n::ns=>.cons (.int n) (du.ints ns)
mutual
theorem iD.reads{X:Cx}{aF:List (Addr×Obj)}{σ:St}{H:Hp}{s:Shared}(I:Inv X aF σ H s):∀{v:V}{d:Dat}{u:Value},iD X.K H v d→RelV v u→∃as,Reads s.heap u (PySem.W.kqdP d) as
 |_,_,u,.none,r=>by cases(show u=Value.none from r);exact⟨_,.none⟩
 |_,_,u,.bool b,r=>by cases(show u=Value.bool b from r);exact⟨_,.bool b⟩
 |_,_,u,.int i,r=>by obtain⟨t,rfl⟩:=r;exact⟨_,.int i t⟩
 |_,_,u,.str x,r=>by obtain⟨t,rfl⟩:=r;exact⟨_,.str x t⟩
 |_,_,u,.tuple (a:=a) h q,r=>by
  cases(show u=Value.ref a from r)
  obtain⟨its,rv,⟨o,ho,hc,n,hd⟩,_⟩:=I.tuple h;obtain⟨as,z⟩:=du.reads I q rv;rw[PySem.W.kqdP];exact⟨as,.tuple ho hc hd (by simpa using z)⟩
 |_,_,u,.list (a:=a) h q,r=>by
  cases(show u=Value.ref a from r)
  obtain⟨its,rv,p,_⟩:=I.list h;obtain⟨o,ho,hc,n,hd⟩:=p.isList;obtain⟨as,z⟩:=du.reads I q rv;rw[PySem.W.kqdP];exact⟨_,.list ho hc hd (by simpa using z)⟩
theorem du.reads{X:Cx}{aF:List (Addr×Obj)}{σ:St}{H:Hp}{s:Shared}(I:Inv X aF σ H s):∀{vs:List V}{ds:List Dat}{us:List Value},du X.K H vs ds→Vals vs us→∃as,ReadsAll s.heap us (PySem.W.kqdPs ds) as
 |_,_,_,.nil,.nil=>⟨_,.nil⟩
 |_,_,_,.cons h q,.cons r rr=>by
  obtain⟨as,z⟩:=iD.reads I h r;obtain⟨bs,y⟩:=du.reads I q rr;rw[PySem.W.kqdPs];exact⟨_,.cons z y⟩
end
section
variable{X:Cx}
open Classical in
def pj(K:Frag)(neg:Bool):R2:=λx y H Q=>∃d e,iD K H x d∧iD K H y e∧kqdOk 8 d=true∧kqdOk 8 e=true∧Q (.bl (if neg then !decide (d=e)else decide (d=e))) H
open Classical in
theorem FW{d e:Dat}(hd:kqdOk 8 d=true)(he:kqdOk 8 e=true):PyData.eqv (PySem.W.kqdP d) (PySem.W.kqdP e)=decide (d=e):=by
 exact Bool.eq_iff_iff.mpr ((PySem.W.kqd_eqv 8 d e 8 hd he).trans decide_eq_true_iff.symm)
theorem xX{d:Dat}(hd:kqdOk 8 d=true):SeqAt.shaped (PySem.W.kqdP d)=true:=by
 have l:=PySem.W.kqd_lay 8 d hd;unfold SeqAt.shaped;rw[l.1,Bool.true_and];exact ax (eu l.2 (by decide))
theorem OV(hu:X.A.units+64<cLine):eB X (compareOp .Eq) (pj X.K false):=by
 intro aF s σ H x y v u Q I rx ry h;obtain⟨d,e,hx,hy,hd,he,q⟩:=h;obtain⟨as,ra⟩:=hx.reads I rx;obtain⟨bs,rb⟩:=hy.reads I ry;refine eq_dataH ra rb (xX hd) (xX he) hu ?_;rw[FW hd he];exact⟨.bl _,H,I,rfl,q⟩
theorem OW(hu:X.A.units+64<cLine):eB X (compareOp .NotEq) (pj X.K true):=by
 intro aF s σ H x y v u Q I rx ry h;obtain⟨d,e,hx,hy,hd,he,q⟩:=h;obtain⟨as,ra⟩:=hx.reads I rx;obtain⟨bs,rb⟩:=hy.reads I ry;refine ne_dataH ra rb (xX hd) (xX he) hu ?_;rw[FW hd he];exact⟨.bl _,H,I,rfl,q⟩
end
noncomputable def jg(ns:List Int):Dat:=.tuple (ns.map .int)
theorem FX(n:Nat)(ns:List Int):kqdOk (n+1) (jg ns)=true:=by
 unfold jg kqdOk;rw[List.all_map];exact iK.mpr λ_ _=>by cases n<;>rfl
noncomputable def FY(oN:List Str)(pd:Scope)(N:List Str)(own:Nat)(caps:List Nat)(scope:Scope):Bool:=
 decide (scope.kind=.function)&&decide N.Nodup&&decide (scope.names.map (·.1)).Nodup &&
 scope.names.all (λx=>x.2 != .free||(decide (pd.names.lookup x.1=some .cell)||decide (pd.names.lookup x.1=some .free))) &&
 decide (N.length=own+caps.length)&&decide (caps.map (λi=>oN[i]?)=(N.drop own).map some)&&(N.drop own).all (λx=>decide (scope.names.lookup x=some .free))
theorem eZ.mk'{oN:List Str}{pd:Scope}{N:List Str}{own:Nat}{caps:List Nat}{scope:Scope}(h:FY oN pd N own caps scope=true):eZ oN pd N own caps scope:=by
 unfold FY at h;simp only[fq,ay,iK,Bool.or_eq_true,bne_iff_ne,ne_eq]at h;obtain⟨⟨⟨⟨⟨⟨h1,h2⟩,h3⟩,h4⟩,h5⟩,h6⟩,h7⟩:=h;exact⟨h1,h2,h3,λx hx hk=>(h4 x hx).elim (λz=>absurd hk z) id,h5,h6,h7⟩
def pk(n:Nat)(cp:St)(H1:Hp)(P:Hp→List V→Prop):St→Hp→List V→Prop:=λσ H zs=>(∃o:St,o.length=n∧σ=o++cp)∧aJ H1 H∧P H zs
section
variable{K:Frag}{H1:Hp}{cp:St}{g:TG}{tt:TT}{te:TE}{Q:VK}{xs ys:List V}{l1 l2 a:Addr}{b1 b2 b:Bool}{n own:Nat}{J:It}
theorem Bh(Pv:Nat→Hp→List V→Prop)(hn:n≤sizeLine)(h0:Pv 0 H1 [])(cU:∀i H zs,Pv i H zs→zs.length≤i)
  (OX:∀i H,aJ H1 H→i<n→J.go i H) (OY:∀H,aJ H1 H→J.stop n H)
  (step:∀i o H zs,i<n→o.length=own→aJ H1 H→Pv i H zs→∀x H2,J.oU i H x H2→g x (o++cp) H2 λσ3 H3=>tt σ3 H3 λc H4=>if c=true then te σ3 H4 λv H5=>pk own cp H1 (Pv (i+1)) σ3 H5 (zs++[v])else pk own cp H1 (Pv (i+1)) σ3 H4 zs)
  (done:∀H zs,aJ H1 H→Pv n H zs→∀p,H p=none→Q (.ref p) (upd H p (.lst zs))) :
  ∃W:Nat→Nat→St→Hp→List V→Prop,(∃m,W 0 m (List.replicate own none++cp) H1 [])∧ph J g tt te Q W:=by
 refine⟨λi m σ H zs=>m=n-i∧i≤n∧pk own cp H1 (Pv i) σ H zs,⟨n,by simp,Nat.zero_le _,⟨_,by simp,rfl⟩,.refl _,h0⟩,?_⟩;rintro i m σ H zs ⟨rfl,hi,⟨o,ho,rfl⟩,sm,pv⟩;have hl:=cU _ _ _ pv;by_cases dt:i<n
 ·exact .inr ⟨OX i H sm dt,by lia,pk own cp H1 (Pv (i+1)),λσ2 H2 jX q=>⟨n-(i+1),by lia,rfl,dt,q⟩,step i o H zs dt ho sm pv⟩
 ·have e:i=n:=by lia
  subst e;exact .inl ⟨OY H sm,by lia,done H zs sm pv⟩
theorem Bi{o:St}(h:o.length=1):∃x,o=[x]:=by
 match o,h with
 | [x],_=>exact⟨x,rfl⟩
theorem OZ{o:St}(h:o.length=2):∃x y,o=[x,y]:=by
 match o,h with
 | [x,y],_=>exact⟨x,y,rfl⟩
theorem mX(Pv:Nat→Hp→List V→Prop)(hq:cR K H1 a xs)(hz:xs.length≤sizeLine)(h0:Pv 0 H1 [])(cU:∀i H zs,Pv i H zs→zs.length≤i)
  (step:∀i x H zs,xs[i]?=some x→aJ H1 H→Pv i H zs→tt (some x::cp) H λc H4=>if c=true then te (some x::cp) H4 λv H5=>pk 1 cp H1 (Pv (i+1)) (some x::cp) H5 (zs++[v])else pk 1 cp H1 (Pv (i+1)) (some x::cp) H4 zs)
  (done:∀H zs,aJ H1 H→Pv xs.length H zs→∀p,H p=none→Q (.ref p) (upd H p (.lst zs))) :
  ∃W:Nat→Nat→St→Hp→List V→Prop,(∃m,W 0 m (List.replicate 1 none++cp) H1 [])∧ph (oV K a) (bo 0) tt te Q W:=by
 refine Bh (n:=xs.length) Pv hz h0 cU (λi H sm hi=>⟨xs,xs[i],sm.seq hq,by simp[hi]⟩) (λH sm=>⟨xs,sm.seq hq,bH _⟩) (λi o H zs hi ho sm pv x H2 y=>?_) done;obtain⟨w,rfl⟩:=Bi ho;obtain⟨rfl,y⟩:=y;exact step i x _ zs (y xs (sm.seq hq)) sm pv
theorem FZ{lo:Int}(Pv:Nat→Hp→List V→Prop)(hz:n≤sizeLine)(h0:Pv 0 H1 [])(cU:∀i H zs,Pv i H zs→zs.length≤i)
  (step:∀i H zs,i<n→aJ H1 H→Pv i H zs→tt (some (.int (lo+(i:Nat)))::cp) H λc H4=>if c=true then te (some (.int (lo+(i:Nat)))::cp) H4 λv H5=>pk 1 cp H1 (Pv (i+1)) (some (.int (lo+(i:Nat)))::cp) H5 (zs++[v])else pk 1 cp H1 (Pv (i+1)) (some (.int (lo+(i:Nat)))::cp) H4 zs)
  (done:∀H zs,aJ H1 H→Pv n H zs→∀p,H p=none→Q (.ref p) (upd H p (.lst zs))) :
  ∃W:Nat→Nat→St→Hp→List V→Prop,(∃m,W 0 m (List.replicate 1 none++cp) H1 [])∧ph (oW lo n) (bo 0) tt te Q W:=by
 refine Bh (n:=n) Pv hz h0 cU (λi H sm hi=>hi) (λH sm=>bH _) (λi o H zs hi ho sm pv x H2 y=>?_) done;obtain⟨w,rfl⟩:=Bi ho;obtain⟨rfl,rfl⟩:=y;exact step i _ zs hi sm pv
abbrev F0(K:Frag)(i j:Nat):TG:=Ar K 2 (ip (bo i) (ip (bo j) qb))
theorem Ga{p:Addr}{x y:V}{i j:Nat}{σ:St}{H:Hp}{R:St→Hp→Prop}(h:bQ K H p [x,y])(q:R ((σ.set i (some x)).set j (some y)) H):F0 K i j (.ref p) σ H R:=
 ⟨p,[x,y],rfl,h,rfl,x,[y],rfl,y,[],rfl,rfl,q⟩
end
section
variable{K:Frag}{a l1 l2:Addr}{xs ys:List V}{b b1 b2:Bool}{tb:TS}{D:Ends}{σ:St}{H:Hp}{i j:Nat}
end
theorem Gb(K:Frag):kitOne K (.type "int") (.type "int")=some true:=by kernel_rfl
theorem O0(K:Frag):kitOne K (.type "int") (.type "bool")=some false:=by kernel_rfl
theorem O1(K:Frag):kitOne K (.type "tuple") (.type "tuple")=some true:=by kernel_rfl
theorem Gd(K:Frag):kitOne K (.type "str") (.type "int")=some false:=by kernel_rfl
section
variable{X:Cx}
theorem O2{T:String}:eI X (.builtin "isinstance") (λxs H Q=>∃a ys b,xs=[.ref a,.ty T]∧bQ X.K H a ys∧kitOne X.K (.type "tuple") (.type T)=some b∧Q (.bl b) H):=by
 intro aF s σ H vs us Q I r h;obtain⟨a,ys,b,rfl,hq,e,q⟩:=h;obtain⟨u,v,rfl,ru,rv⟩:=vals2 r;cases ru;cases rv;obtain⟨its,rr,⟨o,h1,h2,_⟩,_⟩:=I.tuple hq;exact mf PySem.W.kitx_tuple I.eS ⟨o,h1,h2⟩ e (λz=>nomatch z) λtk=>⟨.bl b,H,I.tok tk,rfl,q⟩
theorem O3{T:String}:eI X (.builtin "isinstance") (λxs H Q=>∃i b,xs=[.int i,.ty T]∧kitOne X.K (.type "int") (.type T)=some b∧Q (.bl b) H):=by
 intro aF s σ H vs us Q I r h;obtain⟨i,b,rfl,e,q⟩:=h;exact Bg aF s σ H _ us Q I r ⟨.int i,_,b,rfl,.int i,e,q⟩
end
theorem O4(n:String):RelV (.ty n) (.type n):=rfl
theorem xY{X:Cx}{x:Str}{T:String}{pos:Pos}(hg:Gl X x)(hm:X.mg x=none)(hv:bootBuiltins x=some (.type T))(hn:x ≠ "__name__":=by decide)(hd:(x==("__debug__":Str))=false:=by decide):PE X (.Name x pos) (tC (.ty T)):=MI hg hm hv (O4 T) hn hd
noncomputable def sr:List Expr→Option (List Int)
 | []=>some []
 | .Constant (.int i) _ _::es=>(sr es).map (i::·)
 |_=>none
theorem Ge{X:Cx}:∀(es:List Expr)(ns:List Int),sr es=some ns→PA X es (λ_ H Q=>Q (ns.map V.int) H)
 | [],ns,h=>by
  cases h;exact aK
 | .Constant (.int i) j pos::es,ns,h=>by
  unfold sr at h;cases e:sr es with
  |none=>rw[e]at h;cases h
  |some ms=>
   rw[e]at h;have h':i::ms=ns:=eM h;subst h';exact aG aY (Ge es ms e) rfl
 | .Constant .none _ _::_,_,h=>by cases h
 | .Constant (.bool _) _ _::_,_,h=>by cases h
 | .Constant (.str _) _ _::_,_,h=>by cases h
 | .Constant (.bytes _) _ _::_,_,h=>by cases h
 | .Constant .ellipsis _ _::_,_,h=>by cases h
 | .Name ..::_,_,h=>by cases h
theorem Bj{K:Frag}{H:Hp}{a:Addr}{r:List Int}(h:bQ K H a (r.map V.int)):iD K H (.ref a) (jg r):=.tuple h (du.ints r)
theorem aJ.write{H H':Hp}{l:Addr}{o:HO}(sm:aJ H H')(h:H l=none):aJ H (L2.upd H' l o):=λb u e=>by rw[cC (fZ e h)];exact sm b u e
open Classical in
theorem Gf{d e:Dat}{A B:Prop}(h:d=e)(b:B):if(if true=true then !decide (d=e)else decide (d=e))=true then A else B:=by
 subst h;simp only[decide_true,Bool.not_true,if_true,Bool.false_eq_true,if_false];exact b
theorem O5(n:Nat)(ns:List Int):(ns.map Dat.int).all (kqdOk n)=true:=by
 rw[List.all_map];exact iK.mpr λ_ _=>by cases n<;>rfl
section
variable{X:Cx}(K:Frag)(hK:X.K=K)
include hK
theorem cH:uZ X (ff K):=hK▸NI
theorem fH:uZ X (Fh K):=hK▸NJ
theorem gu:sd X (jd K):=hK▸NM
theorem og:eI X (.builtin "len") (λxs H Q=>∃p ys,xs=[.ref p]∧(cR K H p ys∨bQ K H p ys)∧Q (.int ys.length) H):=hK▸NQ
theorem O6:eI X (.type "list") (λxs H Q=>∃p ys,xs=[.ref p]∧(cR K H p ys∨bQ K H p ys)∧∀l,H l=none→Q (.ref l) (upd H l (.lst ys))):=hK▸NR
theorem su:eI X (.type "tuple") (λxs H Q=>∃p ys,xs=[.ref p]∧((cR K H p ys∧∀l,H l=none→Q (.ref l) (upd H l (.tup ys)))∨(bQ K H p ys∧Q (.ref p) H))):=hK▸NT
theorem O7{T:String}:eI X (.builtin "isinstance") (λxs H Q=>∃a ys b,xs=[.ref a,.ty T]∧bQ K H a ys∧kitOne K (.type "tuple") (.type T)=some b∧Q (.bl b) H):=hK▸O2
theorem O8{T:String}:eI X (.builtin "isinstance") (λxs H Q=>∃i b,xs=[.int i,.ty T]∧kitOne K (.type "int") (.type T)=some b∧Q (.bl b) H):=hK▸O3
theorem pq(hc:X.calm=true):eI X (.builtin "sum") (λxs H Q=>∃p ns,xs=[.ref p]∧cR K H p (List.map V.int ns)∧Q (.int ns.sum) H):=hK▸OU hc
theorem O9(hu:X.A.units+64<cLine):eB X (compareOp .Eq) (pj K false):=hK▸OV hu
theorem qq(hu:X.A.units+64<cLine):eB X (compareOp .NotEq) (pj K true):=hK▸OW hu
theorem Gg:eB X (compareOp .In) (Fj K false):=hK▸NP
theorem gg{tg l:Expr}{tl:TE}(hl:PE X l tl):PI X tg l (qc K tl):=hK▸M5 hl
theorem Gh{tg l:Expr}{tl:TE}(hl:PE X l tl):PI X tg l (EH K tl):=hK▸M6 hl
theorem Gi{es:List Expr}{k:Nat}{t:mw}{n:Nat}{pos:Pos}(hc:X.calm=true)(h:rT X es t)
  (hn:(assignEach es X.env).length=n:=by rfl) (uO:(assignEach es X.env).findIdx? (·.1)=none:=by rfl):PG X (.Tuple es k pos) (Ar K n t):=hK▸MV hc h hn uO
end
theorem qr:bootBuiltins "tuple"=some (.type "tuple"):=by decide +kernel
theorem vd:bootBuiltins "list"=some (.type "list"):=by decide +kernel
theorem Bk:bootBuiltins "int"=some (.type "int"):=by decide +kernel
theorem Pa:bootBuiltins "str"=some (.type "str"):=by decide +kernel
theorem Pb:bootBuiltins "bool"=some (.type "bool"):=by decide +kernel
theorem Bl:bootBuiltins "range"=some (.type "range"):=by decide +kernel
theorem xZ:bootBuiltins "isinstance"=some (.builtin "isinstance"):=by decide +kernel
theorem pw:bootBuiltins "sum"=some (.builtin "sum"):=by decide +kernel
theorem oh:bootBuiltins "len"=some (.builtin "len"):=by decide +kernel
theorem ki{σ:St}{H:Hp}{Y N:Hp→Prop}(h:Y H):mK σ H (λc H4=>if c=true then Y H4 else N H4):=by
 show if true=true then Y H else N H
 exact eP h
end L2
namespace L2
open PySem
structure Gj(X:Cx)(es:List Expr)(ns:List Int):Prop where
 get:PA X es (λ_ H Q=>Q (ns.map V.int) H)
theorem Gk{X:Cx}{es:List Expr}{ns:List Int}(h:sr es=some ns):Gj X es ns:=⟨Ge es ns h⟩
def Bm(ns:List Int):TE:=bg (λ_ H Q=>Q (ns.map V.int) H)
theorem Gm{X:Cx}{es:List Expr}{ns:List Int}{pos:Pos}(h:Gj X es ns):PE X (.List es pos) (Bm ns):=bc h.get
end L2
namespace L2
open PySem PySem.Spec PyProof.Rows
section
variable{X:Cx}{pos:Pos}
def sv(K:Frag)(n:Nat)(t:mw):TG:=λv σ H Q=>∃a xs,v=.ref a∧cR K H a xs∧xs.length=n∧t xs σ H Q
theorem oi{es:List Expr}{k n:Nat}{t:mw}(hc:X.calm=true)(h:rT X es t)(hn:(assignEach es X.env).length=n:=by rfl)(uO:(assignEach es X.env).findIdx? (·.1)=none:=by rfl):PG X (.Tuple es k pos) (sv X.K n t):=by
 rintro aF s σ H v u Q I r ⟨a,xs,rfl,hq,hl,hw⟩;cases r;obtain⟨its,rv,pl,_⟩:=I.list hq;have sz:its.toArray.size=n:=by rw[dC,← rv.length,hl]
 rw[assign_Tuple];refine aq (wpAny_standAt ?_);unfold unpack;rw[uO,hn,← sz];refine aq (wpAny_holding (PySem.W.kun_itemsOf (I.ok.hd hc) pl.isList λh' ex=>?_));exact h aF _ σ H xs _ Q (I.kept (t':=s.toks) λb o e=>ex b o (kO (eW e)) e) (by simpa using rv) hw
end
theorem Gn(l b:Addr)(its jW:Array Value)(n n2:Nat)(dd xF:Option Addr)(sl rX:Array (Option Value))(he:its.isEmpty=true) :
  Meets (Builtin.«tuple.__add__» ⟨[.ref l,.ref b],[]⟩) (λ_ R s=>s.heap.get? l=some { cls:=.type "tuple",dict:=dd,data:=.seq its n,slots:=sl }∧s.heap.get? b=some { cls:=.type "tuple",dict:=xF,data:=.seq jW n2,slots:=rX }∧R (.ok (.ret (.ref b))) s):=
 .of_wp λ_ _ _ _ s h=>by
  obtain⟨hpA,gA,dA,tkA,osA⟩:=s;have Pc:=h.1;have Pd:=h.2.1;have f2:=AutoSeq1.sub_tuple_tuple;wp_walk using AutoSeq1.wpAny_loadPart' Pc,AutoSeq1.wpAny_loadPart' Pd
  exact⟨_,rfl,h.2.2⟩
def ve(K:Frag):R2:=λx y H Q=>∃a b xs ys,x=.ref a∧y=.ref b∧bQ K H a xs∧bQ K H b ys∧xs.length+ys.length≤sizeLine∧gK K H (xs++ys) Q
theorem Pe{X:Cx}:eB X (binaryOp .Add) (ve X.K):=by
 rintro aF s σ H x y v u Q I rx ry ⟨a,b,xs,ys,rfl,rfl,ha,hb,hz,q⟩;by_cases hx:xs=[]
 ·subst hx;cases rx;cases ry;obtain⟨its,r1,⟨⟨c1,d1,t1,s1⟩,o1,e1,n1,f1⟩,_⟩:=I.tuple ha;obtain⟨jW,r2,⟨⟨c2,d2,t2,s2⟩,o2,e2,n2,f2⟩,_⟩:=I.tuple hb;simp only at e1 f1 e2 f2;subst e1 f1 e2 f2;cases r1;refine concat_meets ⟨_,o1,rfl⟩ ⟨_,o2,rfl⟩ noFill_tuple_add seq_tuple_add PySem.F.slot_tuple_add PySem.F.entry_tuple_add (PySem.F.args_tuple_add_2 _ _) (Gn a b _ _ _ _ d1 d2 s1 s2 rfl) ⟨o1,o2,?_⟩;exact⟨.ref b,H,I,rfl,q.old hb⟩
 ·refine NF aF s σ H _ _ v u Q I rx ry ⟨a,b,xs,ys,rfl,rfl,ha,hb,hx,hz,λhy=>?_,λ_ p hp=>q.new hp⟩;subst hy;exact q.old (by rw[gJ];exact ha)
theorem x3{X:Cx}(K:Frag)(hK:X.K=K):eB X (binaryOp .Add) (ve K):=hK▸Pe
section
variable{X:Cx}
end
end L2
namespace Bw
variable{D L:LL}{f:Nat→Int}{h:List Int}{j n place:Nat}{ls:List Nat}{p:Int}{u v:Fn}
noncomputable def cK:List Int:=[2,3,5,7,11,13,17,19,23,29,31,37,41,43,47,53,59,61,67,71,73,79,83,89,97]
noncomputable def qt(p n:Int):Nat→Int
 |0=>1
 |k+1=>qt p n k*n%p
noncomputable def cJ(p n:Int):Int:=qt p n (p-2).toNat
noncomputable def Gp(p n:Int):Bool:=decide (1≤cJ p n)&&decide (cJ p n<p)&&decide (cJ p n*n%p=1)
theorem Pf:(cK.all λp=>(List.range p.toNat).all λn=>n==0||Gp p n)=true:=by decide +kernel
theorem fK:∀p∈cK,2≤p∧p≤97:=by decide +kernel
theorem sx{n:Int}(hp:p∈cK)(h1:1≤n)(h2:n<p):1≤cJ p n∧cJ p n<p∧cJ p n*n%p=1:=by
 have h:=iK.mp Pf p hp;have h':=iK.mp h n.toNat (List.mem_range.mpr (by lia));have en:((n.toNat:Nat):Int)=n:=by lia
 have n0:(n.toNat==0)=false:=by simp;lia
 rw[n0,Bool.false_or,en]at h';unfold Gp at h';simp only[ay,fq]at h';exact⟨h'.1.1,h'.1.2,h'.2⟩
theorem Pg{n:Int}(hp:2≤p):∀k,0≤qt p n k∧qt p n k<p
 |0=>by unfold qt;lia
 |k+1=>by
  unfold qt;exact⟨i6 _ (by lia),i7 _ (by lia)⟩
noncomputable def ia(p:Int)(row:List Int)(f:Int)(other:List Int):List Int:=List.zipWith (λa b=>(a+f*b)%p) row other
noncomputable def sy(p:Int):List (List Int×Int)→List Int→List Int
 | [],t=>t
 |(r,f)::L,t=>sy p L (ia p t f r)
noncomputable def qu(L:List (List Int×Int))(j:Nat):Int:=(L.map λq=>q.1.getD j 0*q.2).sum
theorem Ph(r:List Int)(f:Int)(L:List (List Int×Int))(j:Nat):qu ((r,f)::L) j=r.getD j 0*f+qu L j:=by simp[qu]
theorem Pj{f:Int}{r:List Int}(c:Nat→Int)(hr:r.length=n):ia p ((List.range n).map λj=>c j%p) f r=(List.range n).map λj=>(c j+r.getD j 0*f)%p:=by
 apply List.ext_getElem
 ·simp[ia,hr]
 ·intro i h1 h2;have hi:i<r.length:=by simp[ia,hr]at h1;lia
  simp only[ia,List.getElem_zipWith,List.getElem_map,List.getElem_range];rw[dP,cg hi,Option.getD_some,Int.mul_comm f,Int.emod_add_emod]
theorem Gq{p:Int}{n:Nat}:∀(L:List (List Int×Int))(c:Nat→Int),(∀q∈L,q.1.length=n)→sy p L ((List.range n).map λj=>c j%p)=(List.range n).map λj=>(c j+qu L j)%p
 | [],c,_=>by simp[sy,qu]
 |(r,f)::L,c,h=>by
  rw[sy,Pj c (h (r,f) dv),Gq L (λj=>c j+r.getD j 0*f) λq hq=>h q (eR _ hq)];apply xj;intro j _;rw[Ph,Int.add_assoc]
theorem Gr(L:List (List Int×Int))(h:∀q∈L,q.1.length=n):sy p L (List.replicate n 0)=(List.range n).map λj=>qu L j%p:=by
 have e:List.replicate n (0:Int)=(List.range n).map λj=>(λ_=>(0:Int)) j%p:=by
  apply List.ext_getElem
  ·simp
  ·intro i _ _;simp
 rw[e,Gq L (λ_=>0) h];apply xj;intro j _;rw[jO]
abbrev Fn:=Nat→Int
def kj(p:Int)(u v:Fn):Prop:=∀j,p∣u j-v j
theorem lE(p a:Int):p∣a%p-a:=⟨-(a/p),by
 have:=Int.emod_add_mul_ediv a p
 rw[Int.mul_neg];lia⟩
theorem kj.trans{w:Fn}(h:kj p u v)(k:kj p v w):kj p u w:=λj=>by
 have:=Int.dvd_add (h j) (k j)
 rwa[show u j-v j+(v j-w j)=u j-w j by lia]at this
inductive Sp(p:Int)(R:Fn→Prop):Fn→Prop
 |zero:Sp p R (λ_=>0)
 |add {v r:Fn} (c:Int):Sp p R v→R r→Sp p R (λj=>v j+c*r j)
 |iE {u v:Fn}:Sp p R v→kj p v u→Sp p R u
section
variable{p:Int}{R R':Fn→Prop}
theorem Sp.of_eq(h:Sp p R v)(e:∀j,v j=u j):Sp p R u:=.iE h λj=>⟨0,by rw[e j];lia⟩
theorem Sp.mem{r:Fn}(h:R r):Sp p R r:=(Sp.add 1 .zero h).of_eq λj=>by lia
theorem Sp.plus(c:Int)(hu:Sp p R u)(hv:Sp p R v):Sp p R (λj=>u j+c*v j):=by
 induction hv with
 |zero=>exact hu.of_eq λj=>by simp
 | @add v r d _ hr ih=>exact(Sp.add (c*d) ih hr).of_eq λj=>by rw[Int.mul_add,← Int.add_assoc,Int.mul_assoc]
 | @iE w v _ e ih=>
  refine .iE ih λj=>?_
  have:p∣c*(v j-w j):=Int.dvd_mul_of_dvd_right (e j)
  rw[oK]at this;rwa[show u j+c*v j-(u j+c*w j)=c*v j-c*w j by lia]
theorem Sp.trans(h:∀r,R r→Sp p R' r)(hv:Sp p R v):Sp p R' v:=by
 induction hv with
 |zero=>exact .zero
 |add c _ hr ih=>exact ih.plus c (h _ hr)
 |iE _ e ih=>exact .iE ih e
end
noncomputable def fn(r:List Int):Fn:=λj=>r.getD j 0
def RS(L:LL):Fn→Prop:=λf=>∃r∈L,f=fn r
def Rw(p:Int)(n:Nat)(r:List Int):Prop:=r.length=n∧∀x∈r,0≤x∧x<p
def d6(p:Int)(n:Nat)(L:LL):Prop:=∀r∈L,Rw p n r
theorem Rw.at{r:List Int}(hp:0<p)(h:Rw p n r)(j:Nat):0≤r.getD j 0∧r.getD j 0<p:=by
 rw[dP (i:=j)];by_cases hj:j<r.length
 ·rw[cg hj];exact h.2 _ (kQ hj)
 ·rw[kc (by lia)];exact⟨Int.le_refl 0,hp⟩
theorem Rw.out{r:List Int}(h:Rw p n r)(hj:n≤j):r.getD j 0=0:=by
 rw[dP,kc (by rw[h.1];exact hj)];rfl
theorem Gs{a b:Int}(h:p∣a-b)(a0:0≤a)(a1:a<p)(b0:0≤b)(b1:b<p):a=b:=by
 obtain⟨c,hc⟩:=h
 have:c=0:=by
  rcases Int.lt_trichotomy c 0 with h|h|h
  ·have:=Ek (show c≤-1 by lia) (show 0≤p by lia)
   lia
  ·exact h
  ·have:=Ek (show 1≤c by lia) (show 0≤p by lia)
   lia
 rw[this]at hc;lia
theorem Rw.ext{r s:List Int}(hp:0<p)(hr:Rw p n r)(hs:Rw p n s)(h:∀j,p∣r.getD j 0-s.getD j 0):r=s:=by
 apply List.ext_getElem (by rw[hr.1,hs.1]);intro i h1 h2
 have:=Gs (h i) (hr.at hp i).1 (hr.at hp i).2 (hs.at hp i).1 (hs.at hp i).2
 simpa[dP,h1,h2]using this
theorem vf{r o:List Int}(f:Int)(hr:r.length=n)(ho:o.length=n)(j:Nat):(ia p r f o).getD j 0=if j<n then(r.getD j 0+f*o.getD j 0)%p else 0:=by
 by_cases hj:j<n
 ·rw[af hj];have h1:j<r.length:=by lia
  have h2:j<o.length:=by lia
  have h3:j<(ia p r f o).length:=by simp[ia];lia
  rw[dP,cg h3,dP,cg h1,dP,cg h2];simp[ia]
 ·rw[ag hj,dP,kc (by simp[ia];lia)];rfl
theorem vg{r o:List Int}(f:Int)(hp:0<p)(hr:r.length=n)(ho:o.length=n):Rw p n (ia p r f o):=by
 refine⟨by simp[ia];lia,λx hx=>?_⟩;obtain⟨i,hi,rfl⟩:=rC.mp hx;simp only[ia,List.getElem_zipWith];exact⟨i6 _ (show p≠0 by lia),i7 _ hp⟩
theorem Gu{r o:List Int}(f:Int)(hr:r.length=n)(ho:o.length=n):kj p (λj=>fn r j+f*fn o j) (fn (ia p r f o)):=λj=>by
 show p∣r.getD j 0+f*o.getD j 0-(ia p r f o).getD j 0;rw[vf f hr ho];by_cases hj:j<n
 ·rw[af hj]
  have:=Int.dvd_neg.mpr (lE p (r.getD j 0+f*o.getD j 0))
  rwa[show -((r.getD j 0+f*o.getD j 0)%p-(r.getD j 0+f*o.getD j 0))=r.getD j 0+f*o.getD j 0-(r.getD j 0+f*o.getD j 0)%p by lia]at this
 ·rw[ag hj];have e1:r.getD j 0=0:=by rw[dP,kc (by lia)];rfl
  have e2:o.getD j 0=0:=by rw[dP,kc (by lia)];rfl
  rw[e1,e2];exact⟨0,by simp⟩
noncomputable def eD(p:Int)(lead:List Int)(place:Nat)(row:List Int):List Int:=if row.getD place 0≠0 then ia p row (-(row.getD place 0)) lead else row
section
variable{p:Int}{n place:Nat}{lead row:List Int}
theorem Gv(hp:0<p)(hl:Rw p n lead)(hr:Rw p n row):Rw p n (eD p lead place row):=by
 unfold eD;split
 ·exact vg _ hp hr.1 hl.1
 ·exact hr
theorem Gw(hl:Rw p n lead)(hr:Rw p n row):kj p (λj=>fn row j + -(row.getD place 0)*fn lead j) (fn (eD p lead place row)):=by
 unfold eD;split
 ·exact Gu _ hr.1 hl.1
 ·rename_i h
  have h0:row.getD place 0=0:=by simpa using h
  rw[h0];intro j;exact⟨0,by simp⟩
theorem x4(hl:Rw p n lead)(hr:Rw p n row)(hj:lead.getD j 0=0)(hp:0<p):(eD p lead place row).getD j 0=row.getD j 0:=by
 unfold eD;split
 ·rw[vf _ hr.1 hl.1,hj,Int.mul_zero,pY];by_cases h:j<n
  ·rw[af h];exact Int.emod_eq_of_lt (hr.at hp j).1 (hr.at hp j).2
  ·rw[ag h,hr.out (by lia)]
 ·rfl
theorem Gx(hl:Rw p n lead)(hr:Rw p n row)(h1:lead.getD place 0=1):(eD p lead place row).getD place 0=0:=by
 unfold eD;split
 ·rw[vf _ hr.1 hl.1,h1];split
  ·rw[Int.mul_one,show row.getD place 0 + -(row.getD place 0)=0 by lia];exact Int.zero_emod p
  ·rfl
 ·rename_i h
  simpa using h
end
noncomputable def dG(p:Int)(n:Nat)(h:List Int)(place:Nat):List Int:=sy p [(h,cJ p (h.getD place 0))] (List.replicate n 0)
noncomputable def x5(p:Int)(n:Nat)(st:LL×LL)(place:Nat):LL×LL:=
 match st.2.filter λr=>r.getD place 0≠0 with
 | []=>st
 |h::_=>(st.1.map (eD p (dG p n h place) place)++[dG p n h place],st.2.map (eD p (dG p n h place) place))
noncomputable def jY(p:Int)(n:Nat)(L:LL):Nat→LL×LL
 |0=>([],L)
 |k+1=>x5 p n (jY p n L k) k
noncomputable def sH(L:LL):Nat:=(L.head?.map List.length).getD 0
noncomputable def jh(p:Int)(L:LL):LL:=(jY p (sH L) L (sH L)).1
structure ji(n k:Nat)(D:LL)(ls:List Nat):Prop where
 len:ls.length=D.length
 up:ls.Pairwise (· < ·)
 lt:∀l∈ls,l<k
 one:∀(i:Nat)(r:List Int)(l:Nat),D[i]?=some r→ls[i]?=some l→r.getD l 0=1∧∀j,j<l→r.getD j 0=0
 alone:∀(i i':Nat)(r:List Int)(l:Nat),i≠i'→D[i']?=some r→ls[i]?=some l→r.getD l 0=0
theorem vh(hh:Rw p n h)(j:Nat):(dG p n h place).getD j 0=if j<n then h.getD j 0*cJ p (h.getD place 0)%p else 0:=by
 unfold dG;rw[Gr _ (λq hq=>by rw[cX.mp hq];exact hh.1)];by_cases hj:j<n
 ·rw[af hj];simp[dP,hj,qu]
 ·rw[ag hj];simp[dP,hj]
theorem x6(hp:0<p)(hh:Rw p n h):Rw p n (dG p n h place):=by
 unfold dG;rw[Gr _ (λq hq=>by rw[cX.mp hq];exact hh.1)];refine⟨by simp,λx hx=>?_⟩;obtain⟨j,_,rfl⟩:=dN.mp hx;exact⟨i6 _ (show p≠0 by lia),i7 _ hp⟩
theorem Gy(hh:Rw p n h):kj p (λj=>cJ p (h.getD place 0)*fn h j) (fn (dG p n h place)):=λj=>by
 show p∣cJ p (h.getD place 0)*h.getD j 0-(dG p n h place).getD j 0;rw[vh hh,Int.mul_comm];by_cases hj:j<n
 ·rw[af hj]
  have:=Int.dvd_neg.mpr (lE p (h.getD j 0*cJ p (h.getD place 0)))
  rwa[show -(h.getD j 0*cJ p (h.getD place 0)%p-h.getD j 0*cJ p (h.getD place 0))=h.getD j 0*cJ p (h.getD place 0)-h.getD j 0*cJ p (h.getD place 0)%p by lia]at this
 ·rw[ag hj,hh.out (by lia)];exact⟨0,by simp⟩
structure ib(p:Int)(n:Nat)(L:LL)(k:Nat)(st:LL×LL):Prop where
 d:d6 p n st.1
 r:d6 p n st.2
 z:∀r∈st.2,∀j,j<k→r.getD j 0=0
 oj:∃ls,ji n k st.1 ls
 sub:∀r∈st.1++st.2,Sp p (RS L) (fn r)
 sup:∀r∈L,Sp p (RS (st.1++st.2)) (fn r)
theorem Gz{k:Nat}{st:LL×LL}(hp:p∈cK)(hk:k+1≤n)(I:ib p n L k st):ib p n L (k+1) (x5 p n st k):=by
  have p0:0<p:=by have:=fK p hp;lia
  obtain⟨D,T⟩:=st;unfold x5;dsimp only;cases hf:T.filter λr=>r.getD k 0≠0 with
  |nil=>
   dsimp only;obtain⟨ls,E⟩:=I.oj;refine⟨I.d,I.r,λr hr j hj=>?_,⟨ls,E.len,E.up,λl hl=>Nat.lt_succ_of_lt (E.lt l hl),E.one,E.alone⟩,I.sub,I.sup⟩;by_cases x8:j<k
   ·exact I.z r hr j x8
   ·have ej:j=k:=by lia
    subst ej;by_cases h0:r.getD j 0=0
    ·exact h0
    ·have:r∈T.filter λr=>r.getD j 0≠0:=rA.mpr ⟨hr,by simpa using h0⟩
     rw[hf]at this;cases this
  |cons h cQ=>
   dsimp only;have hm:h∈T.filter λr=>r.getD k 0≠0:=by rw[hf];exact dv
   obtain⟨hT,Pk⟩:=rA.mp hm;have ach:h.getD k 0≠0:=by simpa using Pk
   have hh:=I.r h hT;have iR:Rw p n (dG p n h k):=x6 p0 hh;have hb:=hh.at p0 k;obtain⟨t1,t2,t3⟩:=sx hp (show 1≤h.getD k 0 by lia) hb.2;have l1:(dG p n h k).getD k 0=1:=by rw[vh hh,af (by lia),Int.mul_comm];exact t3
   have l0:∀j,j<k→(dG p n h k).getD j 0=0:=λj hj=>by
    rw[vh hh,I.z h hT j hj,Int.zero_mul];split
    ·exact Int.zero_emod p
    ·rfl
   have GD:∀{Q:Fn→Prop},Sp p Q (fn h)→Sp p Q (fn (dG p n h k)):=λq=>.iE (((Sp.zero).plus (cJ p (h.getD k 0)) q).of_eq λj=>by rw[jO]) (Gy hh);have Pl:∀{Q:Fn→Prop},Sp p Q (fn (dG p n h k))→Sp p Q (fn h):=λ{Q} q=>by
    refine .iE (((Sp.zero).plus (h.getD k 0) q)) λj=>?_;rw[jO];show p∣h.getD k 0*(dG p n h k).getD j 0-h.getD j 0;have a:=Gy (place:=k) hh j;have a':p∣h.getD k 0*(cJ p (h.getD k 0)*fn h j-fn (dG p n h k) j):=Int.dvd_mul_of_dvd_right a;rw[oK]at a';have t4:p∣cJ p (h.getD k 0)*h.getD k 0-1:=by
     have z:=Int.dvd_neg.mpr (lE p (cJ p (h.getD k 0)*h.getD k 0));rw[t3]at z;rwa[show -(1-cJ p (h.getD k 0)*h.getD k 0)=cJ p (h.getD k 0)*h.getD k 0-1 by lia]at z
    have b:p∣h.getD j 0*(cJ p (h.getD k 0)*h.getD k 0-1):=Int.dvd_mul_of_dvd_right t4;have c:=Int.dvd_sub b a';have e:h.getD j 0*(cJ p (h.getD k 0)*h.getD k 0-1)-(h.getD k 0*(cJ p (h.getD k 0)*fn h j)-h.getD k 0*fn (dG p n h k) j)=h.getD k 0*(dG p n h k).getD j 0-h.getD j 0:=by
     show h.getD j 0*(cJ p (h.getD k 0)*h.getD k 0-1)-(h.getD k 0*(cJ p (h.getD k 0)*h.getD j 0)-h.getD k 0*(dG p n h k).getD j 0)=_;rw[oK,Int.mul_one,Int.mul_left_comm (h.getD k 0),Int.mul_comm (h.getD j 0) (cJ p (h.getD k 0)*h.getD k 0),Int.mul_assoc];lia
    rwa[e]at c
   generalize dG p n h k=lead at iR l1 l0 GD Pl ⊢;obtain⟨ls,E⟩:=I.oj;have x9:ls.length=D.length:=E.len;have hD:∀r∈D,Rw p n r:=I.d;have vi:∀r∈T,Rw p n r:=I.r;have spT:Sp p (RS L) (fn h):=I.sub h (fY _ hT);have Bn:=GD spT;have ir:∀{Q:Fn→Prop}{r:List Int},Rw p n r→Sp p Q (fn r)→Sp p Q (fn lead)→Sp p Q (fn (eD p lead k r)):=λhr a b=>.iE (a.plus _ b) (Gw iR hr);have GH:∀{Q:Fn→Prop}{r:List Int},Rw p n r→Sp p Q (fn (eD p lead k r))→Sp p Q (fn lead)→Sp p Q (fn r):=λ{Q r} hr a b=>by
    refine .iE (a.plus (r.getD k 0) b) λj=>?_;have q:=(Gw (place:=k) iR hr j);have q':=Int.dvd_neg.mpr q;rwa[show -(fn r j + -(r.getD k 0)*fn lead j-fn (eD p lead k r) j)=fn (eD p lead k r) j+r.getD k 0*fn lead j-fn r j by rw[Int.neg_mul];lia]at q'
   refine⟨λr hr=>?_,λr hr=>?_,λr hr j hj=>?_,⟨ls++[k],?_,?_,?_,?_,?_⟩,λr hr=>?_,λr hr=>?_⟩
   ·rcases(dM.mp hr)with(hr|hr)
    ·obtain⟨r0,h0,rfl⟩:=dN.mp hr;exact Gv p0 iR (hD r0 h0)
    ·rw[cX.mp hr];exact iR
   ·obtain⟨r0,h0,rfl⟩:=dN.mp hr;exact Gv p0 iR (vi r0 h0)
   ·obtain⟨r0,h0,rfl⟩:=dN.mp hr;by_cases x8:j<k
    ·rw[x4 iR (vi r0 h0) (l0 j x8) p0];exact I.z r0 h0 j x8
    ·have ej:j=k:=by lia
     subst ej;exact Gx iR (vi r0 h0) l1
   ·simp[E.len]
   ·refine List.pairwise_append.mpr ⟨E.up,by simp,λa ha b hb=>?_⟩;rw[cX.mp hb];exact E.lt a ha
   ·intro l hl;rcases(dM.mp hl)with(hl|hl)
    ·exact Nat.lt_succ_of_lt (E.lt l hl)
    ·rw[cX.mp hl];exact Nat.lt_succ_self k
   ·intro i r l hr hl;by_cases hi:i<D.length
    ·rw[iA (by simpa using hi),fj,cg hi]at hr;rw[iA (by rw[x9];exact hi)]at hl;cases hr;have ya:l<k:=E.lt l (d8 hl);obtain⟨o1,o2⟩:=E.one i _ l (cg hi) hl;have rD:=hD _ (kQ hi);refine⟨by rw[x4 iR rD (l0 l ya) p0];exact o1,λj hj=>?_⟩;rw[x4 iR rD (l0 j (by lia)) p0];exact o2 j hj
    ·rw[i5 (by simpa using hi),br]at hr;rw[i5 (by lia),x9]at hl;have e0:i-D.length=0:=by
      have:=(dB.mp hr).1
      simp at this;lia
     rw[e0]at hr hl;simp at hr hl;subst hr hl;exact⟨l1,l0⟩
   ·intro i i' r l fg hr hl;by_cases hi:i<ls.length
    ·rw[iA hi]at hl;have ya:l<k:=E.lt l (d8 hl);by_cases gM:i'<D.length
     ·rw[iA (by simpa using gM),fj,cg gM]at hr;cases hr;rw[x4 iR (hD _ (kQ gM)) (l0 l ya) p0];exact E.alone i i' _ l fg (cg gM) hl
     ·rw[i5 (by simpa using gM),br]at hr;have e0:i' - D.length=0:=by
       have:=(dB.mp hr).1
       simp at this;lia
      rw[e0]at hr;simp at hr;subst hr;exact l0 l ya
    ·rw[i5 (by lia)]at hl;have e0:i-ls.length=0:=by
      have:=(dB.mp hl).1
      simp at this;lia
     rw[e0]at hl;simp at hl;subst hl;by_cases gM:i'<D.length
     ·rw[iA (by simpa using gM),fj,cg gM]at hr;cases hr;exact Gx iR (hD _ (kQ gM)) l1
     ·rw[i5 (by simpa using gM),br]at hr;have e1:i' - D.length=0:=by
       have:=(dB.mp hr).1
       simp at this;lia
      lia
   ·rcases(dM.mp hr)with(hr|hr)
    ·rcases(dM.mp hr)with(hr|hr)
     ·obtain⟨r0,h0,rfl⟩:=dN.mp hr;exact ir (hD r0 h0) (I.sub r0 (jM _ h0)) Bn
     ·rw[cX.mp hr];exact Bn
    ·obtain⟨r0,h0,rfl⟩:=dN.mp hr;exact ir (vi r0 h0) (I.sub r0 (fY _ h0)) Bn
   ·refine Sp.trans (λf hf=>?_) (I.sup r hr);obtain⟨r0,h0,rfl⟩:=hf;have sI:Sp p (RS (D.map (eD p lead k)++[lead]++T.map (eD p lead k))) (fn lead):=.mem ⟨lead,by simp,rfl⟩;rcases(dM.mp h0)with(h0|h0)
    ·exact GH (hD r0 h0) (.mem ⟨_,by simp;exact .inl ⟨r0,h0,rfl⟩,rfl⟩) sI
    ·exact GH (vi r0 h0) (.mem ⟨_,by simp;exact .inr (.inr ⟨r0,h0,rfl⟩),rfl⟩) sI
theorem GK{p:Int}{n:Nat}{L:LL}(hp:p∈cK)(hL:d6 p n L):∀k,k≤n→ib p n L k (jY p n L k)
 |0,_=>⟨λr hr=>absurd hr (by simp[jY]),by simpa[jY]using hL,λr _ j hj=>absurd hj (by lia),⟨[],by simp[jY],.nil,by simp,by simp[jY],by simp⟩,
   λr hr=>.mem ⟨r,by simpa[jY]using hr,rfl⟩,λr hr=>.mem ⟨r,by simpa[jY]using hr,rfl⟩⟩
 |k+1,hk=>Gz hp hk (GK hp hL k (by lia))
noncomputable def Sg(f:Nat→Int):Nat→Int
 |0=>0
 |n+1=>Sg f n+f n
theorem GN(h:∀i,i<n→f i=0):Sg f n=0:=by
 induction n with
 |zero=>rfl
 |succ n ih=>rw[Sg,ih λi hi=>h i (by lia),h n (by lia)];rfl
theorem Pm(f g:Nat→Int)(n:Nat):Sg (λi=>f i+g i) n=Sg f n+Sg g n:=by
 induction n with
 |zero=>rfl
 |succ n ih=>rw[Sg,ih,Sg,Sg];lia
theorem yd(h:∀i,i<n→p∣f i):p∣Sg f n:=by
 induction n with
 |zero=>exact⟨0,by simp[Sg]⟩
 |succ n ih=>rw[Sg];exact Int.dvd_add (ih λi hi=>h i (by lia)) (h n (by lia))
theorem Bo{l:Nat}(hl:l<n):Sg f n=f l+Sg (λi=>if i=l then 0 else f i) n:=by
 induction n with
 |zero=>lia
 |succ n ih=>
  by_cases h:l=n
  ·subst h;rw[Sg,Sg,af rfl];have e:Sg (λi=>if i=l then 0 else f i) l=Sg f l:=by
    have:∀m,m≤l→Sg (λi=>if i=l then 0 else f i) m=Sg f m:=by
     intro m;induction m with
     |zero=>intro _;rfl
     |succ m ih=>intro hm;rw[Sg,Sg,ih (by lia),ag (by lia)]
    exact this l (bH l)
   rw[e];lia
  ·rw[Sg,Sg,ih (by lia),ag (λz=>h z.symm)];lia
def ES(n:Nat)(e:Nat→Option (List Int)):Fn→Prop:=λf=>∃l r,l<n∧e l=some r∧f=fn r
noncomputable def dH(e:Nat→Option (List Int))(l j:Nat):Int:=match e l with|some r=>r.getD j 0|none=>0
theorem ES.coeff{e:Nat→Option (List Int)}(h:Sp p (ES n e) v):∃c:Nat→Int,kj p (λj=>Sg (λl=>c l*dH e l j) n) v:=by
 induction h with
 |zero=>exact⟨λ_=>0,λj=>⟨0,by simp[GN]⟩⟩
 | @add v r d _ hr ih=>
  obtain⟨c,hc⟩:=ih;obtain⟨l,row,hl,he,rfl⟩:=hr;refine⟨λi=>c i+if i=l then d else 0,λj=>?_⟩
  have e1:Sg (λi=>(c i+if i=l then d else 0)*dH e i j) n=Sg (λi=>c i*dH e i j) n+d*fn row j:=by
   have e2:(λi=>(c i+if i=l then d else 0)*dH e i j)=λi=>c i*dH e i j+(if i=l then d*fn row j else 0):=by
    funext i
    by_cases hi:i=l
    ·subst hi;rw[af rfl,af rfl,Int.add_mul]
     congr 1
     simp[dH,he,fn]
    ·rw[ag hi,ag hi,pY,pY]
   rw[e2,Pm]
   congr 1
   rw[Bo hl,af rfl,GN λi _=>by by_cases hi:i=l<;>simp[hi]]
   lia
  show p∣Sg (λi=>(c i+if i=l then d else 0)*dH e i j) n-(v j+d*fn row j)
  rw[e1,show Sg (λi=>c i*dH e i j) n+d*fn row j-(v j+d*fn row j)=Sg (λi=>c i*dH e i j) n-v j by lia];exact hc j
 |iE _ q ih=>
  obtain⟨c,hc⟩:=ih;exact⟨c,hc.trans q⟩
structure Bp(n:Nat)(e:Nat→Option (List Int)):Prop where
 one:∀l r,e l=some r→l<n→r.getD l 0=1∧∀j,j<l→r.getD j 0=0
theorem Bp.zero{p:Int}{n:Nat}{e:Nat→Option (List Int)}{v:Fn}(E:Bp n e)(h:Sp p (ES n e) v)(hz:∀l r,l<n→e l=some r→p∣v l):∀j,p∣v j:=by
 obtain⟨c,hc⟩:=ES.coeff h;have all:∀m,m≤n→∀l,l<m→∀j,p∣c l*dH e l j:=by
  intro m;induction m with
  |zero=>intro _ l hl;lia
  |succ m ih=>
   intro hm l hl j;by_cases om:l<m
   ·exact ih (by lia) l om j
   ·have el:l=m:=by lia
    subst el;cases hr:e l with
    |none=>exact⟨0,by simp[dH,hr]⟩
    |some r=>
     obtain⟨o1,o2⟩:=E.one l r hr (by lia);have s:=hc l;dsimp only at s;rw[Bo (show l<n by lia)]at s;have cQ:p∣Sg (λi=>if i=l then 0 else c i*dH e i l) n:=yd λi hi=>by
      by_cases h1:i=l
      ·rw[af h1];exact⟨0,by simp⟩
      ·rw[ag h1];by_cases h2:i<l
       ·exact ih (by lia) i h2 l
       ·cases mY:e i with
        |none=>exact⟨0,by simp[dH,mY]⟩
        |some r2=>
         have:=(E.one i r2 mY hi).2 l (by lia)
         refine⟨0,?_⟩;simp only[dH,mY,this,Int.mul_zero]
     have e1:dH e l l=1:=by simp only[dH,hr];exact o1
     rw[e1,Int.mul_one]at s;have k:=Int.dvd_add (Int.dvd_sub s cQ) (hz l r (by lia) hr);rw[show c l+Sg (λi=>if i=l then 0 else c i*dH e i l) n-v l-Sg (λi=>if i=l then 0 else c i*dH e i l) n+v l=c l by lia]at k
     exact Int.dvd_mul_of_dvd_left k
 intro j;have s:=hc j;dsimp only at s;have t:p∣Sg (λl=>c l*dH e l j) n:=yd λi hi=>all n (bH n) i hi j;have k:=Int.dvd_sub t s;rwa[show Sg (λl=>c l*dH e l j) n-(Sg (λl=>c l*dH e l j) n-v j)=v j by lia]at k
theorem GO{r:List Int}(h:Rw p n r)(hz:∀j,j<n→r.getD j 0=0)(j:Nat):fn r j=0:=by
 by_cases hj:j<n
 ·exact hz j hj
 ·exact h.out (by lia)
noncomputable def gy:LL→List Nat→Nat→Option (List Int)
 |r::D,l::ls,i=>if i=l then some r else gy D ls i
 |_,_,_=>none
theorem vj:∀{D:LL}{ls:List Nat}{l:Nat}{r:List Int},gy D ls l=some r→∃(i:Nat),D[i]?=some r∧ls[i]?=some l
 | [],_,_,_,h=>by simp[gy]at h
 |_::_,[],_,_,h=>by simp[gy]at h
 |q::D,m::ls,l,r,h=>by
  rw[gy]at h;by_cases e:l=m
  ·rw[af e]at h;cases h;exact⟨0,rfl,by rw[e];rfl⟩
  ·rw[ag e]at h;obtain⟨i,h1,h2⟩:=vj h;exact⟨i+1,by simpa using h1,by simpa using h2⟩
theorem GQ:∀{D:LL}{ls:List Nat}{i l:Nat}{r:List Int},ls.Pairwise (· < ·)→D[i]?=some r→ls[i]?=some l→gy D ls l=some r
 | [],_,_,_,_,_,h,_=>by simp at h
 |_::_,[],_,_,_,_,_,h=>by simp at h
 |q::D,m::ls,0,l,r,_,h1,h2=>by simp at h1 h2;subst h1 h2;simp[gy]
 |q::D,m::ls,i+1,l,r,hp,h1,h2=>by
  have hl:ls[i]?=some l:=by simpa using h2
  have:m<l:=(List.pairwise_cons.mp hp).1 l (d8 hl)
  rw[gy,ag (by lia)];exact GQ (List.pairwise_cons.mp hp).2 (by simpa using h1) hl
theorem ji.lead{k:Nat}(E:ji n k D ls):Bp k (gy D ls):=⟨λl r h _=>by
 obtain⟨i,h1,h2⟩:=vj h;exact E.one i r l h1 h2⟩
theorem ji.sp{k:Nat}(E:ji n k D ls)(h:Sp p (RS D) v):Sp p (ES k (gy D ls)) v:=h.trans λf hf=>by
 obtain⟨r,hr,rfl⟩:=hf;obtain⟨i,hi,rfl⟩:=rC.mp hr;have hl:i<ls.length:=by rw[E.len];exact hi
 exact .mem ⟨ls[i],D[i],E.lt _ (kQ hl),GQ E.up (cg hi) (cg hl),rfl⟩
structure Pn(p:Int)(n:Nat)(L D:LL):Prop where
 rws:d6 p n D
 oj:∃ls,ji n n D ls
 sub:∀r∈D,Sp p (RS L) (fn r)
 sup:∀r∈L,Sp p (RS D) (fn r)
theorem Po(h:d6 p n L)(fg:L≠[]):sH L=n:=by
 cases L with
 |nil=>exact absurd rfl fg
 |cons r L=>exact(h r dv).1
theorem Bq(hp:p∈cK)(hL:d6 p n L):Pn p n L (jh p L):=by
 by_cases fg:L=[]
 ·subst fg;exact⟨λr hr=>absurd hr (by simp[jh,sH,jY]),⟨[],by simp[jh,sH,jY],.nil,by simp,by simp,by simp⟩,λr hr=>absurd hr (by simp[jh,sH,jY]),λr hr=>absurd hr (by simp)⟩
 ·unfold jh;rw[Po hL fg];have I:=GK hp hL n (bH n);generalize jY p n L n=st at I;refine⟨I.d,I.oj,λr hr=>I.sub r (jM _ hr),λr hr=>(I.sup r hr).trans λf hf=>?_⟩;obtain⟨r0,h0,rfl⟩:=hf;rcases(dM.mp h0)with(h0|h0)
  ·exact .mem ⟨r0,h0,rfl⟩
  ·exact(Sp.zero).of_eq λj=>(GO (I.r r0 h0) (I.z r0 h0) j).symm
theorem ji.same(E:ji n n D ls)(hu:Sp p (RS D) u)(hv:Sp p (RS D) v)(h:∀l∈ls,p∣u l-v l):kj p u v:=λj=>by
 have hd:Sp p (RS D) (λj=>u j+(-1)*v j):=hu.plus (-1) hv
 have:=E.lead.zero (E.sp hd) (λl r _ he=>by
  obtain⟨i,_,h2⟩:=vj he;have q:=h l (d8 h2);show p∣u l + -1*v l;rwa[show u l + -1*v l=u l-v l by lia]) j
 rwa[show u j + -1*v j=u j-v j by lia]at this
theorem Pp(hp:p∈cK):¬p∣1:=λ⟨c,hc⟩=>by
 have:=fK p hp
 rcases Int.lt_trichotomy c 0 with h|h|h
 ·have:=Ek (show c≤-1 by lia) (show 0≤p by lia)
  lia
 ·rw[h]at hc;lia
 ·have:=Ek (show 1≤c by lia) (show 0≤p by lia)
  lia
theorem ji.starts(hp:p∈cK)(E:ji n n D ls){l:Nat}(hv:Sp p (RS D) v)(h1:v l=1)(h0:∀j,j<l→v j=0):l∈ls:=by
 by_cases hm:l∈ls
 ·exact hm
 ·exfalso;obtain⟨c,hc⟩:=ES.coeff (E.sp hv);have all:∀m,m≤l→∀i,i<m→∀j,p∣c i*dH (gy D ls) i j:=by
   intro m;induction m with
   |zero=>intro _ i hi;lia
   |succ m ih=>
    intro GV i hi j;by_cases Pq:i<m
    ·exact ih (by lia) i Pq j
    ·have ei:i=m:=by lia
     subst ei;cases hr:gy D ls i with
     |none=>exact⟨0,by simp[dH,hr]⟩
     |some r=>
      obtain⟨z,z1,z2⟩:=vj hr;have GX:i<n:=E.lt i (d8 z2);have s:=hc i;dsimp only at s;rw[Bo GX,h0 i (by lia)]at s;have cQ:p∣Sg (λq=>if q=i then 0 else c q*dH (gy D ls) q i) n:=yd λq hq=>by
       by_cases q1:q=i
       ·rw[af q1];exact⟨0,by simp⟩
       ·rw[ag q1];by_cases q2:q<i
        ·exact ih (by lia) q q2 i
        ·cases px:gy D ls q with
         |none=>exact⟨0,by simp[dH,px]⟩
         |some r2=>
          have:=(E.lead.one q r2 px hq).2 i (by lia)
          exact⟨0,by simp only[dH,px,this,Int.mul_zero]⟩
      have e1:dH (gy D ls) i i=1:=by simp only[dH,hr];exact(E.lead.one i r hr GX).1
      rw[e1,Int.mul_one]at s;have k:=Int.dvd_sub s cQ;rw[show c i+Sg (λq=>if q=i then 0 else c q*dH (gy D ls) q i) n-0-Sg (λq=>if q=i then 0 else c q*dH (gy D ls) q i) n=c i by lia]at k
      exact Int.dvd_mul_of_dvd_left k
  have s:=hc l;dsimp only at s;have t:p∣Sg (λq=>c q*dH (gy D ls) q l) n:=yd λq hq=>by
   by_cases q2:q<l
   ·exact all l (bH l) q q2 l
   ·cases px:gy D ls q with
    |none=>exact⟨0,by simp[dH,px]⟩
    |some r2=>
     obtain⟨z,z1,z2⟩:=vj px
     have:q≠l:=λe=>hm (e▸d8 z2)
     have:=(E.lead.one q r2 px hq).2 l (by lia)
     exact⟨0,by simp only[dH,px,this,Int.mul_zero]⟩
  have k:=Int.dvd_sub t s;rw[show Sg (λq=>c q*dH (gy D ls) q l) n-(Sg (λq=>c q*dH (gy D ls) q l) n-v l)=v l by lia,h1]at k;exact Pp hp k
theorem Br:∀{a b:List Nat},a.Pairwise (· < ·)→b.Pairwise (· < ·)→(∀x,x∈a↔x∈b)→a=b
 | [],[],_,_,_=>rfl
 | [],y::b,_,_,h=>absurd ((h y).mpr dv) (by simp)
 |x::a,[],_,_,h=>absurd ((h x).mp dv) (by simp)
 |x::a,y::b,ha,hb,h=>by
  obtain⟨a1,a2⟩:=List.pairwise_cons.mp ha;obtain⟨b1,b2⟩:=List.pairwise_cons.mp hb;have Pt:x=y:=by
   rcases e9.mp ((h x).mp dv)with e|e
   ·exact e
   ·rcases e9.mp ((h y).mpr dv)with e2|e2
    ·exact e2.symm
    ·have:=b1 x e
     have:=a1 y e2
     lia
  subst Pt
  congr 1
  refine Br a2 b2 λz=>⟨λhz=>?_,λhz=>?_⟩
  ·rcases e9.mp ((h z).mp (eR _ hz))with e|e
   ·have:=a1 z hz;lia
   ·exact e
  ·rcases e9.mp ((h z).mpr (eR _ hz))with e|e
   ·have:=b1 z hz;lia
   ·exact e
theorem ji.unique{D':LL}{sJ:List Nat}(hp:p∈cK)(E:ji n n D ls)(E':ji n n D' sJ)(hD:d6 p n D)(Pu:d6 p n D')(s1:∀r∈D,Sp p (RS D') (fn r))(s2:∀r∈D',Sp p (RS D) (fn r)):D=D':=by
 have p0:0<p:=by have:=fK p hp;lia
 have GY:∀{D D':LL}{ls sJ:List Nat},ji n n D ls→ji n n D' sJ→(∀r∈D,Sp p (RS D') (fn r))→∀x,x∈ls→x∈sJ:=λ{D D' ls sJ} E E' s x hx=>by
  obtain⟨i,hi,rfl⟩:=rC.mp hx;have GZ:i<D.length:=by rw[← E.len];exact hi
  obtain⟨o1,o2⟩:=E.one i D[i] ls[i] (cg GZ) (cg hi);exact E'.starts hp (s _ (kQ GZ)) o1 o2
 have el:ls=sJ:=Br E.up E'.up λx=>⟨GY E E' s1 x,GY E' E s2 x⟩;subst el;have x9:D.length=D'.length:=by rw[← E.len,← E'.len]
 apply List.ext_getElem x9;intro i h1 h2;have hi:i<ls.length:=by rw[E.len];exact h1
 refine(hD _ (kQ h1)).ext p0 (Pu _ (kQ h2)) ?_;refine E'.same (s1 _ (kQ h1)) (.mem ⟨_,kQ h2,rfl⟩) λl hl=>?_;obtain⟨k,hk,rfl⟩:=rC.mp hl;by_cases Bs:k=i
 ·subst Bs;have a:=(E.one k D[k] ls[k] (cg h1) (cg hk)).1;have b:=(E'.one k D'[k] ls[k] (cg h2) (cg hk)).1;show p∣(D[k]).getD ls[k] 0-(D'[k]).getD ls[k] 0;rw[a,b];exact⟨0,by lia⟩
 ·have a:=E.alone k i D[i] ls[k] Bs (cg h1) (cg hk);have b:=E'.alone k i D'[i] ls[k] Bs (cg h2) (cg hk);show p∣(D[i]).getD ls[k] 0-(D'[i]).getD ls[k] 0;rw[a,b];exact⟨0,by lia⟩
theorem G0{f:Int→Int}{r:List Int}(hr:r.length=n)(h0:j<n):(r.map f).getD j 0=f (r.getD j 0):=by
 have:j<r.length:=by lia
 rw[dP,fj,cg this,dP,cg this];rfl
noncomputable def Bt(f:Fn)(c:Nat):Fn:=λi=>if i=c then -1 else f i
noncomputable def Pw(rs:LL)(fs:List Int)(j:Nat):Int:=(List.zipWith (λr f=>r.getD j 0*f) rs fs).sum
noncomputable def iS(p:Int)(rs:LL)(fs:List Int)(n:Nat):List Int:=(List.range n).map λj=>Pw rs fs j%p
noncomputable def Px(n:Nat)(ls:List Nat):List Nat:=(List.range n).filter λj=>j ∉ ls
theorem Py(up:ls.Pairwise (· < ·))(lt:∀l∈ls,l<n):(Px n ls).length+ls.length=n:=by
 have hnd:ls.Nodup:=up.imp λh=>by lia
 have h1:((List.range n).filter λj=>j∈ls).length=ls.length:=by
  have e:((List.range n).filter λj=>j∈ls)=ls:=by
   refine Br (List.Pairwise.filter _ List.pairwise_lt_range) up λx=>?_;simp only[rA,List.mem_range,ay];exact⟨λh=>h.2,λh=>⟨lt x h,h⟩⟩
  rw[e]
 have h2:∀L:List Nat,(L.filter λj=>j ∉ ls).length+(L.filter λj=>j∈ls).length=L.length:=by
  intro L;induction L with
  |nil=>rfl
  |cons a L ih=>
   by_cases h:a∈ls
   ·rw[List.filter_cons_of_neg (by simpa using h),List.filter_cons_of_pos (by simpa using h),cu,cu];lia
   ·rw[List.filter_cons_of_pos (by simpa using h),List.filter_cons_of_neg (by simpa using h),cu,cu];lia
 have:=h2 (List.range n)
 rw[h1,List.length_range]at this;exact this
section
variable{p:Int}{n:Nat}{D:LL}{ls:List Nat}
end
end Bw
namespace L2
open PySem Bw
def LR(N:Addr→Prop)(H:Hp)(LS:List V)(L:LL):Prop:=LS.length=L.length∧∀(i:Nat)(v:V)(r:List Int),LS[i]?=some v→L[i]?=some r→∃a,v=.ref a∧N a∧H a=some (.lst (r.map V.int))
noncomputable abbrev yf(r:List Int):Dat:=.list (r.map .int)
section
variable{N:Addr→Prop}{H H':Hp}{LS:List V}{L:LL}{l a:Addr}{o:HO}{r:List Int}
theorem LR.nil:LR N H [] []:=⟨rfl,λi v r h=>by simp at h⟩
theorem LR.mono(h:LR N H LS L)(e:aJ H H'):LR N H' LS L:=⟨h.1,λi v r a b=>by
 obtain⟨x,rfl,hN,g⟩:=h.2 i v r a b;exact⟨x,rfl,hN,e _ _ g⟩⟩
theorem LR.wr(h:LR (·≠l) H LS L):LR (·≠l) (upd H l o) LS L:=⟨h.1,λi v r a b=>by
 obtain⟨x,rfl,ne,g⟩:=h.2 i v r a b;exact⟨x,rfl,ne,by rw[cC ne];exact g⟩⟩
theorem LR.snoc(h:LR N H LS L)(hN:N a)(g:H a=some (.lst (r.map V.int))):LR N H (LS++[.ref a]) (L++[r]):=⟨by simp[h.1],λj v q e1 e2=>by
 by_cases hj:j<LS.length
 ·rw[iA hj]at e1;rw[iA (by rw[← h.1];exact hj)]at e2;exact h.2 j v q e1 e2
 ·rw[i5 (by lia)]at e1;rw[i5 (by rw[← h.1];lia),← h.1]at e2;cases hk:j-LS.length with
  |zero=>rw[hk]at e1 e2;cases e1;cases e2;exact⟨a,rfl,hN,g⟩
  |succ k=>rw[hk]at e1;cases e1⟩
theorem LR.has{K:Frag}:∀{LS:List V}{L:LL},LR N H LS L→du K H LS (L.map yf)
 | [],[],_=>.nil
 | [],_::_,h=>by have:=h.1;simp at this
 |_::_,[],h=>by have:=h.1;simp at this
 |v::LS,r::L,h=>by
  obtain⟨a,rfl,_,g⟩:=h.2 0 v r rfl rfl;refine .cons (.list (.of g) (du.ints _)) (LR.has ⟨by have:=h.1;simpa using this,λi v r e1 e2=>h.2 (i+1) v r e1 e2⟩)
end
theorem Pz(L:LL):kqdOk 8 (.list (L.map yf))=true:=by
 show(L.map yf).all (kqdOk 7)=true;rw[iK];intro d hd;obtain⟨r,_,rfl⟩:=dN.mp hd;show(r.map Dat.int).all (kqdOk 6)=true;exact O5 6 r
end L2
namespace L2
open PySem PySem.Spec PyProof.Rows
end L2
namespace L2
open PySem Bw
end L2
namespace L2
open PySem PySem.Spec PyProof.Rows
variable{H H':Hp}{Q:QV}{X:Cx}{aH:List (List Key×V)}{s:Shared}{u:Value}{xs:List (List Key×Addr×Value)}{y:V}
section
variable{κ:Type} [DecidableEq κ]
noncomputable def dh(aH:List (κ×V))(k:κ):Option V:=(aH.find? λkv=>decide (kv.1=k)).map (·.2)
noncomputable def d7(aH:List (κ×V))(k:κ)(v:V):List (κ×V):=
 if(aH.any λkv=>decide (kv.1=k))=true then aH.map (λkv=>if kv.1=k then(kv.1,v)else kv)else aH++[(k,v)]
theorem lF{p:κ×V}{r:List (κ×V)}{k:κ}(e:p.1=k):dh (p::r) k=some p.2:=by simp[dh,List.find?_cons,e]
theorem lG{p:κ×V}{r:List (κ×V)}{k:κ}(e:¬p.1=k):dh (p::r) k=dh r k:=by simp[dh,List.find?_cons,e]
theorem vk(k:κ):∀aH:List (κ×V),(aH.any λkv=>decide (kv.1=k))=(dh aH k).isSome
 | []=>rfl
 |p::r=>by
  rw[List.any_cons];by_cases e:p.1=k
  ·simp only[lF e,ax e,Bool.true_or,Option.isSome_some]
  ·rw[lG e,ae e,Bool.false_or];exact vk k r
theorem G1(k j:κ)(y:V):∀aH:List (κ×V),dh (aH.map λkv=>if kv.1=k then(kv.1,y)else kv) j=(dh aH j).map λx=>if j=k then y else x
 | []=>rfl
 |p::r=>by
  have ih:=G1 k j y r;rw[iJ];by_cases h:p.1=k
  ·rw[af h];by_cases e:p.1=j
   ·rw[lF (p:=(p.1,y)) e,lF e,Option.map_some,af (e.symm.trans h)]
   ·rw[lG (p:=(p.1,y)) e,lG e,ih]
  ·rw[ag h];by_cases e:p.1=j
   ·rw[lF (p:=p) e,lF e,Option.map_some,ag (λz=>h (e.trans z))]
   ·rw[lG (p:=p) e,lG e,ih]
theorem G2(k j:κ)(y:V):∀aH:List (κ×V),dh aH k=none→dh (aH++[(k,y)]) j=if j=k then some y else dh aH j
 | [],_=>by
  by_cases e:k=j
  ·rw[af e.symm];exact lF (p:=(k,y)) e
  ·rw[ag (λz=>e z.symm)];exact lG (p:=(k,y)) e
 |p::r,hn=>by
  rw[List.cons_append];have hk:¬p.1=k:=λz=>by rw[lF z]at hn;cases hn
  rw[lG hk]at hn;have ih:=G2 k j y r hn;by_cases e:p.1=j
  ·rw[lF e,lF e,ag (λz=>hk (e.trans z))]
  ·rw[lG e,lG e,ih]
theorem G3(aH:List (κ×V))(k j:κ)(y:V):dh (d7 aH k y) j=if j=k then some y else dh aH j:=by
 unfold d7;by_cases a:(aH.any λkv=>decide (kv.1=k))=true
 ·rw[af a,G1];rw[vk]at a;by_cases e:j=k
  ·obtain⟨x,hx⟩:=Option.isSome_iff_exists.mp a;rw[af e,e,hx,Option.map_some,af rfl]
  ·rw[ag e];cases dh aH j with
   |none=>rfl
   |some x=>rw[Option.map_some,ag e]
 ·rw[ag a];refine G2 k j y aH ?_;rw[vk]at a;cases q:dh aH k with
  |none=>rfl
  |some x=>rw[q]at a;exact(a rfl).elim
theorem yh(aH:List (κ×V))(k:κ)(v:V):(d7 aH k v).length≤aH.length+1:=by
 unfold d7;split
 ·rw[br];lia
 ·rw[bh,cu,df];lia
theorem G4{aH:List (κ×V)}{k:κ}(v:V)(h:dh aH k=none):d7 aH k v=aH++[(k,v)]:=by
 unfold d7;rw[vk,h];exact ag (by decide)
theorem jR.Bu{o:Option V}{u:Option Value}(r:jR o u):o.isSome=u.isSome:=by
 cases o with
 |none=>cases u with
  |none=>rfl
  |some _=>exact(show False from r).elim
 |some _=>cases u with
  |none=>exact(show False from r).elim
  |some _=>rfl
theorem jR.getD{o:Option V}{u:Option Value}{d:V}{d':Value}(r:jR o u)(rd:RelV d d'):RelV (o.getD d) (u.getD d'):=by
 cases o with
 |none=>cases u with
  |none=>exact rd
  |some _=>exact(show False from r).elim
 |some _=>cases u with
  |none=>exact(show False from r).elim
  |some _=>exact r
theorem KV.val{aH:List (κ×V)}{vs:List (κ×Value)}(r:KV aH vs)(k:κ):jR (dh aH k) (valueAt vs k):=by
 unfold KV at r;induction r with
 |nil=>exact True.intro
 | @cons p q ps qs h t ih=>
  obtain⟨h1,h2⟩:=h;by_cases e:p.1=k
  ·have e':q.1=k:=h1.symm.trans e;have b:valueAt (q::qs) k=some q.2:=by simp[valueAt,List.find?_cons,e']
   rw[lF e,b];exact h2
  ·have e':¬q.1=k:=λz=>e (h1.trans z);have b:valueAt (q::qs) k=valueAt qs k:=by simp[valueAt,List.find?_cons,e']
   rw[lG e,b];exact ih
theorem KV.any{aH:List (κ×V)}{vs:List (κ×Value)}(r:KV aH vs)(k:κ):(aH.any λkv=>decide (kv.1=k))=vs.any λkv=>decide (kv.1=k):=by
 unfold KV at r;induction r with
 |nil=>rfl
 |cons h t ih=>rw[List.any_cons,List.any_cons,ih,h.1]
theorem KV.Bv{aH:List (κ×V)}{vs:List (κ×Value)}(r:KV aH vs)(k:κ)(ry:RelV y u) :
  KV (aH.map λkv=>if kv.1=k then(kv.1,y)else kv) (vs.map λkv=>if kv.1=k then(kv.1,u)else kv):=by
 unfold KV at r ⊢;induction r with
 |nil=>exact .nil
 | @cons p q ps qs h t ih=>
  rw[iJ,iJ];refine .cons ?_ ih;obtain⟨h1,h2⟩:=h;by_cases e:p.1=k
  ·rw[af e,af (h1.symm.trans e)];exact⟨h1,ry⟩
  ·rw[ag e,ag (λz=>e (h1.trans z))];exact⟨h1,h2⟩
theorem KV.put{aH:List (κ×V)}{vs:List (κ×Value)}(r:KV aH vs)(k:κ)(ry:RelV y u):KV (d7 aH k y) (stored vs k u):=by
 unfold d7 stored;rw[r.any k];by_cases e:(vs.any λkv=>decide (kv.1=k))=true
 ·rw[af e,af e];exact r.Bv k ry
 ·rw[ag e,ag e];exact Paired.snoc r ⟨rfl,ry⟩
theorem KV.length{aH:List (κ×V)}{vs:List (κ×Value)}(r:KV aH vs):aH.length=vs.length:=Paired.length r
end
theorem sL{P:Program}{w:World}{k:Key}(r:RelV (kV k) u):(gj P w).is k u=true:=by
 cases k with
 |inl i=>obtain⟨t,e⟩:=(show ∃t,u=Value.int i t from r);subst e;exact Ms P w i t
 |inr x=>obtain⟨t,e⟩:=(show ∃t,u=Value.str x t from r);subst e;exact Mt P w x t
theorem G5{P:Program}{w:World}:∀{ks:List Key}{us:List Value},Vals (ks.map kV) us→ItemsAre (gj P w) ks us
 | [],_,r=>by rw[List.map_nil]at r;cases r;exact .nil
 |k::ks,_,r=>by
  rw[iJ]at r;cases r with
  |cons h t=>exact .cons (sL h) (G5 t)
abbrev KT(H:Hp):List (List Key×V)→List (List Key×Addr×Value)→Prop:=Paired λp q=>p.1=q.1∧H q.2.1=some (.tup (p.1.map kV))∧RelV p.2 q.2.2
theorem KT.val(r:KT H aH xs)(k:List Key):jR (dh aH k) ((atKey xs k).map (·.2)):=by
 induction r with
 |nil=>exact True.intro
 | @cons p q ps qs h t ih=>
  obtain⟨h1,_,h2⟩:=h;by_cases e:p.1=k
  ·have e':q.1=k:=h1.symm.trans e;have b:atKey (q::qs) k=some q.2:=by simp[atKey,List.find?_cons,e']
   rw[lF e,b];exact h2
  ·have e':¬q.1=k:=λz=>e (h1.trans z);have b:atKey (q::qs) k=atKey qs k:=by simp[atKey,List.find?_cons,e']
   rw[lG e,b];exact ih
theorem KT.Bv(r:KT H aH xs)(k:List Key)(ry:RelV y u) :
  KT H (aH.map λkv=>if kv.1=k then(kv.1,y)else kv) (xs.map (putAt k u)):=by
 induction r with
 |nil=>exact .nil
 | @cons p q ps qs h t ih=>
  rw[iJ,iJ];refine .cons ?_ ih;obtain⟨h1,h2,h3⟩:=h;unfold putAt;by_cases e:p.1=k
  ·rw[af e,af (h1.symm.trans e)];exact⟨h1,h2,ry⟩
  ·rw[ag e,ag (λz=>e (h1.trans z))];exact⟨h1,h2,h3⟩
theorem KT.put(r:KT H aH xs)(k:List Key){b:Addr}(hb:H b=some (.tup (k.map kV)))(ry:RelV y u) :
  KT H (d7 aH k y) (storedH xs k b u):=by
 have e:(aH.any λkv=>decide (kv.1=k))=(atKey xs k).isSome:=by
  rw[vk,(r.val k).Bu,Option.isSome_map]
 unfold d7 storedH;rw[e];by_cases q:(atKey xs k).isSome=true
 ·rw[af q,af q];exact r.Bv k ry
 ·rw[ag q,ag q];exact Paired.snoc r ⟨rfl,hb,ry⟩
theorem KT.keeps(r:KT H aH xs)(ht:∀b ys,H b=some (.tup ys)→H' b=some (.tup ys)):KT H' aH xs:=
 Paired.Aj r λ_ _ z=>⟨z.1,ht _ _ z.2.1,z.2.2⟩
section
variable{P:Program}{w:World}{H:Hp}{h:Heap}{a:Addr}
theorem G6{u:HO}(ok:d9 P w H h)(e:Rd H a u):eO P w H h a u:=e.ok ok
theorem sM{aH:List (Key×V)}(ok:d9 P w H h)(e:Rd H a (.dK aH)):aH.length≤sizeLine∧(a==sysModules)=false∧∃vs,KV aH vs∧h.DictOf (gj P w) a vs:=
 show eO P w H h a (.dK aH) from G6 ok e
theorem Bx{aH:List (Key×V)}(ok:d9 P w H h)(e:H a=some (.dK aH)):aH.length≤sizeLine∧(a==sysModules)=false∧∃vs,KV aH vs∧h.DictOf (gj P w) a vs:=sM ok (.inl e)
theorem vm{ks:List Key}(ok:d9 P w H h)(e:H a=some (.tup (ks.map kV))):(tupleKind (gj P w)).is h ks a:=by
 obtain⟨_,its,r,o,h1,h2,_,n,h3⟩:=(show eO P w H h a (.tup (ks.map kV)) from ok a _ e)
 exact⟨o,its.toArray,n,h1,h2,h3,by simpa using G5 r⟩
theorem sN(ok:d9 P w H h)(e:Rd H a (.dT aH)):aH.length≤sizeLine∧(a==sysModules)=false∧
  ∃xs,KT H aH xs∧h.DictOfH (tupleKind (gj P w)) a xs:=by
 obtain⟨z,y,xs,r,o,es,ep,h1,h2,h3,h4,h5⟩:=(show eO P w H h a (.dT aH) from G6 ok e)
 refine⟨z,y,xs,r,o,es,ep,h1,h2,h3,h4,λx hx=>?_,h5⟩;have all:∀{l:List (List Key×V)}{m:List (List Key×Addr×Value)},KT H l m→∀x∈m,(tupleKind (gj P w)).is h x.1 x.2.1:=by
  intro l m q;induction q with
  |nil=>intro x hx;exact nomatch hx
  | @cons p q ps qs hq t ih=>
   intro x hx;rcases e9.mp hx with e|hx
   ·subst e;exact vm ok (by rw[← hq.1];exact hq.2.1)
   ·exact ih x hx
 exact all r x hx
theorem PB(ok:d9 P w H h)(e:H a=some (.dT aH)):aH.length≤sizeLine∧(a==sysModules)=false∧
  ∃xs,KT H aH xs∧h.DictOfH (tupleKind (gj P w)) a xs:=sN ok (.inl e)
end
def gz(H:Hp)(a:Addr)(y:V)(r:Option V):Prop:=
 (∃aH k,Rd H a (.dK aH)∧y=kV k∧r=dh aH k)∨∃aH k b,Rd H a (.dT aH)∧y=.ref b∧H b=some (.tup (k.map kV))∧r=dh aH k
def oo(H:Hp)(a:Addr)(y v:V)(H':Hp):Prop:=
 (∃aH k,H a=some (.dK aH)∧y=kV k∧aH.length<sizeLine∧H'=upd H a (.dK (d7 aH k v))) ∨
 ∃aH k b,H a=some (.dT aH)∧y=.ref b∧H b=some (.tup (k.map kV))∧aH.length<sizeLine∧H'=upd H a (.dT (d7 aH k v))
theorem gz.k{H:Hp}{a:Addr}{aH:List (Key×V)}{k:Key}(e:H a=some (.dK aH)):gz H a (kV k) (dh aH k):=.inl ⟨aH,k,.inl e,rfl,rfl⟩
theorem oo.k{H:Hp}{a:Addr}{aH:List (Key×V)}{k:Key}{v:V}(e:H a=some (.dK aH))(hl:aH.length<sizeLine):oo H a (kV k) v (upd H a (.dK (d7 aH k v))):=.inl ⟨aH,k,e,rfl,hl,rfl⟩
section
variable{X:Cx}{aF:List (Addr×Obj)}{σ:St}{H:Hp}{s:Shared}{a:Addr}{y v:V}{u r:Value}{o:Option V}{A:Around}{E:QV}
theorem Inv.big(I:Inv X aF σ H s):sysModules<s.heap.objs.size:=by
 have h:mainGlobals<s.heap.objs.size:=(I.mod.glob.keeps I.bk).lt;exact Nat.lt_trans (by decide) h
theorem PD(hu:A.units+1<cLine)(I:Inv X aF σ H s)(g:gz H a y (some v))(ry:RelV y u)(h:∀w' s',Inv X aF σ H s'→RelV v w'→Q w' s') :
  wpAny (model X.prog X.w) A (getItem (.ref a) u) Q E s:=by
 rcases g with⟨aH,k,e,ey,l⟩|⟨aH,k,b,e,ey,eb,l⟩
 ·subst ey;obtain⟨z,hd,vs,rel,dd⟩:=sM I.bz e;obtain⟨w',hw,lz⟩:=jR.some_of (v:=v) (o:=valueAt vs k) (by rw[l];exact rel.val k);exact wpAny_getItem_of (sL ry) dd.mapOf hw (h w' _ (I.tok _) lz)
 ·subst ey;cases(show u=Value.ref b from ry)
  obtain⟨z,hd,xs,rel,dd⟩:=sN I.bz e;obtain⟨w',hw,lz⟩:=jR.some_of (v:=v) (o:=(atKey xs k).map (·.2)) (by rw[l];exact rel.val k);obtain⟨p,hp,PF⟩:=Option.map_eq_some_iff.mp hw;refine wpAny_getItem_heap (tupleKind_room_in1 hu) (vm I.bz eb) dd hp ?_;rw[PF];exact h w' _ (I.tok _) lz
theorem PH(hu:A.units+1<cLine)(I:Inv X aF σ H s)(g:gz H a y o)(ry:RelV y u)(h:∀s',Inv X aF σ H s'→Q (.bool (!o.isSome)) s') :
  wpAny (model X.prog X.w) A (compareOp .NotIn u (.ref a)) Q E s:=by
 rcases g with⟨aH,k,e,ey,l⟩|⟨aH,k,b,e,ey,eb,l⟩
 ·subst ey;obtain⟨z,hd,vs,rel,dd⟩:=sM I.bz e;refine wpAny_notIn_of (sL ry) hd dd.mapOf ?_;rw[← (rel.val k).Bu,← l];exact h _ (I.tok _)
 ·subst ey;cases(show u=Value.ref b from ry)
  obtain⟨z,hd,xs,rel,dd⟩:=sN I.bz e;refine wpAny_notIn_heap (tupleKind_room_in1 hu) (vm I.bz eb) hd dd ?_;have q:=(rel.val k).Bu;rw[Option.isSome_map]at q;rw[← q,← l];exact h _ (I.tok _)
theorem By{h':Heap}{t':Nat}{ob:HO}(I:Inv X aF σ H s)(mu:uH (H a))(hs:Heap.SameBut a s.heap h')(he:∃q,h'.get? a=some q)(new:eO X.prog X.w (upd H a ob) h' a ob) :
  Inv X aF σ (upd H a ob) { s with heap:=h',toks:=t' }:=
 I.write (x:=a) (e:=a) mu (.inl rfl) (λb q hb z=>(hs.2 b hb).trans z) he new
theorem G7{P:Program}{w:World}{h':Heap}{aH:List (Key×V)}{vs:List (Key×Value)}(z:aH.length≤sizeLine)(hd:(a==sysModules)=false)(rel:KV aH vs)(dd:h'.DictOf (gj P w) a vs) :
  eO P w H' h' a (.dK aH):=⟨z,hd,vs,rel,dd⟩
theorem PJ{Q:Unit→Shared→Prop}(hu:A.units+1<cLine)(I:Inv X aF σ H s)(g:oo H a y v H')(ry:RelV y u)(rv:RelV v r)(h:∀s',Inv X aF σ H' s'→Q () s') :
  wpAny (model X.prog X.w) A (setItem (.ref a) u r) Q E s:=by
 rcases g with⟨aH,k,e,ey,l,eH⟩|⟨aH,k,b,e,ey,eb,l,eH⟩
 ·subst ey eH;obtain⟨z,hd,vs,rel,dd⟩:=Bx I.bz e;have hz:vs.length≤sizeLine:=by rw[← rel.length];exact z
  have hl:(d7 aH k v).length≤sizeLine:=by have:=yh aH k v;lia
  refine wpAny_setItem_pairs (hsz:=hz) (sL ry) dd λh' qv hs=>h _ ?_;have he:∃q,h'.get? a=some q:=let ⟨q,_,_,hq,_⟩:=qv;⟨q,hq⟩;exact By I (by rw[e];exact True.intro) hs he (G7 hl hd (rel.put k rv) qv)
 ·subst ey eH;cases(show u=Value.ref b from ry)
  obtain⟨z,hd,xs,rel,dd⟩:=PB I.bz e;have hz:xs.length≤sizeLine:=by rw[← Paired.length rel];exact z
  have hl:(d7 aH k v).length≤sizeLine:=by have:=yh aH k v;lia
  refine wpAny_setItem_heap (hsz:=hz) (tupleKind_room_in1 hu) (vm I.bz eb) dd λh' qv hs=>h _ ?_;obtain⟨q,es,ep,hq,h2,h3,h4,_,h5⟩:=qv;refine By I (by rw[e];exact True.intro) hs ⟨q,hq⟩ ⟨hl,hd,_,(rel.put k eb rv).keeps λc ys ec=>?_,q,es,ep,hq,h2,h3,h4,h5⟩;rw[cC (Mw ec e (λz=>nomatch z))];exact ec
end
section
variable{X:Cx}{aF:List (Addr×Obj)}{σ:St}{H:Hp}{s:Shared}{a:Addr}{aH:List (Key×V)}{k:Key}{u:Value}{A:Around}{E:QV}
end
def Bz(i:Expr):Prop:=∀ov iv,subscripted i false ov iv=operate [ov,iv] (getItem ov iv)
theorem G8{prog:Program}{w:World}{A:Around}{E:QV}{env:Env}{value slice:Expr}{pos:Pos}{T id:String}
  (hl:typeLookup (.type T) "__getitem__"=pure (some (.builtin id))) (hs:Bz slice)
  (h:wpAny (model prog w) A (eval value env) (λo s₁=>wpAny (model prog w) A (eval slice env) (λi s₂=>s₂.TypeIs o T∧wpAny (model prog w) A (getItem o i) Q E s₂) E s₁) E s) :
  wpAny (model prog w) A (eval (.Subscript value slice pos) env) Q E s:=by
 refine Subscript_ (ah h (λo s₁ h₁=>ah h₁ (λi s₂ h₂=>?_) λ_ _ x=>x) λ_ _ x=>x);obtain⟨hT,h₂⟩:=h₂;unfold subscriptTail;refine aq ?_;rw[getitemInPython_of_ne hT.not_modules];refine aq (wpAny_specialOf hT hl ?_);have fin:wpAny (model prog w) A (subscripted slice false o i) (λr s₃=>wpAny (model prog w) A (letTemporaryGo value o r >>= λ_=>pure r) Q E s₃) E s₂:=by
  rw[hs o i];exact wpAny_operating (ah h₂ (λr s₃ h₃=>aq (wpAny_letTemporaryGo (ao h₃))) λ_ _ x=>x)
 first
  |exact ao (aq fin)
  |exact aq (ao (aq fin))
  |exact aq fin
theorem PK{aF:List (Addr×Obj)}{σ:St}{a:Addr}{o:Option V}(I:Inv X aF σ H s)(g:gz H a y o):s.TypeIs (.ref a) "dict":=by
 rcases g with⟨aH,k,e,_,_⟩|⟨aH,k,b,e,_,_,_⟩
 ·obtain⟨_,_,vs,_,dd⟩:=sM I.bz e;exact dd.typeIs
 ·obtain⟨_,_,xs,_,dd⟩:=sN I.bz e;exact dd.typeIs
def PL(td ty:TE):TE:=λσ H Q=>td σ H λx H1=>ty σ H1 λy H2=>∃a v,x=.ref a∧gz H2 a y (some v)∧Q v H2
def PM(ty td:TE):TE:=λσ H Q=>ty σ H λy H1=>td σ H1 λx H2=>∃a o,x=.ref a∧gz H2 a y o∧Q (.bl (!o.isSome)) H2
def iF(td ty tv:TE):TS:=λD σ H=>tv σ H λv H1=>td σ H1 λx H2=>ty σ H2 λy H3=>∃a H4,x=.ref a∧oo H3 a y v H4∧D.nx σ H4
section
variable{X:Cx}{o i e value:Expr}{pos ju Nn:Pos}{td ty tv:TE}
theorem lH(hu:X.A.units+1<cLine)(ho:PE X o td)(hi:PE X i ty)(hs:Bz i):PE X (.Subscript o i pos) (PL td ty):=by
 intro aF s σ H Q I h;refine G8 PySem.F.slot_dict_getitem.lookup hs (aM (ho aF s σ H _ I h) λu s1 ⟨x,H1,I1,rx,q1⟩=>aM (hi aF s1 σ H1 _ I1 q1) λiv s2 ⟨y,H2,I2,ry,a,v,ex,g,q2⟩=>?_);subst ex;obtain rfl:u=Value.ref a:=rx;exact⟨PK I2 g,PD hu I2 g ry λw' s3 I3 lz=>⟨v,H2,I3,lz,q2⟩⟩
theorem PN(hu:X.A.units+1<cLine)(hi:PE X i ty)(ho:PE X o td):PC X .NotIn i o (PM ty td):=by
 intro aF s σ H Q I h;refine aM (hi aF s σ H _ I h) λiv s1 ⟨y,H1,I1,ry,q1⟩=>aM (ho aF s1 σ H1 _ I1 q1) λu s2 ⟨x,H2,I2,rx,a,ov,ex,g,q2⟩=>?_;subst ex;obtain rfl:u=Value.ref a:=rx;exact PH hu I2 g ry λs3 I3=>⟨.bl (!ov.isSome),H2,I3,rfl,q2⟩
theorem iT(hu:X.A.units+1<cLine)(ho:PE X o td)(hi:PE X i ty)(hv:PE X value tv)(hs:swapsWith value (some (.Subscript o i ju)) pos.line X.env=pure false) :
  PS X (.Assign [.Subscript o i ju] value pos) (iF td ty tv):=by
 intro aF s σ H D I h;refine wpAny_Assign_Subscript (aM (hv aF s σ H _ I h) λr s1 ⟨v,H1,I1,rv,q1⟩=>aM (ho aF s1 σ H1 _ I1 q1) λu s2 ⟨x,H2,I2,rx,q2⟩=>aM (hi aF s2 σ H2 _ I2 q2) λiv s3 ⟨y,H3,I3,ry,a,H4,ex,g,q3⟩=>?_) hs;subst ex;obtain rfl:u=Value.ref a:=rx;exact PJ hu I3 g ry rv λs4 I4=>⟨σ,H4,I4,q3⟩
end
theorem G9{P:Program}{w:World}(h:Heap)(hb:sysModules<h.objs.size):eO P w H (h.push { cls:=.type "dict",data:=.dict #[] }) h.objs.size (.dK []):=
 ⟨Nat.zero_le _,beq_eq_false_iff_ne.mpr (Ne.symm (kO hb)),[],.nil,Heap.DictOf.new h⟩
def PQ:TE:=λ_ H Q=>∀p,H p=none→Q (.ref p) (upd H p (.dK []))
section
variable{X:Cx}{pos:Pos}
theorem Hd:PE X (.Dict [] [] pos) PQ:=λaF s σ H Q I h=>
 wpAny_Dict_empty ⟨.ref s.heap.objs.size,_,I.laid (a:=s.heap.objs.size) (o:=.dK []) (t':=s.toks) (λ_ _ q=>fc _ q) (bH _) (G9 s.heap I.big),rfl,h _ (I.bz.fresh (bH _))⟩
end
def yi:List (TE×TE)→St→Hp→(List (V×V)→Hp→Prop)→Prop
 | [],_,H,Q=>Q [] H
 |(tk,tv)::r,σ,H,Q=>tk σ H λx H1=>tv σ H1 λy H2=>yi r σ H2 λps H3=>Q ((x,y)::ps) H3
abbrev VV:List (V×V)→List (Value×Value)→Prop:=Paired λp q=>RelV p.1 q.1∧RelV p.2 q.2
def yj(X:Cx)(pos:Pos)(keys:List (Option Expr))(values:List Expr)(oq:List (TE×TE)):Prop:=
 ∀(aF:List (Addr×Obj))(s:Shared)(σ:St)(H:Hp)(Q:List (V×V)→Hp→Prop),Inv X aF σ H s→yi oq σ H Q→
  wpAny (model X.prog X.w) X.A (evalPairs (pairTrees keys values X.env pos)) (λvs s'=>∃ps H',Inv X aF σ H' s'∧VV ps vs∧Q ps H') X.xe s
theorem PR{pos:Pos}:yj X pos [] [] []:=λaF s σ H Q I h=>pairTrees_nil_walk ⟨[],H,I,.nil,h⟩
theorem PU{pos:Pos}{k v:Expr}{ks:List (Option Expr)}{vs:List Expr}{tk tv:TE}{oq:List (TE×TE)}(hk:PE X k tk)(hv:PE X v tv)(hr:yj X pos ks vs oq) :
  yj X pos (some k::ks) (v::vs) ((tk,tv)::oq):=λaF s σ H Q I h=>
 pairTrees_cons_walk (aM (hk aF s σ H _ I h) λu s1 ⟨x,H1,I1,rx,q1⟩=>aM (hv aF s1 σ H1 _ I1 q1) λw2 s2 ⟨y,H2,I2,ry,q2⟩=>
  aM (hr aF s2 σ H2 _ I2 q2) λws s3 ⟨ps,H3,I3,rel,q3⟩=>⟨(x,y)::ps,H3,I3,.cons ⟨rx,ry⟩ rel,q3⟩)
noncomputable def vn(aH iB:List (Key×V)):List (Key×V):=iB.foldl (λacc kv=>d7 acc kv.1 kv.2) aH
theorem KV.merge:∀{iB:List (Key×V)}{rs:List (Key×Value)}{aH:List (Key×V)}{vs:List (Key×Value)},KV iB rs→KV aH vs→KV (vn aH iB) (merged vs rs):=by
 intro iB rs aH vs r;unfold KV at r;induction r generalizing aH vs with
 |nil=>intro q;exact q
 | @cons p q ps qs h t ih=>
  intro r0;have e:KV (d7 aH p.1 p.2) (stored vs q.1 q.2):=by
   have:=r0.put p.1 h.2
   rw[← h.1];exact this
  exact ih e
theorem He:∀(iB aH:List (Key×V)),(vn aH iB).length≤aH.length+iB.length
 | [],aH=>by show aH.length≤aH.length+0;lia
 |p::r,aH=>by
  have h1:=He r (d7 aH p.1 p.2);have h2:=yh aH p.1 p.2;show(vn (d7 aH p.1 p.2) r).length≤_;rw[cu];lia
theorem Hf{P:Program}{w:World}:∀{aH:List (Key×V)}{ws:List (Value×Value)},VV (aH.map λkv=>(kV kv.1,kv.2)) ws→∃rs,Carries (gj P w) ws rs∧KV aH rs
 | [],_,r=>by rw[List.map_nil]at r;cases r;exact⟨[],True.intro,.nil⟩
 |p::aH,_,r=>by
  rw[iJ]at r;cases r with
  | @cons a b as bs h t=>
   obtain⟨rs,c,q⟩:=Hf (P:=P) (w:=w) t;obtain⟨b1,b2⟩:=b;exact⟨(p.1,b2)::rs,⟨sL h.1,rfl,c⟩,.cons ⟨rfl,h.2⟩ q⟩
def BA(oq:List (TE×TE)):TE:=λσ H Q=>∀p,H p=none→yi oq σ (upd H p (.dK [])) λps H2=>H2 p=some (.dK [])∧∃aH:List (Key×V),ps=aH.map (λkv=>(kV kv.1,kv.2))∧aH.length≤15∧Q (.ref p) (upd H2 p (.dK (vn [] aH)))
theorem PV{pos:Pos}{keys:List (Option Expr)}{values:List Expr}{oq:List (TE×TE)}(h:yj X pos keys values oq)(AZ:keys.all (·.isSome)=true)(hl:keys.length=values.length)(h0:keys≠[])
  (PX:keys.length≤15):PE X (.Dict keys values pos) (BA oq):=by
 intro aF s σ H Q I q;have hn:=I.bz.fresh (bH s.heap.objs.size);have I1:=I.laid (a:=s.heap.objs.size) (o:=.dK []) (h':=s.heap.push { cls:=.type "dict",data:=.dict #[] }) (t':=s.toks) (λ_ _ q=>fc _ q) (bH _) (G9 s.heap I.big);refine wpAny_Dict_walk (knd:=gj X.prog X.w) AZ hl h0 PX (aM (h aF _ σ _ _ I1 (q _ hn)) λws s2 ⟨ps,H2,I2,rel,e,aH,ep,lk,q2⟩=>?_);subst ep;obtain⟨rs,c,rk⟩:=Hf (P:=X.prog) (w:=X.w) rel;obtain⟨z,hd,vs0,r0,dd⟩:=Bx I2.bz e;cases r0;refine⟨rs,c,dd,λh' qv hs=>⟨.ref s.heap.objs.size,_,?_,rfl,q2⟩⟩;have hz:(vn [] aH).length≤sizeLine:=by
  have h1:=He aH [];rw[df]at h1;rw[sizeLine_eq];lia
 have he:∃q,h'.get? s.heap.objs.size=some q:=let ⟨q,_,_,hq,_⟩:=qv;⟨q,hq⟩;exact By I2 (by rw[e];exact True.intro) hs he (G7 hz hd (rk.merge .nil) qv)
structure M2(X:Cx)(o:Expr)(m:Str)(gZ:Pos)(e f:Expr)(eY:Pos):Prop where
 base:attributeBase o m X.env (eval o X.env)=eval o X.env
 mZ:((backTo eY (starEach [e,f] X.env)).all (λx=>!x.1)&&(backToKw eY (keywordEach [] X.env)).all (λx=>x.1.isSome)
  && decide (([e,f]:List Expr).length+([]:List Keyword).length+(if([]:List Keyword).isEmpty then 0 else 1)<30))=true
 line:(gZ.endLine==eY.line)=true
 trees:backTo eY (starEach [e,f] X.env)=[(false,eval e X.env),(false,eval f X.env)]
def Hg(H:Hp)(a:Addr):Prop:=(∃aH,Rd H a (.dK aH))∨∃aH,Rd H a (.dT aH)
theorem PY{aF:List (Addr×Obj)}{σ:St}{a:Addr}(I:Inv X aF σ H s)(d:Hg H a) :
  s.TypeIs (.ref a) "dict"∧(∀b,Value.ref a=.ref b→∃ob,s.heap.get? b=some ob∧ob.dict=none)∧(a==sysModules)=false:=by
 rcases d with⟨aH,e⟩|⟨aH,e⟩
 ·obtain⟨_,hd,vs,_,dd⟩:=sM I.bz e;refine⟨dd.typeIs,λb q=>?_,hd⟩;cases q;obtain⟨ob,_,_,h1,h2,_⟩:=dd;exact⟨ob,h1,h2.2.1⟩
 ·obtain⟨_,hd,xs,_,dd⟩:=sN I.bz e;refine⟨dd.typeIs,λb q=>?_,hd⟩;cases q;obtain⟨ob,_,_,h1,h2,_⟩:=dd;exact⟨ob,h1,h2.2.1⟩
section
variable{X:Cx}{aF:List (Addr×Obj)}{σ:St}{H:Hp}{s:Shared}{a:Addr}{y d:V}{u r:Value}{o:Option V}{A:Around}{E:QV}
theorem PZ(hu:A.units+1<cLine)(I:Inv X aF σ H s)(g:gz H a y o)(ry:RelV y u)(rd:RelV d r)(h:∀w' s',Inv X aF σ H s'→RelV (o.getD d) w'→Q w' s') :
  wpAny (model X.prog X.w) A (call (.builtin "dict.get") [.ref a,u,r]) Q E s:=by
 rcases g with⟨aH,k,e,ey,l⟩|⟨aH,k,b,e,ey,eb,l⟩
 ·subst ey;obtain⟨z,hd,vs,rel,dd⟩:=sM I.bz e;refine call_meetsIn Ah dd.typeIs PySem.F.entry_dict_get (PySem.F.args_dict_get_3 _ _ _) (meets_dict_get_default (gj X.prog X.w) a (sL ry) hd r) ⟨_,dd.mapOf,h _ _ (I.tok _) ?_⟩;rw[l];exact(rel.val k).getD rd
 ·subst ey;cases(show u=Value.ref b from ry)
  obtain⟨z,hd,xs,rel,dd⟩:=sN I.bz e;refine call_meetsIn Ah dd.typeIs PySem.F.entry_dict_get (PySem.F.args_dict_get_3 _ _ _) (meetsH_dict_get_default (tupleKind (gj X.prog X.w)) a b hd r) ⟨tupleKind_room_in1 hu,k,xs,vm I.bz eb,dd,h _ _ (I.tok _) ?_⟩;rw[l];exact(rel.val k).getD rd
end
def P0(td ty tx:TE):TE:=λσ H Q=>td σ H λx H1=>∃a,x=.ref a∧Hg H1 a∧ty σ H1 λy H2=>tx σ H2 λz H3=>∃o,gz H3 a y o∧Q (o.getD z) H3
section
variable{X:Cx}{o e f:Expr}{gZ eY:Pos}{td ty tx:TE}
theorem P4(hu:X.A.units+1<cLine)(ho:PE X o td)(he:PE X e ty)(hf:PE X f tx)(m:M2 X o "get" gZ e f eY):PE X (.Call (.Attribute o "get" gZ) [e,f] [] eY) (P0 td ty tx):=by
 intro aF s σ H Q I h;refine wpAny_Call_method m.base m.mZ m.line PySem.F.plainAttrs_dict Ah PySem.F.type_dict_get (aM (ho aF s σ H _ I h) λu s1 ⟨x,H1,I1,rx,a,ex,d,q1⟩=>?_);subst ex;obtain rfl:u=Value.ref a:=rx;obtain⟨t1,t2,_⟩:=PY I1 d;refine⟨t1,t2,?_⟩;rw[m.trees];refine Ag rfl (Calls.evalArgs_plain (xh (aM (he aF s1 σ H1 _ I1 q1) λiv s2 ⟨y,H2,I2,ry,q2⟩=>
  xh (aM (hf aF s2 σ H2 _ I2 q2) λfv s3 ⟨z,H3,I3,rz,ov,g,q3⟩=>Calls.spliced_nil ?_))))
 exact PZ hu I3 g ry rz λw' s4 I4 lz=>⟨_,H3,I4,lz,q3⟩
end
section
variable{X:Cx}{aF:List (Addr×Obj)}{σ:St}{H:Hp}{s:Shared}{a:Addr}{aH:List (Key×V)}{A:Around}{E:QV}
end
section
variable{X:Cx}{aF:List (Addr×Obj)}{σ:St}{H:Hp}{s:Shared}{a:Addr}{y:V}{u:Value}{A:Around}{E:QV}
end
end L2
namespace HT
open PySem PySem.Spec PyProof.Rows
variable{prog:Program}{w:World}{A:Around}{E:QV}{s:Shared}
theorem P5{t sl:Addr}{items:Array Value}{vl vu:Value}{lo hi:Option Int}{Q:QV}(ht:IsTup s.heap t items)(hs:s.heap.IsSliceOf sl vl vu .none)(pl:IsPart vl lo)(pu:IsPart vu hi)
  (h0:ck items.size 0 lo=0) (h1:ck items.size items.size hi=items.size) (h:Q (.ref t) s):wpAny (model prog w) A (getItem (.ref t) (.ref sl)) Q E s:=by
 obtain⟨os,qh,xH,uY⟩:=id hs;have AL:s.TypeIs (.ref sl) "slice":=⟨os,qh,xH⟩;unfold getItem
 try with_reducible refine wpAny_holding ?_
 first|refine aq (ao ?_)|skip
 refine aq (wpAny_sequenceKey ht.typeIs (by decide) ?_);refine aq (wpAny_callSpecial?_slot (name:=Str.ofString "__getitem__") ht.typeIs xi (wpAny_call_entry xi ht.typeIs entry_tuple_getitem ?_ (args_tuple_getitem _ _)));show wpAny _ _ (Builtin.Tuple.tupleItemsOf (.ref t) >>= _) _ _ s;refine aq (tupleItemsOf_ ht ?_);refine aq (wpAny_typeOf AL ?_);rw[af (by decide)];refine aq (Fd hs pl pu ?_);have P6:(((ck items.size 0 lo:Nat):Int)==0&&(1:Int)==1&&(ck items.size items.size hi-ck items.size 0 lo)==items.size)=true:=by
  rw[h0,h1];simp
 show wpAny _ _ (if(((ck items.size 0 lo:Nat):Int)==0&&(1:Int)==1&&(ck items.size items.size hi-ck items.size 0 lo)==items.size)=true then _ else _) _ _ s
 rw[af P6];unfold Builtin.Tuple.tupleIsExact;refine aq (aq (wpAny_typeOf ht.typeIs (ao ?_)));rw[af (by decide)];first
  |exact aq (ao (ao ⟨_,rfl,ao h⟩))
  |exact aq (m:=rule _) (ao ⟨_,rfl,ao h⟩)
  |exact ao ⟨_,rfl,ao h⟩
  |exact aq (wpAny_rule (ao ⟨_,rfl,ao h⟩))
  |exact aq (wpAny_rule (aq (ao (ao ⟨_,rfl,ao h⟩))))
end HT
namespace L2
open PySem PySem.Spec PyProof.Rows
variable{H H':Hp}{Q:QV}{X:Cx}{a:Addr}{i:Int}{s:Shared}
def Hh(K:Frag):V→Option Int→Option Int→Hp→VK→Prop:=λx lo hi H Q=>∃a xs,x=.ref a∧bQ K H a xs∧gK K H (eV xs lo hi) Q
theorem P7:sd X (Hh X.K):=by
 intro aF s σ H x v vl vu lo hi sl Q I rx hs pl pu h;obtain⟨a,xs,rfl,hx,q⟩:=h;by_cases hw:HT.ck xs.length 0 lo=0∧HT.ck xs.length xs.length hi=xs.length
 ·cases rx;obtain⟨its,r,ht,hz⟩:=I.tuple hx;have cU:its.toArray.size=xs.length:=by rw[dC];exact r.length.symm
  refine⟨"tuple",_,xi.lookup,ht.typeIs,?_⟩;refine HT.P5 ht hs pl pu (by rw[cU];exact hw.1) (by rw[cU];exact hw.2) ?_;refine⟨.ref a,H,I,rfl,q.old ?_⟩;unfold eV;rw[hw.1,hw.2,List.drop_zero,Nat.sub_zero,mh];exact hx
 ·exact NC aF s σ H _ v vl vu lo hi sl Q I rx hs pl pu ⟨a,xs,rfl,hx,hw,λp hp=>q.new hp⟩
theorem vo(K:Frag)(hK:X.K=K):sd X (Hh K):=hK▸P7
section
variable{X:Cx}
end
section
variable{K:Frag}{H1:Hp}{cp:St}{tt:TT}{te:TE}{Q:VK}{xs ys:List V}{l1 l2:Addr}{b1 b2:Bool}
end
section
variable{X:Cx}
end
structure qw(P:Program)(w:World)(K:Frag)(mg:Str→Option Value)(base:Heap)(k:Nat)(f:Addr)(fd:FuncData)(ps:List Str)(sp:Shared→Sp):Prop where
 len:∀s vs H Q E,sp s vs H Q E→vs.length=ps.length
 run:∀(A:Around)(outer:List Env)(s:Shared)(H:Hp)(args:Args)(us:List Value)(vs:List V)(Q:VK)(E:XK),dR k A→rW P w K mg base A outer s H→BindsTo s fd args (ps.zip us)→Vals vs us→sp s vs H Q E→
  codeAny (model P w) A (.call (.ref f) args) (CR bO outer P w H s Q E) s
section
variable{P:Program}{w:World}{K:Frag}{mg:Str→Option Value}{base:Heap}
theorem cL.jx{x qual:Str}{st:Stmt}{f:Addr}{fd:FuncData}{N ps:List Str}{k:Nat}{sp:Shared→Sp}(F:cL K x qual st f fd)(S:cY N ps (bp st))(len:∀s vs H Q E,sp s vs H Q E→vs.length=ps.length)
  (uW:∀(cj:Value)(A:Around)(outer:List Env)(s:Shared)(H:Hp)(vs:List V)(Q:VK)(E:XK),dR k (A.deeper (envOfC qual (bp st) s.heap.objs.size f cj))→sp s vs H Q E→
   ∃t,jt (n6 bO P w K mg base N qual (bp st) f cj A outer s H E).rR (cV st) t∧t { nx:=λ_ H'=>Q .cm H',rt:=Q } (start N vs) H):qw P w K mg base (k+1) f fd ps sp:=by
 obtain⟨oc,od,kV,doc,pm,an,cj,ct,my,rfl,lk,i9⟩:=F.ex;refine⟨len,λA outer s H args us vs Q E hr e0 hb r kf=>?_⟩;have hl:=len _ _ _ _ _ kf;have KX:K.In s.heap:=e0.mod.rJ.keeps λb o e=>(e0.bs b o e).1;have AJ:s.heap.NoLimit:=e0.mod.nolimit.keeps λb o e=>(e0.bs b o e).1;have AK:∀y∈ps.zip us,(bp st).names.lookup y.1=some .local∨((bp st).names.lookup y.1=some .cell∧((cellsFrom (s.heap.objs.size+1) (bp st).names []).lookup y.1).isSome=true):=λ⟨n,v⟩ hy=>by
  rcases S.par n (List.of_mem_zip hy).1 with q|q
  ·exact .inl q
  ·exact .inr ⟨q,PySem.W.cellsFrom_some _ _ _ (.inl q)⟩
 refine codeAny_call_function hr.depth (KX _ _ lk) rfl S.co S.gen rfl (PySem.W.codeRec_of KX i9) (hb _ _ _ _ ?_);refine wpAny_newFunctionEnv_cells S.kind AK λenv he s1 x=>?_;subst he;refine⟨AJ.keeps x.toInCall.keep,codeAny_func ?_⟩;obtain⟨t,ht,hq⟩:=uW cj A outer s H vs Q E (hr.deeper _) kf;have I:Inv (n6 bO P w K mg base N qual (bp st) f cj A outer s H E) [] (start N vs) H s1:=E8 S hr.hd e0 hl r x;refine ah (ht.rR [] s1 (start N vs) H _ I hq) (λfl s' hs=>?_) λe s' hs=>hs;have fin:∀{σ':St}{H':Hp}{v:V}{u:Value},Inv (n6 bO P w K mg base N qual (bp st) f cj A outer s H E) [] σ' H' s'→RelV v u→Q v H'→CE outer P w H s Q u s':=
  λ{σ' H' v u} J rv q=>⟨v,H',J.os,J.bare,J.base,J.bz,rv,q⟩
 cases fl with
 |ret u=>
  obtain⟨v,σ',H',J,rv,q⟩:=hs;exact fin J rv q
 |next=>
  obtain⟨σ',H',J,q⟩:=hs;exact fin (v:=V.cm) (u:=Value.none) J rfl q
 |brk=>
  obtain⟨_,_,_,q⟩:=hs;exact False.elim q
 |cont=>
  obtain⟨_,_,_,q⟩:=hs;exact False.elim q
end
section
variable{X:Cx}{k:Nat}{f:Addr}{fd:FuncData}{ps:List Str}{x:Str}{p pos:Pos}{e:Expr}{es:List Expr}{t:TA}{te:TE}
theorem BB{sp:Shared→Sp}(F:qw X.prog X.w X.K X.mg X.base k f fd ps sp)(hr:dR k X.A)(hg:Gl X x)(hm:X.mg x=some (.ref f))(hk:Kp X.K f)(hb:Binds X.K fd ps [])
  (ha:PA X (e::es) t) (qg:(x==("__debug__":Str))=false:=by decide) (he:starEach (e::es) X.env=(false,eval e X.env)::starEach es X.env:=by rfl) (jb:(backTo pos (starEach es X.env)).any (·.1)=false:=by rfl) :
  PE X (.Call (.Name x p) (e::es) [] pos) (λσ H Q=>t σ H λvs H1=>∀aF s,Inv X aF σ H1 s→sp s vs H1 Q E0):=by
 intro aF s σ H Q I h;refine ar (Ap I hg hm ?_ qg);refine PySem.W.callWith_K (h₀:=X.base) I.ok.mod.rJ hk (aM (ha pos aF s σ H _ I h) λus s1 ⟨vs,H1,I1,r,q⟩=>⟨I1.eS,?_⟩) he jb;have hs:=q aF s1 I1;have hl:us.length=ps.length:=by rw[← r.length];exact F.len _ _ _ _ _ hs
 have qm:=hb s1 us I1.eS (by rw[gJ];exact hl);rw[gJ]at qm;refine wpAny_call (codeAny_mono (F.run X.A X.stack s1 H1 ⟨us,[]⟩ us vs Q E0 hr I1.AI qm r hs) λr s' hq=>?_);cases r with
 |error e=>exact False.elim hq
 |ok fl=>
  cases fl with
  |ret u=>exact I1.after hq
  |next=>exact False.elim hq
  |brk=>exact False.elim hq
  |cont=>exact False.elim hq
end
section
variable{P:Program}{w:World}{K:Frag}{mg:Str→Option Value}{base:Heap}
end
section
variable{P:Program}{w:World}{K:Frag}{mg:Str→Option Value}{base:Heap}
end
def iU(h:Heap)(a:Addr)(D:List (Str×V)):Prop:=KTD.TabOf (λ(v:V)(u:Value)=>RelV v u) h a D
noncomputable def Hi:V→Value→Bool
 | .cm,.none=>true
 | .bl b,.bool c=>b==c
 | .int i,.int j _=>i==j
 | .str x,.str y _=>x==y
 | .ref a,.ref b=>a==b
 |_,_=>false
theorem P8(v:V)(u:Value)(h:Hi v u=true):RelV v u:=by
 cases v<;>cases u<;>first|exact Bool.noConfusion h|rfl|(have e:=beq_iff_eq.mp h;subst e;first|rfl|exact⟨_,rfl⟩)
noncomputable def P9:Value→V
 | .bool b=>.bl b
 | .int i _=>.int i
 | .str x _=>.str x
 | .ref a=>.ref a
 |_=>.cm
noncomputable def jj(K:Frag)(a:Addr):List (Str×V):=match K.lookup a with
 |some ⟨_,_,.dict es _,_⟩=>es.toList.map λe=>((match e.key with | .str x _=>x|_ => ""),P9 e.val)
 |_=>[]
noncomputable def yk(K:Frag)(a:Addr):Bool:=KTD.tabLook Hi (λb=>K.lookup b) a (jj K a)
theorem BC{K:Frag}{h:Heap}(X:K.In h)(e:yk K a=true):iU h a (jj K a):=KTD.tab_of_look P8 (λb o q=>X b o q) e
theorem iU.typeIs{D:List (Str×V)}(T:iU s.heap a D):s.TypeIs (.ref a) "dict":=by
 obtain⟨_,o,_,_,ho,hc,_⟩:=T;exact⟨o,ho,hc.1⟩
theorem iU.noDict{h:Heap}{D:List (Str×V)}(T:iU h a D):∀b,Value.ref a=.ref b→∃ob,h.get? b=some ob∧ob.dict=none:=λb e=>by
 cases e;obtain⟨_,o,_,_,ho,hc,_⟩:=T;exact⟨o,ho,hc.2.1⟩
section
variable{prog:Program}{w:World}{A:Around}{E:QV}{s:Shared}{a:Addr}{D:List (Str×V)}{x:Str}{tk:Tok}
theorem BD{Q:Option Value→Shared→Prop}(T:iU s.heap a D)(h1:∀v u,KTD.datumAt x D=some v→RelV v u→Q (some u) { s with toks:=s.toks+1 })(h2:KTD.datumAt x D=none→Q none { s with toks:=s.toks+1 }) :
  wpAny (model prog w) A (dictGet a (.str x tk)) Q E s:=by
 obtain⟨_,o,es,ep,ho,hc,hd,hr⟩:=T;have vp:(es.all λe=>isExactStrKey e.key)=true:=by
  have z:=hr.exact;obtain⟨l⟩:=es;simpa using z
 have hf:findBy (λk v=>v.isStr k) es x=(es.toList.find? λe=>e.key.isStr x).map (·.val):=by obtain⟨l⟩:=es;simp[findBy]
 have hq:Q (findBy (λk v=>v.isStr k) es x) { s with toks:=s.toks+1 }:=by
  rw[hf];cases e:KTD.datumAt x D with
  |none=>rw[hr.find_none e];exact h2 e
  |some v=>obtain⟨u,z1,z2⟩:=hr.find_some e;rw[z1];exact h1 v u e z2
 rw[findBy_of_findIdx?]at hq;unfold dictGet;refine aq (wpAny_pyHash_str (aq (KTD.kt_dictFind_strs (s:={ s with toks:=s.toks+1 }) ho hd vp ?_)));cases e:es.findIdx? λe=>e.key.isStr x with
 |none=>rw[e]at hq;exact ao hq
 |some i=>rw[e]at hq;exact aq (wpAny_dictEntries (s:={ s with toks:=s.toks+1 }) ho hd (ao hq))
theorem kd_item{v:V}(T:iU s.heap a D)(hv:KTD.datumAt x D=some v)(h:∀u,RelV v u→Q u { s with toks:=s.toks+1 }):wpAny (model prog w) A (getItem (.ref a) (.str x tk)) Q E s:=by
 unfold getItem
 try (with_reducible refine wpAny_holding ?_)
 refine aq (wpAny_sequenceKey (T.typeIs) (by decide) ?_);refine aq (wpAny_callSpecial?_slot (name:=Str.ofString "__getitem__") T.typeIs PySem.F.slot_dict_getitem (wpAny_call_entry PySem.F.slot_dict_getitem T.typeIs PySem.F.entry_dict_getitem ?_ (PySem.F.args_dict_getitem_2 _ _)));show wpAny _ _ (dictGet a (.str x tk) >>= _) _ _ s;exact aq (BD T (λv' u e r=>by rw[hv]at e;cases e;exact ao ⟨u,rfl,ao (h u r)⟩) λe=>by rw[hv]at e;cases e)
theorem Qa(T:iU s.heap a D)(h:Q (.bool (KTD.datumAt x D).isSome) { s with toks:=s.toks+1 }):wpAny (model prog w) A (compareOp .In (.str x tk) (.ref a)) Q E s:=by
 show wpAny _ _ (do return .bool (← contains (.ref a) (.str x tk))) Q E s
 refine aq ?_;unfold contains
 try (with_reducible refine wpAny_holding ?_)
 refine aq (wpAny_specialOf T.typeIs PySem.F.slot_dict_contains.lookup ?_);show wpAny _ _ (if(some (Value.builtin "dict.__contains__")==some Value.none)=true then _ else _) _ _ s
 rw[ag (by decide)];refine aq (wpAny_callSpecialUnlessNone?_slot (name:=Str.ofString "__contains__") T.typeIs PySem.F.slot_dict_contains (wpAny_call_entry PySem.F.slot_dict_contains T.typeIs PySem.F.entry_dict_contains ?_ (PySem.F.args_dict_contains_2 _ _)));show wpAny _ _ (dictGet a (.str x tk) >>= _) _ _ s;refine aq (BD T (λv u e _=>?_) λe=>?_)
 ·rw[e]at h;exact(ao ⟨_,rfl,ai (ao h)⟩)
 ·rw[e]at h;show wpAny _ _ (Builtin.Dict.pendingKey? a (.str x tk) >>= _) _ _ _;exact aq (wpAny_pendingKey_other T.1 (ao ⟨_,rfl,ai (ao h)⟩))
theorem Qb{dflt:Value}:MeetsIn prog w (Builtin.«dict.get» ⟨[.ref a,.str x tk,dflt],[]⟩) (λ_ R s=>iU s.heap a D∧(∀v u,KTD.datumAt x D=some v→RelV v u→R (.ok (.ret u)) { s with toks:=s.toks+1 })∧(KTD.datumAt x D=none→R (.ok (.ret dflt)) { s with toks:=s.toks+1 })):=
 .of_wp λA₁ R s ⟨T,h1,h2⟩=>by
  show wpAny _ _ (dictGet a (.str x tk) >>= _) _ _ s;refine aq (BD T (λv u e r=>ao ⟨u,rfl,h1 v u e r⟩) λe=>?_);show wpAny _ _ (Builtin.Dict.missed a (.str x tk) >>= _) _ _ _;exact aq (wpAny_missed_other T.1 (ao ⟨dflt,rfl,h2 e⟩))
theorem Qc{dflt:Value}(T:iU s.heap a D)(h1:∀v u,KTD.datumAt x D=some v→RelV v u→Q u { s with toks:=s.toks+1 })(h2:KTD.datumAt x D=none→Q dflt { s with toks:=s.toks+1 }) :
  wpAny (model prog w) A (call (.builtin "dict.get") [.ref a,.str x tk,dflt]) Q E s:=
 call_meetsIn Ah T.typeIs PySem.F.entry_dict_get (PySem.F.args_dict_get_3 _ _ _) (Qb (D:=D)) ⟨T,h1,h2⟩
end
section
variable{X:Cx}{o i e f:Expr}{pos gZ eY:Pos}{td ty tx:TE}{a:Addr}{D:List (Str×V)}
def Hj(a:Addr)(D:List (Str×V))(td ty:TE):TE:=λσ H Q=>td σ H λu H1=>ty σ H1 λy H2=>∃x v,u=.ref a∧y=.str x∧KTD.datumAt x D=some v∧Q v H2
theorem Qd(hT:∀h,X.K.In h→iU h a D)(ho:PE X o td)(hi:PE X i ty)(hs:Bz i):PE X (.Subscript o i pos) (Hj a D td ty):=by
 intro aF s σ H Q I h;refine G8 PySem.F.slot_dict_getitem.lookup hs (aM (ho aF s σ H _ I h) λu s1 ⟨x',H1,I1,rx,q1⟩=>aM (hi aF s1 σ H1 _ I1 q1) λiv s2 ⟨y,H2,I2,ry,x,v,ex,ey,g,q2⟩=>?_);subst ex ey;obtain rfl:u=Value.ref a:=rx;obtain⟨tk,rfl⟩:=ry;exact⟨(hT _ I2.eS).typeIs,kd_item (hT _ I2.eS) g λu r=>⟨v,H2,I2.tok _,r,q2⟩⟩
def Hk(a:Addr)(D:List (Str×V))(ty td:TE):TE:=λσ H Q=>ty σ H λy H1=>td σ H1 λu H2=>∃x,u=.ref a∧y=.str x∧Q (.bl (KTD.datumAt x D).isSome) H2
theorem Qe(hT:∀h,X.K.In h→iU h a D)(hi:PE X i ty)(ho:PE X o td):PC X .In i o (Hk a D ty td):=by
 intro aF s σ H Q I h;refine aM (hi aF s σ H _ I h) λiv s1 ⟨y,H1,I1,ry,q1⟩=>aM (ho aF s1 σ H1 _ I1 q1) λu s2 ⟨x',H2,I2,rx,x,ex,ey,q2⟩=>?_;subst ex ey;obtain rfl:u=Value.ref a:=rx;obtain⟨tk,rfl⟩:=ry;exact Qa (hT _ I2.eS) ⟨.bl _,H2,I2.tok _,rfl,q2⟩
def Qf(a:Addr)(D:List (Str×V))(td ty tx:TE):TE:=λσ H Q=>td σ H λu H1=>u=.ref a∧ty σ H1 λy H2=>tx σ H2 λz H3=>∃x,y=.str x∧Q ((KTD.datumAt x D).getD z) H3
theorem Hl(hT:∀h,X.K.In h→iU h a D)(ho:PE X o td)(he:PE X e ty)(hf:PE X f tx)(m:M2 X o "get" gZ e f eY):PE X (.Call (.Attribute o "get" gZ) [e,f] [] eY) (Qf a D td ty tx):=by
 intro aF s σ H Q I h;refine wpAny_Call_method m.base m.mZ m.line PySem.F.plainAttrs_dict Ah PySem.F.type_dict_get (aM (ho aF s σ H _ I h) λu s1 ⟨x',H1,I1,rx,ex,q1⟩=>?_);subst ex;obtain rfl:u=Value.ref a:=rx;refine⟨(hT _ I1.eS).typeIs,(hT _ I1.eS).noDict,?_⟩;rw[m.trees];refine Ag rfl (Calls.evalArgs_plain (xh (aM (he aF s1 σ H1 _ I1 q1) λiv s2 ⟨y,H2,I2,ry,q2⟩=>xh (aM (hf aF s2 σ H2 _ I2 q2) λfv s3 ⟨z,H3,I3,rz,x,ey,q3⟩=>Calls.spliced_nil ?_))));subst ey;obtain⟨tk,rfl⟩:=ry;refine Qc (hT _ I3.eS) (λv u e r=>⟨v,H3,I3.tok _,r,?_⟩) λe=>⟨z,H3,I3.tok _,rz,?_⟩
 ·rw[e]at q3;exact q3
 ·rw[e]at q3;exact q3
end
noncomputable def sO(hi:Int)(n:Nat):It:=⟨λi _=>i<n,λi H x H'=>H'=H∧x=.int (hi-i),λi _=>n≤i⟩
theorem Qg{P:Program}{w:World}{K:Frag}{tg:Expr}(it:Addr)(hi:Int)(n:Nat):Turn P w K tg (sO hi n) [it] it (λi h=>IsRangeIter h it (hi+(i:Nat)*(-1)) ((n:Int)-(i:Nat)) (-1)) where
 mem:=by simp
 obj:=λi h st b hb=>by
  have e:b=it:=by simpa using hb
  subst e;refine⟨_,st,λv z=>?_⟩;cases(show Data.fields _=Data.cell v from z)
 keep:=λi h h' st k=>k it (by simp) _ st
 item:=by
  intro X hP hw hK hc i aF s σ H E I hf st hg;subst hP hw hK;obtain⟨f0,f1,f2,f3,f4,f5⟩:=hf it (by simp);refine(Walks.range (prog:=X.prog) (w:=X.w) (I.ok.hd hc) it hi (-1) n).item i s _ _ hg st λv h' tk hv lj kk=>?_;obtain⟨t,rfl⟩:=hv;have I1:Inv X aF σ H { s with heap:=h',toks:=tk }:=I.turned (λb o hb e=>kk b o (by simpa using hb) e) f0 f1 f3 f4 f5;refine⟨_,rfl,xx (s:={ s with heap:=h',toks:=tk }) (n := "range_iterator") lj rfl rfl (by decide) ⟨.int (hi-i),H,I1,⟨t,?_⟩,⟨rfl,rfl⟩,lj,λb hb=>(hf b hb).1⟩⟩;rw[Int.mul_neg,Int.mul_one,Int.sub_eq_add_neg]
 done:=by
  intro X hP hw hK hc i aF s σ H E I hf st hg;subst hP hw hK;obtain⟨f0,f1,f2,f3,f4,f5⟩:=hf it (by simp);exact wpAny_pyNext_range_end (I.ok.hd hc) st (by have:n≤i:=hg;lia) λh' eb=>⟨rfl,I.turned (t':=s.toks) (λb o hb e=>eb b o hb e) f0 f1 f3 f4 f5⟩
 self:=λ_ _ _ _ _ st h=>wpAny_pyIter_rangeiter st h
theorem Hm(h:-1≤i):Builtin.Range.rangeSize i (-1) (-1)=i+1:=by
 (unfold Builtin.Range.rangeSize)
 rw[ag (by decide)];split
 ·rw[show(-(-1):Int)=1 from rfl,Int.ediv_one];lia
 ·lia
theorem small_down(h:-1≤i)(h2:i<2^61):Builtin.Range.small i (-1) (-1)=true:=by
 unfold Builtin.Range.small;rw[Hm h];simp only[Builtin.Range.rangeFitsLong,fq,Bool.or_eq_true,ay,beq_iff_eq];exact⟨⟨⟨⟨⟨by lia,by lia⟩,by decide,by decide⟩,by decide,by decide⟩,by lia,by lia⟩,.inr (by decide)⟩
section
variable{X:Cx}{tg:Expr}
def Qh(ta:TA):TI:=λσ H R=>ta σ H λvs H1=>∃i:Int,vs=[.int i,.int (-1),.int (-1)]∧(-1≤i∧i<2^61)∧R (sO i (i+1).toNat) H1
theorem Qi{aF:List (Addr×Obj)}{σ:St}{R:It→Hp→Prop}{E:QV}{t u v:Tok}{tk:Nat}(I:Inv X aF σ H s)(h1:-1≤i)(h2:i<2^61)(q:R (sO i (i+1).toNat) H) :
  wpAny (model X.prog X.w) X.A (pyIter (.ref s.heap.objs.size)) (Au X aF σ tg R) E { s with heap:=s.heap.push { cls:=.type "range",data:=.fields #[.int i t,.int (-1) u,.int (-1) v] },toks:=tk }:=by
 refine wpAny_pyIter_range (IsRange.new ..) (small_down h1 h2) ?_;have I1:Inv X aF σ H { s with heap:=s.heap.push { cls:=.type "range",data:=.fields #[.int i t,.int (-1) u,.int (-1) v] },toks:=tk }:=I.kept λb o e=>fc _ e;generalize s.heap.push { cls:=.type "range",data:=.fields #[.int i t,.int (-1) u,.int (-1) v] }=h3 at I1 ⊢;refine⟨h3.objs.size,[h3.objs.size],_,_,H,rfl,I1.kept (t':=tk) λb o e=>fc _ e,Qg _ i (i+1).toNat,?_,λb hb=>?_,q⟩
 ·show IsRangeIter _ _ (i+((0:Nat):Int)*(-1)) ((((i+1).toNat:Nat):Int)-((0:Nat):Int)) (-1);rw[show i+((0:Nat):Int)*(-1)=i by simp,show(((i+1).toNat:Nat):Int)-((0:Nat):Int)=Builtin.Range.rangeSize i (-1) (-1) by rw[Hm h1];lia];exact jL _ rfl
 ·have e:b=h3.objs.size:=by simpa using hb
  subst e;exact I1.nY (bH _) (I1.bz.fresh (bH _))
theorem Qj{a b c:Expr}{ta:TA}{p pos:Pos}(hg:Gl X "range")(hm:X.mg "range"=none)(ha:PA X [a,b,c] ta)(hs:starEach [a,b,c] X.env=(false,eval a X.env)::starEach [b,c] X.env:=by rfl)(Qk:(backTo pos (starEach [b,c] X.env)).any (·.1)=false:=by rfl) :
  PI X tg (.Call (.Name "range" p) [a,b,c] [] pos) (Qh ta):=by
 intro aF s σ H R I h;refine Call_ (rO I hg hm boot_range (Ej (aM (ha pos aF s σ H _ I h) λus s1 ⟨vs,H1,I1,r1,q1⟩=>?_) hs Qk));obtain⟨i,e,⟨q1,q2⟩,q⟩:=q1;subst e;cases r1 with
 |cons r rr=>
  cases rr with
  |cons r' rr=>
   cases rr with
   |cons r2 rr=>
    cases rr;obtain⟨t,rfl⟩:=r;obtain⟨t',rfl⟩:=r';obtain⟨t2,rfl⟩:=r2;exact call_range_3 (by decide) (Qi I1 q1 q2 q) (Or.inl (PyProof.noPylong_small (by lia)))
end
theorem Ql{hi:Int}{n:Nat}{g:TG}{tb:TS}{D:Ends}{σ:St}(Pv:Nat→St→Hp→Prop)(h0:Pv 0 σ H)
  (hs:∀i σ H,i<n→Pv i σ H→g (.int (hi-(i:Nat))) σ H λσ2 H2=>tb { D with nx:=Pv (i+1),ct:=Pv (i+1),bk:=D.nx } σ2 H2) (hd:∀σ H,Pv n σ H→D.nx σ H) :
  ∃W:Nat→Nat→St→Hp→Prop,(∃m,W 0 m σ H)∧∀i m σ H,W i m σ H→
   ((sO hi n).stop i H∧D.nx σ H)∨((sO hi n).go i H∧∃N:St→Hp→Prop,(∀σ' H',N σ' H'→∃m',m'<m∧W (i+1) m' σ' H')∧∀x H',(sO hi n).oU i H x H'→g x σ H' λσ2 H2=>tb { D with nx:=N,ct:=N,bk:=D.nx } σ2 H2):=by
 refine⟨λi m σ H=>m=n-i∧i≤n∧Pv i σ H,⟨n,by simp,Nat.zero_le _,h0⟩,?_⟩;rintro i m σ H ⟨rfl,gM,p⟩;by_cases dt:i<n
 ·exact .inr ⟨dt,Pv (i+1),λσ' H' p'=>⟨n-(i+1),by lia,rfl,dt,p'⟩,λx H' ⟨z1,z2⟩=>by subst z1 z2;exact hs i σ _ dt p⟩
 ·have e:i=n:=by lia
  subst e;exact .inl ⟨bH _,hd σ H p⟩
def sP(cp:St)(P:Hp→List V→Prop):St→Hp→List V→Prop:=λσ H zs=>(∃o:St,o.length=1∧σ=o++cp)∧P H zs
theorem sP.mk{cp:St}{P:Hp→List V→Prop}{x:Option V}{zs:List V}(h:P H zs):sP cp P (x::cp) H zs:=⟨⟨[x],rfl,rfl⟩,h⟩
theorem Qm{cp:St}{te:TE}{Q:VK}{n:Nat}{H1:Hp}{lo:Int}(Pv:Nat→Hp→List V→Prop)(hz:n≤sizeLine)(h0:Pv 0 H1 [])(cU:∀i H zs,Pv i H zs→zs.length≤i)
  (step:∀i H zs,i<n→Pv i H zs→te (some (.int (lo+(i:Nat)))::cp) H λv H5=>sP cp (Pv (i+1)) (some (.int (lo+(i:Nat)))::cp) H5 (zs++[v])) (done:∀H zs,Pv n H zs→∀p,H p=none→Q (.ref p) (upd H p (.lst zs))) :
  ∃W:Nat→Nat→St→Hp→List V→Prop,(∃m,W 0 m (List.replicate 1 none++cp) H1 [])∧ph (oW lo n) (bo 0) mK te Q W:=by
 refine⟨λi m σ H zs=>m=n-i∧i≤n∧sP cp (Pv i) σ H zs,⟨n,by simp,Nat.zero_le _,⟨_,by simp,rfl⟩,h0⟩,?_⟩;rintro i m σ H zs ⟨rfl,hi,⟨o,ho,rfl⟩,pv⟩;have hl:=cU _ _ _ pv;by_cases dt:i<n
 ·refine .inr ⟨dt,by lia,sP cp (Pv (i+1)),λσ2 H2 jX q=>⟨n-(i+1),by lia,rfl,dt,q⟩,λx H2 y=>?_⟩;obtain⟨z,rfl⟩:=Bi ho;obtain⟨rfl,rfl⟩:=y;exact step i _ zs dt pv
 ·have e:i=n:=by lia
  subst e;exact .inl ⟨bH _,by lia,done H zs pv⟩
def eo(H H':Hp):Prop:=∀b o,H b=some o→((∃xs,o=.tup xs)∨∃ob u,o=.i8 ob u)→H' b=some o
theorem eo.trans{H1 H2:Hp}(a:eo H H1)(b:eo H1 H2):eo H H2:=λc o h k=>b c o (a c o h k) k
theorem aJ.tup(s:aJ H H'):eo H H':=λb o h _=>s b o h
theorem eo.upd{H:Hp}{a:Addr}{o:HO}(h:∀u,H a=some u→(∃xs,u=.lst xs)∨∃aH,u=.dK aH):eo H (upd H a o):=λb u e k=>by
 have ne:b≠a:=λz=>by
  subst z;rcases h u e with⟨xs,rfl⟩|⟨aH,rfl⟩<;>rcases k with⟨_,z⟩|⟨_,_,z⟩<;>cases z
 rw[cC ne];exact e
theorem eo.lst{H:Hp}{a:Addr}{xs:List V}{o:HO}(h:H a=some (.lst xs)):eo H (L2.upd H a o):=eo.upd λu e=>.inl ⟨xs,by rw[h]at e;exact(eM e).symm⟩
theorem eo.Hn{aH:List (Key×V)}{o:HO}(h:H a=some (.dK aH)):eo H (L2.upd H a o):=eo.upd λu e=>.inr ⟨aH,by rw[h]at e;exact(eM e).symm⟩
theorem eo.cG{K:Frag}{xs:List V}(e:eo H H')(h:bQ K H a xs):bQ K H' a xs:=by
 rcases h with h|h
 ·refine .inl ?_;rcases h with h|⟨o,h⟩
  ·exact .inl (e _ _ h (.inl ⟨xs,rfl⟩))
  ·exact .inr ⟨o,e _ _ h (.inr ⟨o,_,rfl⟩)⟩
 ·exact .inr h
theorem aJ.put{o:HO}(s:aJ H H')(h:H a=none):aJ H (L2.upd H' a o):=λb u e=>by
 rw[cC (fZ e h)];exact s b u e
structure lI(P:Program)(w:World)(K:Frag)(mg:Str→Option Value)(base:Heap)(k:Nat)(s:Shared)(H:Hp)(f:Addr)(R:List V→Hp→VK→Prop):Prop where
 here:(∃φ:Heap→Prop,H f=some (.ext φ)∧∀h,φ h→PySem.W.FnAt f h)∨∀h,K.In h→PySem.W.FnAt f h
 run:∀(A:Around)(outer:List Env)(s':Shared)(H':Hp)(vs:List V)(us:List Value)(Q:VK),dR k A→rW P w K mg base A outer s' H'→aJ H H'→
  (∀c o,s.heap.get? c=some o→H c=none→H' c=none∧∃sl,s'.heap.get? c=some { o with slots:=sl })→Vals vs us→R vs H' Q→codeAny (model P w) A (.call (.ref f) ⟨us,[]⟩) (CR bO outer P w H' s' Q E0) s'
theorem lI.Ho{P:Program}{w:World}{K:Frag}{mg:Str→Option Value}{base:Heap}{k:Nat}{f:Addr}{fd:FuncData}{ps:List Str}{sp:Sp}{x qual:Str}{st:Stmt}(F:bN P w K mg base bO k f fd ps sp)(G:cL K x qual st f fd)(hb:Binds K fd ps []) :
  lI P w K mg base k s H f (λvs H' Q=>sp vs H' Q E0):=by
 refine⟨.inr λh X=>?_,λA outer s' H' vs us Q hr e0 _ _ r q=>?_⟩
 ·obtain⟨oc,od,kV,doc,pm,an,cj,ct,my,rfl,lk,_⟩:=G.ex;exact⟨_,_,_,_,X _ _ lk⟩
 ·have KX:K.In s'.heap:=e0.mod.rJ.keeps λb o e=>(e0.bs b o e).1;have hl:us.length=ps.length:=by rw[← r.length];exact F.len _ _ _ _ q
  have qm:=hb s' us KX (by rw[gJ];exact hl);rw[gJ]at qm;exact F.run A outer s' H' ⟨us,[]⟩ us vs Q E0 hr e0 qm r q
section
variable{X:Cx}{k:Nat}{f:Addr}{x:Str}{p pos:Pos}{e:Expr}{es:List Expr}{t:TA}{R:List V→Hp→VK→Prop}
theorem Qn{i:Nat}(L:lI X.prog X.w X.K X.mg X.base k X.s₀ X.H₀ f R)(hr:dR k X.A)(hex:X.ex=[])(hN:X.N[i]?=some x)(hv:rK X.env.scope x)(ha:PA X (e::es) t)
  (hd:(x==("__debug__":Str))=false:=by decide) (i9:(x==("__classdict__":Str))=false:=by decide) (he:starEach (e::es) X.env=(false,eval e X.env)::starEach es X.env:=by rfl) (jb:(backTo pos (starEach es X.env)).any (·.1)=false:=by rfl) :
  PE X (.Call (.Name x p) (e::es) [] pos) (λσ H Q=>σ[i]?=some (some (.ref f))∧aJ X.H₀ H∧t σ H λvs H1=>aJ X.H₀ H1∧R vs H1 Q):=by
 intro aF s σ H Q I ⟨hσ,sm,h⟩;have Hq:∀{σ:St}{H1:Hp}{s1:Shared},Inv X aF σ H1 s1→aJ X.H₀ H1→PySem.W.FnAt f s1.heap:=λI1 vq=>by
  rcases L.here with⟨φ,hφ,uM⟩|z
  ·exact uM _ (I1.bz f _ (vq _ _ hφ)).1
  ·exact z _ I1.eS
 refine ar (aM (EB hN hv hd i9 aF s σ H (λv H1=>v=.ref f∧H1=H) I ⟨_,hσ,rfl,rfl⟩) λu s1 ⟨v,H1,I1,r,e1,e2⟩=>?_);subst e1 e2;cases r;refine PySem.W.callWith_F (Hq I1 sm) (aM (ha pos aF s1 σ H1 _ I1 h) λus s2 ⟨vs,H2,I2,rv,vt,hq⟩=>⟨Hq I2 vt,?_⟩) he jb;refine wpAny_call (codeAny_mono (L.run X.A X.stack s2 H2 vs us Q hr I2.AI vt (λc o hc hn=>?_) rv hq) λr s' hq=>?_)
 ·have vv:c ∉ X.ex:=by rw[hex];simp
  exact⟨I2.base.free c o hc hn vv,I2.base.any hc hn vv⟩
 cases r with
 |error e=>exact False.elim hq
 |ok fl=>
  cases fl with
  |ret u=>exact I2.after hq
  |next=>exact False.elim hq
  |brk=>exact False.elim hq
  |cont=>exact False.elim hq
end
theorem sQ(K:Frag)(hK:X.K=K){o:Expr}{to:TE}{gZ eY:Pos}(ho:PE X o to)(qj:attributeBase o "pop" X.env (eval o X.env)=eval o X.env:=by rfl)(qk:(gZ.endLine==eY.line)=true:=by rfl) :
  PE X (.Call (.Attribute o "pop" gZ) [] [] eY) (xJ K "list" AV to):=hK▸Fm ke PySem.F.slot_list_pop PySem.F.type_list_pop NX ho qj qk
end L2
namespace Bw
theorem Qo{p a b:Int}(h:p∣a)(k:p∣a-b):p∣b:=by
 have:=Int.dvd_sub h k
 rwa[show a-(a-b)=b by lia]at this
section
variable{p:Int}{n:Nat}{L L' L'':LL}
theorem yl(h:∀r∈L,Sp p (RS L') (fn r)){v:Fn}(hv:Sp p (RS L) v):Sp p (RS L') v:=hv.trans λf hf=>by
 obtain⟨r,hr,rfl⟩:=hf;exact h r hr
end
end Bw
namespace S21
open PySem L2 Bw
variable{H:Hp}
noncomputable def top(i:Nat):Stmt:=PySem.Challenge.pw_bentwires_k51_each_rule.main.body.getD i (.Pass ⟨0,0,0,0⟩)
noncomputable abbrev sR:Stmt:=top 4
noncomputable abbrev sS:Stmt:=top 8
noncomputable abbrev sT:Stmt:=top 9
noncomputable abbrev qx:Stmt:=top 10
noncomputable abbrev sU:Stmt:=top 11
noncomputable abbrev qy:Stmt:=top 12
noncomputable abbrev sV:Stmt:=top 13
noncomputable abbrev qz:Stmt:=top 14
noncomputable abbrev sW:Stmt:=top 15
noncomputable abbrev qA:Stmt:=top 16
noncomputable abbrev sX:Stmt:=top 21
noncomputable abbrev sY:Stmt:=top 22
noncomputable abbrev sZ:Stmt:=top 23
noncomputable abbrev tf:Stmt:=top 24
noncomputable abbrev tm:Stmt:=top 25
noncomputable abbrev tq:Stmt:=top 26
noncomputable abbrev tD:Stmt:=top 29
noncomputable abbrev kl:Stmt:=top 30
noncomputable abbrev qB:Stmt:=top 31
noncomputable abbrev qC:Stmt:=top 32
noncomputable abbrev tE:Stmt:=top 33
noncomputable abbrev ot:Stmt:=top 34
noncomputable abbrev tF:Stmt:=top 35
noncomputable abbrev qD:Stmt:=top 36
noncomputable abbrev tG:Stmt:=top 37
noncomputable abbrev tH:Stmt:=top 38
noncomputable abbrev tI:Stmt:=top 39
noncomputable abbrev tJ:Stmt:=top 40
noncomputable abbrev tK:Stmt:=top 41
noncomputable abbrev tL:Stmt:=top 42
noncomputable abbrev tM:Stmt:=top 43
noncomputable abbrev qE:Stmt:=top 44
noncomputable abbrev qF:Stmt:=top 45
noncomputable abbrev qG:Stmt:=top 46
noncomputable abbrev ou:Stmt:=top 47
structure Txt(mg:Str→Option Value):Prop where
 range:mg "range"=none
 zip:mg "zip"=none
 tuple:mg "tuple"=none
 list:mg "list"=none
 int:mg "int"=none
 bool:mg "bool"=none
 isinstance:mg "isinstance"=none
 len:mg "len"=none
 sum:mg "sum"=none
 max:mg "max"=none
 min:mg "min"=none
 aci:mg "enumerate"=none
 any:mg "any"=none
 all:mg "all"=none
 str:mg "str"=none
theorem BE{r:List Int}{j:Nat}(h:j<r.length):r[j]?=some (r.getD j 0):=by
 rw[cg h,dP,cg h];rfl
theorem vw{r:List Int}{j:Nat}(h:j<r.length):(r.map V.int)[j]?=some (.int (r.getD j 0)):=by
 rw[fj,BE h];rfl
theorem vx{c A B:Prop} [Decidable c] (h1:¬c→A) (h2:c→B):if(!decide c)=true then A else B:=by
 by_cases h:c
 ·exact Og h (h2 h)
 ·rw[ae h];exact eP (h1 h)
section
variable{K:Frag}
theorem Qp{RS:List V}{rs:LL}(hA:du K H RS (rs.map jg)):RS.length=rs.length:=by rw[hA.length,br]
end
open Classical in
theorem Hr{d e:Dat}{A B:Prop}(h:d≠e)(b:A):if(if true=true then !decide (d=e)else decide (d=e))=true then A else B:=by
 simp only[if_true,ae h,Bool.not_false];exact b
theorem Qq{s1 s2:TS}{D:Ends}{σ:St}(J:St→Hp→Prop)(h:∀N:St→Hp→Prop,(∀σ H,J σ H→N σ H)→s1 { D with nx:=N } σ H)(hr:∀σ H,J σ H→s2 D σ H):bu s1 s2 D σ H:=h _ hr
theorem eE{H':Hp}{l:Addr}(e:aJ H H')(h:H' l=none):H l=none:=by
 cases q:H l with
 |none=>rfl
 |some o=>rw[e _ _ q]at h;cases h
end S21
namespace L2
open PySem PySem.Spec PyProof.Rows
section
variable{P:Program}{w:World}{K:Frag}{mg:Str→Option Value}{base:Heap}
end
end L2
namespace Bw
variable{D L T:LL}{h:List Int}{n:Nat}{p:Int}
noncomputable def e7(p:Int)(k:Nat)(h row:List Int):List Int:=ia p row (-(row.getD k 0)) h
theorem Qr{k:Nat}{row:List Int}(p0:0<p)(hh:Rw p n h)(hr:Rw p n row):e7 p k h row=eD p h k row:=by
 unfold e7 eD;split
 ·rfl
 ·rename_i h0
  have h0:row.getD k 0=0:=by simpa using h0
  refine(vg _ p0 hr.1 hh.1).ext p0 hr λj=>?_;rw[vf _ hr.1 hh.1,h0];split
  ·have:=lE p (row.getD j 0 + -0*h.getD j 0)
   rwa[show row.getD j 0 + -0*h.getD j 0=row.getD j 0 by simp]at this ⊢
  ·rw[hr.out (by lia)];exact⟨0,by simp⟩
theorem Hs{a b x:Int}(p0:0<p)(ha:a*x%p=1)(hb:b*x%p=1)(a0:0≤a)(a1:a<p)(b0:0≤b)(b1:b<p):a=b:=by
 refine Gs ?_ a0 a1 b0 b1;obtain⟨u,hu⟩:=lE p (a*x);obtain⟨v,hv⟩:=lE p (b*x);rw[ha]at hu;rw[hb]at hv;exact⟨a*v-b*u,by grind⟩
theorem Qs{c:Int}{k:Nat}(hp:p∈cK)(hh:Rw p n h)(h0:h.getD k 0≠0)(c0:1≤c)(c1:c<p)(hc:c*h.getD k 0%p=1):(h.map λx=>x*c%p)=dG p n h k:=by
 have p0:0<p:=by have:=fK p hp;lia
 have b:=hh.at p0 k;obtain⟨t1,t2,t3⟩:=sx hp (show 1≤h.getD k 0 by lia) b.2;have e:=Hs p0 hc t3 (by lia) c1 (by lia) t2;have r1:Rw p n (h.map λx=>x*c%p):=⟨by simp[hh.1],λx hx=>by
  obtain⟨y,_,rfl⟩:=dN.mp hx;exact⟨i6 _ (by lia),i7 _ p0⟩⟩
 refine r1.ext p0 (x6 p0 hh) λj=>?_;rw[vh hh,← e];by_cases hj:j<n
 ·rw[af hj,G0 hh.1 hj];exact⟨0,by lia⟩
 ·rw[ag hj,r1.out (by lia)];exact⟨0,by simp⟩
theorem drop_zero{k:Nat}{A B:LL}{z:List Int}(I:ib p n L k (D,A++z::B))(hz:∀j,z.getD j 0=0):ib p n L k (D,A++B):=by
 have sub:∀r,r∈A++B→r∈A++z::B:=λr hr=>by
  rcases dM.mp hr with h|h<;>simp[h]
 refine⟨I.d,λr hr=>I.r r (sub r hr),λr hr=>I.z r (sub r hr),I.oj,λr hr=>I.sub r ?_,λr hr=>(I.sup r hr).trans λf hf=>?_⟩
 ·rcases(dM.mp hr)with(h|h)
  ·exact jM _ h
  ·exact fY _ (sub r h)
 ·obtain⟨q,hq,rfl⟩:=hf;rcases(dM.mp hq)with(h|h)
  ·exact .mem ⟨q,jM _ h,rfl⟩
  ·rcases(dM.mp h)with(h|h)
   ·exact .mem ⟨q,fY _ (jM _ h),rfl⟩
   ·rcases(e9.mp h)with(rfl|h)
    ·exact Sp.zero.of_eq λj=>(hz j).symm
    ·exact .mem ⟨q,fY _ (fY _ h),rfl⟩
theorem ib.skip{k:Nat}(I:ib p n L k (D,T))(h:∀r∈T,r.getD k 0=0):ib p n L (k+1) (D,T):=by
 obtain⟨ls,E⟩:=I.oj;exact⟨I.d,I.r,λr hr j hj=>by
  by_cases e:j=k
  ·subst e;exact h r hr
  ·exact I.z r hr j (by lia),⟨ls,E.len,E.up,λl hl=>Nat.lt_succ_of_lt (E.lt l hl),E.one,E.alone⟩,I.sub,I.sup⟩
theorem ib.head{k i:Nat}(hp:p∈cK)(hk:k<n)(I:ib p n L k (D,T))(hi:T[i]?=some h)(h0:h.getD k 0≠0)(hf:∀j q,j<i→T[j]?=some q→q.getD k 0=0) :
  ib p n L (k+1) (D.map (eD p (dG p n h k) k)++[dG p n h k],(T.eraseIdx i).map (eD p (dG p n h k) k)):=by
 have p0:0<p:=by have:=fK p hp;lia
 have il:=(dB.mp hi).1;have hT:T=T.take i++h::T.drop (i+1):=by
  have hd:T.drop i=h::T.drop (i+1):=by rw[Ai il,(dB.mp hi).2]
  rw[← hd,List.take_append_drop]
 have ym:Rw p n h:=I.r h (d8 hi);have vy:T.filter (λr=>r.getD k 0≠0)=h::(T.drop (i+1)).filter λr=>r.getD k 0≠0:=by
  rw(occs:=.pos [1]) [hT];rw[List.filter_append,List.filter_cons_of_pos (by simpa using h0),List.filter_eq_nil_iff.mpr]
  ·rfl
  ·intro q hq;obtain⟨j,hj,rfl⟩:=rC.mp hq;have Ht:j<i:=by rw[dD]at hj;lia
   have:=hf j _ Ht (by rw[cg (by lia)])
   rw[List.getElem_take];simpa using this
 have S:=Gz hp (show k+1≤n by lia) I;unfold x5 at S;dsimp only at S;rw[vy]at S;dsimp only at S;have iR:=x6 (place:=k) p0 ym;have b:=ym.at p0 k;obtain⟨t1,t2,t3⟩:=sx hp (show 1≤h.getD k 0 by lia) b.2;have zc:∀j,(eD p (dG p n h k) k h).getD j 0=0:=λj=>by
  unfold eD;rw[af h0,vf _ ym.1 iR.1];split
  ·rename_i hj
   apply Int.emod_eq_zero_of_dvd;rw[vh ym,af hj];obtain⟨u,hu⟩:=lE p (h.getD j 0*cJ p (h.getD k 0));obtain⟨v,hv⟩:=lE p (cJ p (h.getD k 0)*h.getD k 0);rw[t3]at hv;exact⟨h.getD j 0*v-h.getD k 0*u,by grind⟩
  ·rfl
 have e1:(T.eraseIdx i).map (eD p (dG p n h k) k)=(T.take i).map (eD p (dG p n h k) k)++(T.drop (i+1)).map (eD p (dG p n h k) k):=by
  rw[List.eraseIdx_eq_take_drop_succ,fe]
 have e2:T.map (eD p (dG p n h k) k)=(T.take i).map (eD p (dG p n h k) k)++eD p (dG p n h k) k h::(T.drop (i+1)).map (eD p (dG p n h k) k):=by
  rw(occs:=.pos [1]) [hT];rw[fe,iJ]
 rw[e2]at S;rw[e1];exact drop_zero S zc
theorem ib.start(hL:d6 p n L):ib p n L 0 ([],L):=
 ⟨λr hr=>(nomatch hr),hL,λr _ j hj=>absurd hj (by lia),⟨[],rfl,.nil,by simp,by simp,by simp⟩,λr hr=>.mem ⟨r,hr,rfl⟩,λr hr=>.mem ⟨r,hr,rfl⟩⟩
theorem ib.done(hp:p∈cK)(hL:d6 p n L)(I:ib p n L n (D,T)):D=jh p L:=by
 have sup:∀r∈L,Sp p (RS D) (fn r):=λr hr=>(I.sup r hr).trans λf hf=>by
  obtain⟨r0,h0,rfl⟩:=hf;rcases(dM.mp h0)with(h0|h0)
  ·exact .mem ⟨r0,h0,rfl⟩
  ·exact(Sp.zero).of_eq λj=>(GO (I.r r0 h0) (I.z r0 h0) j).symm
 have R:=Bq hp hL;obtain⟨ls,E⟩:=I.oj;obtain⟨ms,EM⟩:=R.oj;exact E.unique hp EM I.d R.rws (λr hr=>yl R.sup (I.sub r (jM _ hr))) (λr hr=>yl sup (R.sub r hr))
theorem ib.len{p:Int}{n k:Nat}{L D T:LL}(I:ib p n L k (D,T))(hk:k≤n):D.length≤k:=by
 obtain⟨ls,E⟩:=I.oj
 have:=Py (n:=k) E.up E.lt
 have e:ls.length=D.length:=E.len;lia
section
variable{p:Int}{n:Nat}
end
end Bw
namespace S21
open PySem L2 Bw
noncomputable def yn:List (Str×V):=[("times",.int 1),("back",.int 1),("beside",.int 2),("then",.int 2)]
noncomputable def jy(x:Str):Nat:=if x="times"∨x="back" then 1 else if x="beside"∨x="then" then 2 else 0
theorem Qt(x:Str):(PyProof.Rows.KTD.datumAt x yn).getD (.int 0)=.int (jy x):=by
 unfold yn jy;simp only[PyProof.Rows.KTD.datumAt,ay];by_cases h1:x="times"
 ·simp[h1]
 ·by_cases h2:x="back"
  ·simp[h2]
  ·by_cases h3:x="beside"
   ·subst h3;rfl
   ·by_cases h4:x="then"
    ·subst h4;rfl
    ·simp[h1,h2,h3,h4]
theorem ED(x:Str):jy x≤2:=by
 unfold jy;split
 ·lia
 ·split<;>lia
structure Parts(K:Frag)(mg:Str→Option Value)(aP:Addr):Prop where
 nm:mg "PARTS"=some (.ref aP)
 tab:∀h,K.In h→iU h aP yn
theorem Qu:(["part","values"]:List Str).Nodup:=by decide +kernel
structure pA(k:Nat)(P:Program)(w:World)(K:Frag)(mg:Str→Option Value)(base:Heap)(s:Shared)(H:Hp)(Q:VK)(aw f:Addr)(ws:List V)(R:List V→Hp→VK→Prop)(G:Nat→List V→Hp→Prop):Prop where
 ow:bQ K H aw ws
 len:ws.length≤200
 fn:lI P w K mg base k s H f R
 g0:G ws.length [] H
 mono:∀i vs H1 H2,G i vs H1→eo H1 H2→G i vs H2
 mZ:∀i vs H1,G i vs H1→vs.length≤200
 kind:∀i,i<ws.length→(∃x,ws[i]?=some (.str x))∨∃n,ws[i]?=some (.int n)
 num:∀i n vs H1,ws[i]?=some (.int n)→G (i+1) vs H1→G i (vs++[.int n]) H1
 word:∀i x vs H1,ws[i]?=some (.str x)→G (i+1) vs H1→∃cQ ps,vs=cQ++ps.reverse∧ps.length=jy x∧
  ∀pa H2 Q',eo H1 H2→H2 pa=some (.lst ps)→(∀v H3,aJ H2 H3→G i (cQ++[v]) H3→Q' v H3)→R [.int i,.str x,.ref pa] H2 Q'
 first:∃x,ws[0]?=some (.str x)
 fin:∀td aH vs v H',aJ H H'→H' td=some (.dK aH)→dh aH (Sum.inl 0)=some v→G 0 (vs++[v]) H'→Q (.ref td) H'
noncomputable abbrev Qv:List Str:=["words","made","told","values","place","word","parts"]
theorem tN:cY ["words","made","told","values","place","word","parts"] ["words","made"] (bp qx):=dE rfl rfl rfl (by decide +kernel) rfl
noncomputable def yo:Option V→Bool
 |some (.str _)=>true
 |_=>false
noncomputable def km(ws:List V):Nat→List Nat
 |0=>[]
 |j+1=>if yo ws[ws.length-(j+1)]? then km ws j++[ws.length-(j+1)]else km ws j
theorem Hu(ws:List V)(j:Nat):km ws (j+1)=if yo ws[ws.length-(j+1)]? then km ws j++[ws.length-(j+1)]else km ws j:=rfl
theorem Hv(ws:List V):∀j,(km ws j).length≤j
 |0=>bH _
 |j+1=>by
  have:=Hv ws j
  unfold km;split
  ·rw[bh];exact Nat.add_le_add_right this 1
  ·lia
theorem BF(ws:List V):∀j,j≤ws.length→∀i∈km ws j,ws.length-j≤i
 |0,_,i,h=>by cases h
 |j+1,hj,i,h=>by
  unfold km at h;split at h
  ·rcases(dM.mp h)with(z|z)
   ·have:=BF ws j (by lia) i z;lia
   ·rw[cX.mp z];exact bH _
  ·have:=BF ws j (by lia) i h;lia
structure Hy(k:Nat)(P:Program)(w:World)(K:Frag)(mg:Str→Option Value)(base:Heap)(s:Shared)(H:Hp)(Q:VK)(aw f:Addr)(ws:List V)(R:List V→Hp→VK→Prop)(G:Nat→List V→Hp→Prop)(U:Nat→V→Hp→Prop):Prop where
 ow:bQ K H aw ws
 len:ws.length≤200
 fn:lI P w K mg base k s H f R
 g0:G ws.length [] H
 mono:∀i vs H1 H2,G i vs H1→eo H1 H2→G i vs H2
 BG:∀i v H1 H2,U i v H1→eo H1 H2→U i v H2
 mZ:∀i vs H1,G i vs H1→vs.length≤200
 kind:∀i,i<ws.length→(∃x,ws[i]?=some (.str x))∨∃n,ws[i]?=some (.int n)
 num:∀i n vs H1,ws[i]?=some (.int n)→G (i+1) vs H1→G i (vs++[.int n]) H1
 word:∀i x vs H1,ws[i]?=some (.str x)→G (i+1) vs H1→∃cQ ps,vs=cQ++ps.reverse∧ps.length=jy x∧
  ∀pa H2 Q',eo H1 H2→H2 pa=some (.lst ps)→(∀v H3,aJ H2 H3→G i (cQ++[v]) H3→U i v H3→Q' v H3)→R [.int i,.str x,.ref pa] H2 Q'
 fin:∀td aH vs H',aJ H H'→H' td=some (.dK aH)→aH.map Prod.fst=(km ws ws.length).map (λ(n:Nat)=>(Sum.inl (n:Int):Key))→(∀(i:Nat)(x:Str),ws[i]?=some (.str x)→∃v,dh aH (Sum.inl (i:Int))=some v∧U i v H')→G 0 vs H'→Q (.ref td) H'
theorem pA.all{k:Nat}{s:Shared}{H:Hp}{Q:VK}{aw f:Addr}{ws:List V}{R:List V→Hp→VK→Prop}{G:Nat→List V→Hp→Prop}(D:pA k P w K mg base s H Q aw f ws R G):Hy k P w K mg base s H Q aw f ws R G (λi v H=>∃vs,G i (vs++[v]) H):=by
 refine⟨D.ow,D.len,D.fn,D.g0,D.mono,λi v H1 H2 ⟨vs,h⟩ tp=>⟨vs,D.mono _ _ _ _ h tp⟩,D.mZ,D.kind,D.num,λi x vs H1 h g=>?_,λtd aH vs H' s' h1 h2 h3 _=>?_⟩
 ·obtain⟨cQ,ps,e1,e2,hm⟩:=D.word i x vs H1 h g;exact⟨cQ,ps,e1,e2,λpa H2 Q' tp hp hq=>hm pa H2 Q' tp hp λv H3 s3 g3=>hq v H3 s3 g3 ⟨cQ,g3⟩⟩
 ·obtain⟨x,hx⟩:=D.first;obtain⟨v,hv,Qw,hg⟩:=h3 0 x hx;exact D.fin td aH Qw v H' s' h1 hv hg
def BH(k:Nat)(P:Program)(w:World)(K:Frag)(mg:Str→Option Value)(base:Heap)(s:Shared):Sp:=λvs H Q _=>∃(aw f:Addr)(ws:List V)(R:List V→Hp→VK→Prop)(G:Nat→List V→Hp→Prop)(U:Nat→V→Hp→Prop),vs=[.ref aw,.ref f]∧Hy k P w K mg base s H Q aw f ws R G U
def Qx(K:Frag)(aw f td vl:Addr)(ws:List V)(G:Nat→List V→Hp→Prop)(U:Nat→V→Hp→Prop)(H:Hp)(j:Nat)(σ:St)(H':Hp):Prop:=aJ H H'∧∃(s4 s5 s6:Option V)(aH:List (Key×V))(vs:List V),
 σ=[some (.ref aw),some (.ref f),some (.ref td),some (.ref vl),s4,s5,s6]∧H' td=some (.dK aH)∧H' vl=some (.lst vs)∧aH.map Prod.fst=(km ws j).map (λ(n:Nat)=>(Sum.inl (n:Int):Key))∧G (ws.length-j) vs H'∧
 (∀(i:Nat)(x:Str),ws.length-j≤i→ws[i]?=some (.str x)→∃v,dh aH (Sum.inl (i:Int))=some v∧U i v H')
theorem Qy{A:List (Key×V)}{k:Key}{v:V}(h:dh A k=some v):k∈A.map Prod.fst:=by
 unfold dh at h;cases e:A.find? λkv=>decide (kv.1=k) with
 |none=>rw[e]at h;cases h
 |some kv=>
  have:=List.find?_some e
  have e2:kv.1=k:=by simpa using this
  rw[← e2];exact List.mem_map_of_mem (List.mem_of_find?_eq_some e)
theorem Hz{k:Nat}{aP f:Addr}{fd:FuncData}(F:cL K "all_folded" "all_folded" qx f fd)(T:Txt mg)(PT:Parts K mg aP):qw P w K mg base (k+1) f fd ["words","made"] (BH k P w K mg base):=by
 refine F.jx tN (λs vs H Q E h=>?_) (λcj A outer s H vs Q E hr h=>?_)
 ·obtain⟨aw,f,ws,R,G,U,rfl,_⟩:=h;rfl
 ·obtain⟨aw,fm,ws,R,G,U,rfl,D⟩:=h;have hu:=hr.units;have cT:=qo hr;refine⟨_,ba (bw (i:=2) tN.nd rfl (.inl rfl) Hd) (ba (bw (i:=3) tN.nd rfl (Or.inr rfl) (bc aK)) (ba (ja jq rfl (Qj rfl T.range (aG (aU iM (gp (og K rfl) rfl T.len oh (aG (pv 0) aK)) aY) (aG (uR uS aY) (aG (uR uS aY) aK)))) (cB (i:=4) tN.nd rfl (.inl rfl)) (ba (bw (i:=5) tN.nd rfl (.inl rfl) (bZ (fH K rfl) (pv 0) (pv 4) (λ_ _=>rfl))) (bj (cS (uN (gp (Bg (T := "int")) rfl T.isinstance xZ (aG (pv 5) (aG (xY rfl T.int Bk) aK)))) (bj (jS (iP ke nN nO lC (pv 3) (aG (pv 5) aK)))) (ba (qp (N:=["part","values"]) (own:=1) (caps:=[3]) (i:=6) rfl tN.nd rfl rfl (qd rfl T.range (aG (Hl PT.tab (oQ (v:=.ref _) rfl PT.nm rfl) (pv 5) aY ⟨rfl,rfl,rfl,rfl⟩) aK)) (show eZ Qv (bp qx) ["part","values"] 1 [3] _ from .mk' (by decide +kernel)) (λ_ _ _ _ _=>cB (i:=0) Qu rfl (.inl rfl)) (λ_ _ _ _ _=>jw) (λ_ _ _ _ _=>sQ K rfl (pv 1))) (ba (iT cT (pv 2) (pv 4) (by exact Qn (i:=1) D.fn hr rfl rfl (.inl rfl) (aG (pv 4) (aG (pv 5) (aG (pv 6) aK)))) rfl) (bj (jS (iP ke nN nO lC (pv 3) (aG (lH cT (pv 2) (pv 4) (λ_ _=>rfl)) aK)))))))))) (bj (cA (pv 2))))),?_⟩
  have hz:(1000000:Nat)≤sizeLine:=by decide
  have hl:=D.len;intro td tO;refine⟨(by show 0≤sizeLine;lia),λvl vz=>?_⟩;have vA:vl≠td:=λz=>by rw[z,aZ]at vz;cases vz
  have BI:H vl=none:=by rw[cC vA]at vz;exact vz
  have s2:aJ H (upd (upd H td (.dK [])) vl (.lst [])):=(aJ.upd tO).trans (.upd vz);refine⟨_,rfl,aw,ws,rfl,.inr (s2.cG D.ow),_,_,rfl,rfl,_,rfl,_,rfl,_,rfl,⟨by lia,by lia⟩,?_⟩;have en:((ws.length:Int)-1+1).toNat=ws.length:=by lia
  rw[en];refine Ql (Qx K aw fm td vl ws G U H) ⟨s2,none,none,none,[],[],rfl,?_,aZ,rfl,D.mono _ _ _ _ D.g0 s2.tup,λi x hi hx=>?_⟩ ?_ ?_
  ·rw[cC (Ne.symm vA)];exact aZ
  ·rw[kc (by lia)]at hx;cases hx
  ·rintro j σ H' hj ⟨sm,s4,s5,s6,aH,vs,rfl,yq,qH,tP,hG,hU⟩;have hk:aH.length≤j:=by have:=aj List.length tP;rw[br,br]at this;have:=Hv ws j;lia
   obtain⟨i,hi⟩:∃i,ws.length=i+1+j:=⟨ws.length-1-j,by lia⟩;have e1:(ws.length:Int)-1-(j:Nat)=((i:Nat):Int):=by lia
   have e2:ws.length-j=i+1:=by lia
   have e3:ws.length-(j+1)=i:=by lia
   rw[e1];rw[e2]at hG;have AU:=D.mZ _ _ _ hG;rcases D.kind i (by lia)with⟨x,hx⟩|⟨n,hx⟩
   ·obtain⟨cQ,ps,rfl,nc,Qz⟩:=D.word i x vs H' hx hG;refine⟨_,rfl,_,rfl,aw,_,((i:Nat):Int),_,rfl,rfl,sm.cG D.ow,cb (j:=i) hx,?_⟩;refine⟨_,rfl,.str x,.type "str",false,rfl,.str x,Gd K,false,rfl,cW ?_⟩;have hpc:=ED x;refine⟨rfl,_,rfl,x,rfl,((jy x:Nat):Int),by rw[Qt],by lia,by lia,?_⟩;refine Qm (cp:=[some (.ref vl)]) (n:=jy x) (lo:=0) (λk Hx zs=>zs=ps.take k∧Hx vl=some (.lst (cQ++(ps.drop k).reverse))∧∀b,b≠vl→Hx b=H' b) (by lia) ⟨rfl,qH,λ_ _=>rfl⟩ (λk Hx zs h=>by rw[h.1];exact nP _ _) ?_ ?_
    ·rintro k Hx zs jf ⟨rfl,h1,h2⟩;have dt:k<ps.length:=by lia
     have ex:cQ++(ps.drop k).reverse=(cQ++(ps.drop (k+1)).reverse)++[ps[k]]:=by rw[Ai dt,List.reverse_cons,pX]
     rw[ex]at h1;refine⟨_,rfl,.inl ⟨rfl,_,.of h1⟩,vl,_,ps[k],rfl,rfl,h1,by simp,sP.mk ⟨?_,?_,λb hb=>?_⟩⟩
     ·rw[jN,cg dt];rfl
     ·rw[aZ,List.dropLast_concat]
     ·rw[cC hb];exact h2 b hb
    ·rintro Hx zs ⟨rfl,h1,h2⟩ pa HH;rw[rB (by lia)];rw[List.drop_eq_nil_of_le (by lia),List.reverse_nil,gJ]at h1;have yr:td≠vl:=Ne.symm vA;have keep:∀b o,b≠vl→H' b=some o→(upd Hx pa (.lst ps)) b=some o:=λb o nb e=>by
      have h3:Hx b=some o:=by rw[h2 b nb];exact e
      rw[cC (fZ h3 HH)];exact h3
     have yu:aJ H (upd Hx pa (.lst ps)):=λb o e=>keep b o (fZ e BI) (sm b o e);have tp:eo H' (upd Hx pa (.lst ps)):=λb o e k=>keep b o (λz=>by
      subst z;rw[qH]at e;cases e;rcases k with⟨_,z⟩|⟨_,_,z⟩<;>cases z) e
     have g1:(upd Hx pa (.lst ps)) pa=some (.lst ps):=aZ;have g2:(upd Hx pa (.lst ps)) vl=some (.lst cQ):=by rw[cC (fZ h1 HH)];exact h1
     have g3:(upd Hx pa (.lst ps)) td=some (.dK aH):=keep _ _ yr yq;generalize upd Hx pa (.lst ps)=H2 at yu tp g1 g2 g3;refine⟨rfl,yu,_,rfl,_,rfl,_,rfl,yu,Qz pa H2 _ tp g1 λv H3 s3 QA QB=>?_⟩;have hrl:cQ.length≤200:=by rw[bh]at AU;lia
     refine⟨_,rfl,_,rfl,td,_,rfl,oo.k (k:=Sum.inl ((i:Nat):Int)) (s3 _ _ g3) (by lia),?_⟩;have BJ:(upd H3 td (.dK (d7 aH (Sum.inl ((i:Nat):Int)) v))) vl=some (.lst cQ):=by rw[cC vA];exact s3 _ _ g2
     have HI:(upd H3 td (.dK (d7 aH (Sum.inl ((i:Nat):Int)) v))) td=some (.dK (d7 aH (Sum.inl ((i:Nat):Int)) v)):=aZ;have QC:dh (d7 aH (Sum.inl ((i:Nat):Int)) v) (Sum.inl ((i:Nat):Int))=some v:=by rw[G3,af rfl]
     refine⟨_,rfl,.inl ⟨rfl,_,.of BJ⟩,_,rfl,_,rfl,td,v,rfl,QC▸gz.k (k:=Sum.inl ((i:Nat):Int)) HI,vl,cQ,_,rfl,rfl,BJ,by lia,?_⟩;have BK:=(eo.Hn (o:=.dK (d7 aH (Sum.inl ((i:Nat):Int)) v)) (s3 _ _ g3)).trans (eo.lst (o:=.lst (cQ++[v])) BJ);have AX:dh aH (Sum.inl ((i:Nat):Int))=none:=by
      cases ev:dh aH (Sum.inl ((i:Nat):Int)) with
      |none=>rfl
      |some u=>
       have hm:=Qy ev;rw[tP]at hm;obtain⟨i',gM,e'⟩:=dN.mp hm
       have:=BF ws j (by lia) i' gM
       have:=Sum.inl.inj e'
       lia
     refine⟨((yu.trans s3).put tO).put BI,_,_,_,_,_,rfl,by rw[cC yr];exact HI,aZ,?_,?_,λi' x' gM gF=>?_⟩
     ·rw[G4 _ AX,fe,tP];rw[Hu,e3,hx,af (show yo (some (V.str x))=true from rfl),fe];rfl
     ·rw[e3];exact D.mono _ _ _ _ QA BK
     ·rw[G3];by_cases ei:i'=i
      ·rw[af (by rw[ei]),ei];exact⟨v,rfl,D.BG _ _ _ _ QB BK⟩
      ·rw[ag λz=>ei (by have:=Sum.inl.inj z;lia)];obtain⟨u,BL,lJ⟩:=hU i' x' (by lia) gF;exact⟨u,BL,D.BG _ _ _ _ lJ (tp.trans (s3.tup.trans BK))⟩
   ·refine⟨_,rfl,_,rfl,aw,_,((i:Nat):Int),_,rfl,rfl,sm.cG D.ow,cb (j:=i) hx,?_⟩;refine⟨_,rfl,.int n,.type "int",true,rfl,.int n,Gb K,true,rfl,eP ?_⟩;refine⟨_,rfl,.inl ⟨rfl,_,.of qH⟩,_,rfl,vl,vs,_,rfl,rfl,qH,by lia,?_⟩;have yr:td≠vl:=Ne.symm vA;refine⟨sm.put BI,_,_,_,aH,_,rfl,by rw[cC yr];exact yq,aZ,?_,?_,λi' x' gM gF=>?_⟩
    ·rw[tP];rw[Hu,e3,hx,ag (show ¬yo (some (V.int n))=true from λz=>nomatch z)]
    ·rw[e3];exact D.mono _ _ _ _ (D.num i n vs H' hx hG) (eo.lst qH)
    ·by_cases ei:i'=i
     ·rw[ei,hx]at gF;cases gF
     ·obtain⟨u,BL,lJ⟩:=hU i' x' (by lia) gF;exact⟨u,BL,D.BG _ _ _ _ lJ (eo.lst qH)⟩
  ·rintro σ H' ⟨sm,s4,s5,s6,aH,vs,rfl,yq,qH,tP,hG,hU⟩;rw[Nat.sub_self]at hG hU;exact⟨_,rfl,D.fin td aH vs H' sm yq tP (λi x hx=>hU i x (Nat.zero_le _) hx) hG⟩
end S21
namespace L2
open PySem PySem.Spec PyProof.Rows
section
variable{P:Program}{w:World}{K:Frag}{mg:Str→Option Value}{base:Heap}
end
end L2
namespace S21
open PySem L2 Bw
noncomputable def vB:List Value→List Int→Bool
 | [],[]=>true
 | .int i _::vs,n::ns=>i==n&&vB vs ns
 |_,_=>false
theorem BM:∀(vs:List Value)(ns:List Int),vB vs ns=true→Vals (ns.map V.int) vs
 | [],[],_=>.nil
 | .int i t::vs,n::ns,h=>by
  have h':(i==n&&vB vs ns)=true:=h;rw[fq]at h';have e:i=n:=beq_iff_eq.mp h'.1;exact .cons ⟨t,by rw[e]⟩ (BM vs ns h'.2)
 | [],_::_,h=>nomatch h
 | .none::_,[],h=>nomatch h
 |v::vs,[],h=>by cases v<;>exact nomatch h
 |v::vs,n::ns,h=>by
  cases v with
  |int i t=>
   have h':(i==n&&vB vs ns)=true:=h;rw[fq]at h';have e:i=n:=beq_iff_eq.mp h'.1;exact .cons ⟨t,by rw[e]⟩ (BM vs ns h'.2)
  |_=>exact nomatch h
noncomputable def BN(K:Frag)(t:Addr)(ns:List Int):Bool:=match K.lookup t with
 |some ⟨.type "tuple",_,.seq its _,_⟩=>decide (its.size≤1000)&&vB its.toList ns
 |_=>false
theorem QD{K:Frag}{t:Addr}{ns:List Int}(h:BN K t ns=true)(H:Hp):bQ K H t (ns.map V.int):=by
 unfold BN at h;split at h
 case h_2=>exact nomatch h
 case h_1 d its n sl ho=>
  rw[fq]at h;exact .inr ⟨_,its,n,ho,rfl,rfl,eu (az h.1) (by decide),BM _ _ h.2⟩
theorem BO:cY ["place","word","parts","unmet"] ["place","word","parts"] (bp qz):=dE rfl rfl rfl (by decide +kernel) rfl
theorem lI.on{X:Cx}{aF:List (Addr×Obj)}{σ:St}{H1:Hp}{s1:Shared}{k:Nat}{f:Addr}{R:List V→Hp→VK→Prop}(I:Inv X aF σ H1 s1)(hex:X.ex=[])(sm:aJ X.H₀ H1)(L:lI P w K mg base k X.s₀ X.H₀ f R):lI P w K mg base k s1 H1 f R:=by
 refine⟨?_,λA outer s' H' vs us Q hr e0 fN hk rv hQ=>L.run A outer s' H' vs us Q hr e0 (sm.trans fN) (λc o hc hn=>?_) rv hQ⟩
 ·rcases L.here with⟨φ,h1,h2⟩|h
  ·exact .inl ⟨φ,sm _ _ h1,h2⟩
  ·exact .inr h
 ·have vv:c ∉ X.ex:=by rw[hex];simp
  obtain⟨sl,h3⟩:=I.base.any hc hn vv;obtain⟨h4,Al,h5⟩:=hk c _ h3 (I.base.free c o hc hn vv);exact⟨h4,Al,h5⟩
theorem pA.on{k:Nat}{X:Cx}{aF:List (Addr×Obj)}{σ:St}{H1:Hp}{s1:Shared}{Q Q1:VK}{aw f:Addr}{ws:List V}{R:List V→Hp→VK→Prop}{G:Nat→List V→Hp→Prop}(I:Inv X aF σ H1 s1)(hex:X.ex=[])(sm:aJ X.H₀ H1)
  (D:pA k P w K mg base X.s₀ X.H₀ Q aw f ws R G) (q:∀u H',aJ H1 H'→Q u H'→Q1 u H'):pA k P w K mg base s1 H1 Q1 aw f ws R G:=
 ⟨sm.cG D.ow,D.len,lI.on I hex sm D.fn,D.mono _ _ _ _ D.g0 sm.tup,D.mono,D.mZ,D.kind,D.num,D.word,D.first,λtd aH vs v H' s' h1 h2 h3=>q _ _ s' (D.fin td aH vs v H' (sm.trans s') h1 h2 h3)⟩
def QE(Q:VK):VK:=λu H'=>∃td aH v,u=.ref td∧H' td=some (.dK aH)∧dh aH (Sum.inl 0)=some v∧Q v H'
def HJ(k:Nat)(P:Program)(w:World)(K:Frag)(mg:Str→Option Value)(base:Heap)(s:Shared):Sp:=λvs H Q _=>∃(aw f:Addr)(ws:List V)(R:List V→Hp→VK→Prop)(G:Nat→List V→Hp→Prop),vs=[.ref aw,.ref f]∧pA k P w K mg base s H (QE Q) aw f ws R G
theorem QF:cY ["words","made"] ["words","made"] (bp sT):=dE rfl rfl rfl (by decide +kernel) rfl
theorem QG{k:Nat}{f fA:Addr}{fd pB:FuncData}(F:cL K "folded" "folded" sT f fd)
  (GA:qw P w K mg base (k+1) fA pB ["words","made"] (BH k P w K mg base)) (kA:Kp K fA) (bA:Binds K pB ["words","made"] []) (mA:Mg mg "all_folded" fA):qw P w K mg base (k+2) f fd ["words","made"] (HJ k P w K mg base):=by
 refine F.jx QF (λs vs H Q E h=>?_) (λcj A outer s H vs Q E hr h=>?_)
 ·obtain⟨aw,f,ws,R,G,rfl,_⟩:=h;rfl
 ·obtain⟨aw,fm,ws,R,G,rfl,D⟩:=h;refine⟨_,bj (cA (lH (qo hr) (BB GA hr rfl mA kA bA (aG (pv 0) (aG (pv 1) aK))) aY (λ_ _=>rfl))),?_⟩;refine⟨_,rfl,_,rfl,λaF s1 I=>⟨aw,fm,ws,R,G,_,rfl,pA.all (pA.on I rfl (.refl _) D λu H' _ ⟨td,aH,v,e,h1,h2,h3⟩=>?_)⟩⟩;exact⟨td,v,e,h2▸gz.k (k:=Sum.inl 0) h1,h3⟩
end S21
namespace L2
open PySem PySem.Spec PyProof.Rows PySem.Builtin PySem.Builtin.Str
section
variable{X:Cx}
theorem HK:∀l:List (Str×Tok),Vals ((l.map (·.1)).map V.str) (strValues l)
 | []=>.nil
 |(_,t)::l=>.cons ⟨t,rfl⟩ (HK l)
theorem QH{prog:Program}{w:World}{A:Around}{E:QV}{s:Shared}{x y:Str}{t u:Tok}{Q:QV}(c0:(y.length==0)=false)(cz:x.length+2≤sizeLine)
  (q:∀l k,l.map (·.1)=Txt.split x y→Q (.ref s.heap.objs.size) { s with heap:=s.heap.push { cls:=.type "list",data:=.seq (strValues l).toArray },toks:=k }) :
  wpAny (model prog w) A (call (.builtin "str.split") [Value.str x t,Value.str y u]) Q E s:=by
 have cl:=StrLaws.occ_length_le x y 0 x.length (x.length+1);have cn:(Builtin.Str.partsBetween x (Builtin.Str.occurrences x y 0 x.length (x.length+1)) y.length).length≤sizeLine:=by
  rw[length_partsBetween];lia
 cases c1:(decide (x.length<y.length)||decide (Builtin.Str.strKind x<Builtin.Str.strKind y)) with
 |true=>exact call_meets F.slot_str_split (typeIs_str _ _ _) F.entry_str_split (F.args_str_split_2 _ _) (meets_str_split_cannot_occur x y t u c1) (q [(x,t)] s.toks (af c1).symm)
 |false=>
  have e1:Txt.split x y=_:=ag (ne_true_of_eq_false c1);cases c2:(Builtin.Str.occurrences x y 0 x.length (x.length+1)).isEmpty with
  |true=>exact call_meets F.slot_str_split (typeIs_str _ _ _) F.entry_str_split (F.args_str_split_2 _ _) (meets_str_split_not_found x y t u c1 c0 c2) (q [(x,t)] s.toks (e1.trans (af c2)).symm)
  |false=>
   refine call_meets F.slot_str_split (typeIs_str _ _ _) F.entry_str_split (F.args_str_split_2 _ _) (meets_str_split_sep x y t u c1 c0 c2 (by lia) cn) ?_;have e2:=numbered_texts s.toks (Builtin.Str.partsBetween x (Builtin.Str.occurrences x y 0 x.length (x.length+1)) y.length);show wants Q E _ { s with toks:=_,heap:=s.heap.push { cls:=.type "list",data:=.seq (strsFrom s.toks (Builtin.Str.partsBetween x (Builtin.Str.occurrences x y 0 x.length (x.length+1)) y.length)).toArray } };rw[strsFrom_eq];exact q (numbered s.toks _) _ (e2.trans (e1.trans (ag (ne_true_of_eq_false c2))).symm)
theorem yv:AM X "str.split" (λx xs H Q=>∃z lK,x=.str z∧xs=[.str lK]∧(lK.length==0)=false∧z.length+2≤sizeLine∧(Txt.split z lK).length≤sizeLine∧∀l,H l=none→Q (.ref l) (upd H l (.lst ((Txt.split z lK).map V.str)))):=by
 intro aF s σ H x xs v us Q I rx rs h;obtain⟨z,lK,rfl,rfl,hs,hz,hl,q⟩:=h;obtain⟨t,rfl⟩:=rx;obtain⟨u,rfl,tu,rfl⟩:=Vals.one rs;refine QH hs hz λl k e=>?_;have I1:Inv X aF σ (upd H s.heap.objs.size (.lst ((Txt.split z lK).map V.str))) { s with heap:=s.heap.push { cls:=.type "list",data:=.seq (strValues l).toArray },toks:=k }:=by
  refine I.laid (λb o e=>fc _ e) (bH _) ?_;rw[← e]at hl ⊢;exact⟨by rw[br];exact hl,strValues l,0,HK l,jL _ rfl⟩
 exact⟨.ref s.heap.objs.size,_,I1,rfl,q _ (I.bz.fresh (bH _))⟩
theorem QI:eI X (.type "str") (λxs H Q=>∃x,xs=[.str x]∧Q (.str x) H):=by
 intro aF s σ H xs us Q I r h;obtain⟨x,rfl,q⟩:=h;obtain⟨u,rfl,t,rfl⟩:=vals1 r;exact PySem.P.str_of_str ⟨.str x,H,I,⟨t,rfl⟩,q⟩
theorem QJ:eI X (.type "str") (λxs H Q=>(∃x,xs=[.str x]∧Q (.str x) H)∨(∃i,xs=[.int i]∧i.natAbs.log2<1920∧Q (.str (toString i)) H)):=QI.or Nj
end
section
variable{prog:Program}{w:World}{A:Around}{E:QV}{s:Shared}{a:Addr}{D:List (Str×V)}{n:Int}{tk:Tok}
end
section
variable{X:Cx}{o i e f:Expr}{pos gZ eY:Pos}{td ty tx:TE}{a:Addr}{D:List (Str×V)}
end
end L2
namespace S21
open PySem L2 Bw
variable{ts:List It2}
inductive Dw where
 |box (x:Str) (l r:Nat)
 |times (n:Int)
 |back (d:Dw)
 |bf (a b:Dw)
 |aM (a b:Dw)
noncomputable def lL:List (Str×Nat×Nat):=[("id",1,1),("swap",2,2),("copy",1,2),("end",1,0),("add",2,1),("none",0,1),("cup",0,2),("empty",0,0),("late",1,1)]
noncomputable def tQ:List Str:=["id","swap","copy","end","add","none","times","cup","empty","late"]
noncomputable def qI:Option Nat→Option Nat→Option Nat
 |some i,_=>some i
 |none,x=>x
namespace Dw
noncomputable def aE:Dw→List V
 |box x _ _=>[.str x]
 |times n=>[.str "times",.int n]
 |back d=>.str "back"::d.aE
 |bf a b=>.str "beside"::(a.aE++b.aE)
 |aM a b=>.str "then"::(a.aE++b.aE)
noncomputable def bq:Dw→Nat×Nat
 |box _ l r=>(l,r)
 |times _=>(1,1)
 |back d=>(d.bq.2,d.bq.1)
 |bf a b=>(a.bq.1+b.bq.1,a.bq.2+b.bq.2)
 |aM a b=>(a.bq.1,b.bq.2)
noncomputable abbrev pC(d:Dw):Nat:=d.bq.1
noncomputable abbrev pE(d:Dw):Nat:=d.bq.2
def ok(p:Int):Dw→Prop
 |box x l r=>(x,l,r)∈lL
 |times n=>0≤n∧n<p
 |back d=>d.ok p
 |bf a b=>a.ok p∧b.ok p
 |aM a b=>a.ok p∧b.ok p
noncomputable def qJ:Nat→Dw→Option Nat
 |i,back d=>qJ (i+1) d
 |i,bf a b=>qI (qJ (i+1) a) (qJ (i+1+a.aE.length) b)
 |i,aM a b=>match qI (qJ (i+1) a) (qJ (i+1+a.aE.length) b) with
  |some j=>some j
  |none=>if a.pE=b.pC then none else some i
 |_,_=>none
theorem pos(d:Dw):1≤d.aE.length:=by cases d<;>simp[aE]
end Dw
inductive It2 where
 |num (n:Int)
 |aX (d:Dw)
namespace It2
noncomputable def aE:It2→List V
 |num n=>[.int n]
 |aX d=>d.aE
noncomputable def head:It2→V
 |num n=>.int n
 |aX (.box x _ _)=>.str x
 |aX (.times _)=>.str "times"
 |aX (.back _)=>.str "back"
 |aX (.bf _ _)=>.str "beside"
 |aX (.aM _ _)=>.str "then"
noncomputable def kids:It2→List It2
 |num _=>[]
 |aX (.box _ _ _)=>[]
 |aX (.times n)=>[num n]
 |aX (.back d)=>[aX d]
 |aX (.bf a b)=>[aX a,aX b]
 |aX (.aM a b)=>[aX a,aX b]
def ok(p:Int):It2→Prop
 |num _=>True
 |aX d=>d.ok p
theorem tR(t:It2):t.aE=t.head::t.kids.flatMap aE:=by
 cases t with
 |num n=>rfl
 |aX d=>cases d<;>simp[aE,head,kids,Dw.aE]
theorem QK{p:Int}{t:It2}(h:t.ok p):∀u∈t.kids,u.ok p:=by
 cases t with
 |num n=>intro u hu;cases hu
 |aX d=>
  cases d with
  |box=>intro u hu;cases hu
  |times n=>intro u hu;rw[cX.mp hu];exact True.intro
  |back d=>intro u hu;rw[cX.mp hu];exact h
  |bf a b=>
   intro u hu;rcases(e9.mp hu)with z|z
   ·rw[z];exact h.1
   ·rw[cX.mp z];exact h.2
  |aM a b=>
   intro u hu;rcases(e9.mp hu)with z|z
   ·rw[z];exact h.1
   ·rw[cX.mp z];exact h.2
end It2
noncomputable def cy:List It2→Nat→List It2
 |ts,0=>ts
 | [],_+1=>[]
 |t::ts,i+1=>cy (t.kids++ts) i
theorem vC:∀i,cy [] i=[]
 |0=>rfl
 |_+1=>rfl
theorem tU:∀(i:Nat)(ts:List It2),(cy ts i).flatMap It2.aE=(ts.flatMap It2.aE).drop i
 |0,ts=>by simp[cy]
 |i+1,[]=>by simp[cy]
 |i+1,t::ts=>by
  show(cy (t.kids++ts) i).flatMap It2.aE=_;rw[tU i,List.flatMap_append,nQ,It2.tR t];simp
theorem It2.pos(t:It2):1≤t.aE.length:=by
 rw[It2.tR];simp
theorem tV:∀{ts:List It2},ts≠[]→0<(ts.flatMap It2.aE).length
 | [],h=>absurd rfl h
 |t::ts,_=>by
  rw[nQ,bh]
  have:=t.pos
  lia
theorem HL:∀ts:List It2,ts.length≤(ts.flatMap It2.aE).length
 | []=>bH _
 |t::ts=>by
  rw[nQ,bh,cu]
  have:=t.pos
  have:=HL ts
  lia
theorem HM:cy ts (ts.flatMap It2.aE).length=[]:=by
 cases h:cy ts (ts.flatMap It2.aE).length with
 |nil=>rfl
 |cons t r=>
  have z:=tU (ts.flatMap It2.aE).length ts;rw[h,List.drop_length]at z
  have:=tV (ts:=t::r) (by simp)
  rw[z]at this;exact absurd this (by simp)
theorem HN{i:Nat}:(cy ts i).length≤(ts.flatMap It2.aE).length:=by
 have:=HL (cy ts i)
 rw[tU,eF]at this;lia
theorem HP:∀(i:Nat)(ts:List It2){t:It2}{r:List It2},cy ts i=t::r→cy ts (i+1)=t.kids++r
 |0,ts,t,r,h=>by
  have h:ts=t::r:=h;subst h;rfl
 |i+1,[],t,r,h=>by simp[cy]at h
 |i+1,u::ts,t,r,h=>HP i (u.kids++ts) h
theorem pF{i:Nat}(h:i<(ts.flatMap It2.aE).length):∃t r,cy ts i=t::r∧(ts.flatMap It2.aE)[i]?=some t.head∧cy ts (i+1)=t.kids++r:=by
 have z:=tU i ts;cases e:cy ts i with
 |nil=>
  rw[e]at z;have z:[]=(ts.flatMap It2.aE).drop i:=z
  have:=aj List.length z
  rw[eF]at this;simp only[df]at this;lia
 |cons t r=>
  refine⟨t,r,rfl,?_,HP i ts e⟩;rw[e,nQ,It2.tR]at z
  have:=aj (λl=>l[0]?) z
  simp only[List.cons_append,List.getElem?_cons_zero,List.getElem?_drop,Nat.add_zero]at this;exact this.symm
theorem BP{p:Int}:∀(i:Nat){ts:List It2},(∀t∈ts,t.ok p)→∀t∈cy ts i,t.ok p
 |0,ts,h=>h
 |i+1,[],h=>by intro t ht;rw[vC]at ht;cases ht
 |i+1,t::ts,h=>BP i (ts:=t.kids++ts) λu hu=>by
  rcases(dM.mp hu)with z|z
  ·exact It2.QK (h t dv) u z
  ·exact h u (eR _ z)
end S21
namespace S21
open PySem L2 Bw
variable{f fM:Addr}{fd fO:FuncData}{i:Nat}{t:It2}{ts:List It2}
noncomputable def BQ:List (Str×Nat×Nat):=("times",1,1)::lL
noncomputable def vD(K:Frag)(aS:Addr):Bool:=yk K aS&&decide ((jj K aS).map (·.1)=tQ)&&BQ.all λe=>
 (match PyProof.Rows.KTD.datumAt e.1 (jj K aS)with|some (.ref t)=>BN K t [(e.2.1:Int),(e.2.2:Int)] | _=>false)
structure ng(K:Frag)(mg:Str→Option Value)(aS:Addr):Prop where
 nm:mg "SIDES"=some (.ref aS)
 ok:vD K aS=true
theorem HQ{x:Str}:∀{D:List (Str×V)},x ∉ D.map (·.1)→PyProof.Rows.KTD.datumAt x D=none
 | [],_=>rfl
 |(k,v)::D,h=>by
  have h1:x≠k:=λz=>h (by rw[z];exact dv);unfold PyProof.Rows.KTD.datumAt;rw[ae h1,ag fi];exact HQ λz=>h (eR _ z)
section
variable{K:Frag}{mg:Str→Option Value}{aS:Addr}
theorem ng.tab(B:ng K mg aS):∀h,K.In h→iU h aS (jj K aS):=λh X=>by
 have z:=B.ok;unfold vD at z;rw[fq,fq]at z;exact BC X z.1.1
theorem ng.keys(B:ng K mg aS):(jj K aS).map (·.1)=tQ:=by
 have z:=B.ok;unfold vD at z;rw[fq,fq]at z;exact az z.1.2
theorem ng.at_(B:ng K mg aS){x:Str}{l r:Nat}(h:(x,l,r)∈BQ):∃t,PyProof.Rows.KTD.datumAt x (jj K aS)=some (.ref t)∧∀H,bQ K H t [.int (l:Int),.int (r:Int)]:=by
 have z:=B.ok;unfold vD at z;rw[fq]at z;have z2:=iK.mp z.2 _ h;split at z2
 ·rename_i t e
  exact⟨t,e,λH=>QD z2 H⟩
 ·exact nomatch z2
theorem ng.none(B:ng K mg aS){x:Str}(h:x ∉ tQ):PyProof.Rows.KTD.datumAt x (jj K aS)=none:=HQ (by rw[B.keys];exact h)
end
noncomputable def uV:Option Nat→V
 |none=>.cm
 |some i=>.int (i:Int)
def iV(K:Frag)(H:Hp)(a:Addr)(m:Nat×Nat×Option Nat):Prop:=bQ K H a [.int (m.1:Int),.int (m.2.1:Int),uV m.2.2]
def vE(K:Frag)(H:Hp)(ps:List V)(ms:List (Nat×Nat×Option Nat)):Prop:=ps.length=ms.length∧∀(i:Nat)(v:V)(m:Nat×Nat×Option Nat),ps[i]?=some v→ms[i]?=some m→∃a,v=.ref a∧iV K H a m
theorem vE.one{K:Frag}{H:Hp}{a:Addr}{m:Nat×Nat×Option Nat}(h:iV K H a m):vE K H [.ref a] [m]:=⟨rfl,λi v m' e1 e2=>by
 match i,e1,e2 with
 |0,e1,e2=>cases e1;cases e2;exact⟨a,rfl,h⟩
 |i+1,e1,_=>simp at e1⟩
theorem vE.two{K:Frag}{H:Hp}{a b:Addr}{m n:Nat×Nat×Option Nat}(h:iV K H a m)(h':iV K H b n):vE K H [.ref a,.ref b] [m,n]:=⟨rfl,λi v m' e1 e2=>by
 match i,e1,e2 with
 |0,e1,e2=>cases e1;cases e2;exact⟨a,rfl,h⟩
 |1,e1,e2=>cases e1;cases e2;exact⟨b,rfl,h'⟩
 |i+2,e1,_=>simp at e1⟩
noncomputable def tW(ms:List (Nat×Nat×Option Nat)):Option Nat:=(ms.filterMap (·.2.2)).head?
theorem QL(m:Nat×Nat×Option Nat):tW [m]=m.2.2:=by
 unfold tW;cases h:m.2.2<;>simp[h]
theorem HR(m n:Nat×Nat×Option Nat):tW [m,n]=qI m.2.2 n.2.2:=by
 unfold tW;cases h:m.2.2<;>cases h':n.2.2<;>simp[h,h',qI]
theorem QM:(["part"]:List Str).Nodup:=by decide +kernel
def HU(K:Frag):Sp:=λvs H Q _=>∃(pa:Addr)(ps:List V)(ms:List (Nat×Nat×Option Nat)),vs=[.ref pa]∧H pa=some (.lst ps)∧ps.length≤10∧vE K H ps ms∧∀H',aJ H H'→Q (uV (tW ms)) H'
theorem HV:cY ["parts","unmet"] ["parts"] (bp qA):=dE rfl rfl rfl (by decide +kernel) rfl
theorem QN(F:cL K "first_unmet" "first_unmet" qA f fd):bN P w K mg base bO 1 f fd ["parts"] (HU K):=by
 refine F.ok HV (λvs H Q E h=>?_) (λcj A outer s H vs Q E hr h=>?_)
 ·obtain⟨pa,ps,ms,rfl,_⟩:=h;rfl
 ·obtain⟨pa,ps,ms,rfl,hp,hl,hm,q⟩:=h;have z:(10:Nat)≤sizeLine:=by decide
  refine⟨_,ba (qp (i:=1) (N:=["part"]) (own:=1) (caps:=[]) rfl HV.nd rfl rfl (gg K rfl (pv 0)) (show eZ ["parts","unmet"] (bp qA) ["part"] 1 [] _ from .mk' (by decide +kernel)) (λ_ _ _ _ _=>cB (i:=0) QM rfl (.inl rfl)) (λ_ _ _ _ _=>A7 (cE EX (bZ (fH K rfl) (pv 0) aY (λ_ _=>rfl)) nW (cD _))) (λ_ _ _ _ _=>bZ (fH K rfl) (pv 0) aY (λ_ _=>rfl))) (bj (cA (EF (E1 (pv 1) (λ_=>rfl)) (bZ (cH K rfl) (pv 1) aY (λ_ _=>rfl)) nW))),?_⟩
  refine⟨_,rfl,pa,rfl,⟨_,.of hp⟩,mX (cp:=[]) (λi H' zs=>zs=((ms.take i).filterMap (·.2.2)).map (λj:Nat=>V.int (j:Int))) (.of hp) (by lia) rfl (λi H' zs e=>?_) ?_ ?_⟩
  ·rw[e,br];exact eu (List.length_filterMap_le _ _) (nP _ _)
  ·rintro i x H1 zs hx sm rfl;have hi:i<ms.length:=by rw[← hm.1];exact(dB.mp hx).1
   obtain⟨a,rfl,ha⟩:=hm.2 i x ms[i] hx (cg hi);have et:ms.take (i+1)=ms.take i++[ms[i]]:=by rw[jN,cg hi];rfl
   refine⟨_,rfl,a,_,2,uV ms[i].2.2,rfl,rfl,sm.cG ha,cb (j:=2) rfl,rfl,_,rfl,?_⟩;cases hu:ms[i].2.2 with
   |none=>
    refine vx (λh=>absurd rfl h) (λ_=>⟨⟨[_],rfl,rfl⟩,sm,?_⟩);rw[et,List.filterMap_append];simp[hu]
   |some j=>
    rw[ae (show ¬uV (some j)=V.cm from λz=>nomatch z)]
    refine eP ⟨_,rfl,a,_,2,uV ms[i].2.2,rfl,rfl,sm.cG ha,cb (j:=2) rfl,⟨⟨[_],rfl,rfl⟩,sm,?_⟩⟩;rw[et,List.filterMap_append,hu];simp[hu,uV]
  ·rintro H1 zs sm rfl lu HW;rw[rB (by rw[← hm.1];exact bH _)];unfold tW at q;cases hz:ms.filterMap (·.2.2) with
   |nil=>
    rw[hz]at q;refine⟨_,rfl,_,.inl ⟨[],.of aZ,rfl⟩,cW ?_⟩;exact q _ (sm.trans (.upd HW))
   |cons j js=>
    rw[hz]at q;refine⟨_,rfl,_,.inl ⟨_,.of aZ,rfl⟩,eP ?_⟩;exact⟨_,rfl,lu,_,0,_,rfl,rfl,.of aZ,cb (j:=0) rfl,q _ (sm.trans (.upd HW))⟩
def BR(K:Frag):Sp:=λvs H Q _=>∃(x:Str)(pa:Addr)(ps:List V),vs=[.str x,.ref pa]∧H pa=some (.lst ps)∧
 ((∃(a:Addr)(m:Nat×Nat×Option Nat),x="back"∧ps=[.ref a]∧iV K H a m∧gK K H [.int (m.2.1:Int),.int (m.1:Int)] Q)∨(∃(a b:Addr)(m n:Nat×Nat×Option Nat),x="beside"∧ps=[.ref a,.ref b]∧iV K H a m∧iV K H b n∧gK K H [.int ((m.1+n.1:Nat):Int),.int ((m.2.1+n.2.1:Nat):Int)] Q)∨(∃(a b:Addr)(m n:Nat×Nat×Option Nat),x="then"∧ps=[.ref a,.ref b]∧iV K H a m∧iV K H b n∧gK K H [.int (m.1:Int),.int (n.2.1:Int)] Q))
theorem QO:cY ["word","parts"] ["word","parts"] (bp sW):=dE rfl rfl rfl (by decide +kernel) rfl
theorem QP(F:cL K "joined_sides" "joined_sides" sW f fd):bN P w K mg base bO 1 f fd ["word","parts"] (BR K):=by
 refine F.ok QO (λvs H Q E h=>?_) (λcj A outer s H vs Q E hr h=>?_)
 ·obtain⟨x,pa,ps,rfl,_⟩:=h;rfl
 ·obtain⟨x,pa,ps,rfl,hp,h⟩:=h;refine⟨_,ba (cS (cE dZ (pv 0) aW (cD _)) (bj (cA (eJ (aG (bZ (fH K rfl) (bZ (cH K rfl) (pv 1) aY (λ_ _=>rfl)) aY (λ_ _=>rfl)) (aG (bZ (fH K rfl) (bZ (cH K rfl) (pv 1) aY (λ_ _=>rfl)) aY (λ_ _=>rfl)) aK))))) dW) (ba (cS (cE dZ (pv 0) aW (cD _)) (bj (cA (eJ (aG (aU fu (bZ (fH K rfl) (bZ (cH K rfl) (pv 1) aY (λ_ _=>rfl)) aY (λ_ _=>rfl)) (bZ (fH K rfl) (bZ (cH K rfl) (pv 1) aY (λ_ _=>rfl)) aY (λ_ _=>rfl))) (aG (aU fu (bZ (fH K rfl) (bZ (cH K rfl) (pv 1) aY (λ_ _=>rfl)) aY (λ_ _=>rfl)) (bZ (fH K rfl) (bZ (cH K rfl) (pv 1) aY (λ_ _=>rfl)) aY (λ_ _=>rfl))) aK))))) dW) (bj (cA (eJ (aG (bZ (fH K rfl) (bZ (cH K rfl) (pv 1) aY (λ_ _=>rfl)) aY (λ_ _=>rfl)) (aG (bZ (fH K rfl) (bZ (cH K rfl) (pv 1) aY (λ_ _=>rfl)) aY (λ_ _=>rfl)) aK)))))),?_⟩;have z2:2≤sizeLine:=by decide
  rcases h with⟨a,m,rfl,rfl,ha,q⟩|⟨a,b,m,n,rfl,rfl,ha,hb,q⟩|⟨a,b,m,n,rfl,rfl,ha,hb,q⟩
  ·refine⟨_,rfl,rfl,_,rfl,?_⟩;rw[ax rfl];exact eP ⟨_,rfl,pa,_,0,.ref a,rfl,rfl,.of hp,cb (j:=0) rfl,a,_,1,_,rfl,rfl,ha,cb (j:=1) rfl,_,rfl,pa,_,0,.ref a,rfl,rfl,.of hp,cb (j:=0) rfl,a,_,0,_,rfl,rfl,ha,cb (j:=0) rfl,z2,λt ht=>q.new ht⟩
  ·refine⟨_,rfl,rfl,_,rfl,?_⟩;rw[ae (by decide)];refine cW ⟨_,rfl,rfl,_,rfl,?_⟩;rw[ax rfl];rw[pZ,pZ]at q;exact eP ⟨_,rfl,pa,_,0,.ref a,rfl,rfl,.of hp,cb (j:=0) rfl,a,_,0,.int (m.1:Int),rfl,rfl,ha,cb (j:=0) rfl,_,rfl,pa,_,1,.ref b,rfl,rfl,.of hp,cb (j:=1) rfl,b,_,0,.int (n.1:Int),rfl,rfl,hb,cb (j:=0) rfl,_,_,rfl,rfl,
    _,rfl,pa,_,0,.ref a,rfl,rfl,.of hp,cb (j:=0) rfl,a,_,1,.int (m.2.1:Int),rfl,rfl,ha,cb (j:=1) rfl,_,rfl,pa,_,1,.ref b,rfl,rfl,.of hp,cb (j:=1) rfl,b,_,1,.int (n.2.1:Int),rfl,rfl,hb,cb (j:=1) rfl,_,_,rfl,rfl,z2,λt ht=>q.new ht⟩
  ·refine⟨_,rfl,rfl,_,rfl,?_⟩;rw[ae (by decide)];refine cW ⟨_,rfl,rfl,_,rfl,?_⟩;rw[ae (by decide)];exact cW ⟨_,rfl,pa,_,0,.ref a,rfl,rfl,.of hp,cb (j:=0) rfl,a,_,0,.int (m.1:Int),rfl,rfl,ha,cb (j:=0) rfl,_,rfl,pa,_,1,.ref b,rfl,rfl,.of hp,cb (j:=1) rfl,b,_,1,.int (n.2.1:Int),rfl,rfl,hb,cb (j:=1) rfl,z2,λt ht=>q.new ht⟩
inductive QQ(K:Frag)(i:Nat)(x:Str)(ps:List V)(H:Hp)(Q:VK):Prop where
 |box (l r:Nat) (h:(x,l,r)∈BQ) (q:gK K H [.int (l:Int),.int (r:Int),.cm] Q)
 |back (a:Addr) (m:Nat×Nat×Option Nat) (h:x="back") (hp:ps=[.ref a]) (ha:iV K H a m) (q:gK K H [.int (m.2.1:Int),.int (m.1:Int),uV m.2.2] Q)
 |bf (a b:Addr) (m n:Nat×Nat×Option Nat) (h:x="beside") (hp:ps=[.ref a,.ref b]) (ha:iV K H a m) (hb:iV K H b n) (q:gK K H [.int ((m.1+n.1:Nat):Int),.int ((m.2.1+n.2.1:Nat):Int),uV (qI m.2.2 n.2.2)] Q)
 |aM (a b:Addr) (m n:Nat×Nat×Option Nat) (h:x="then") (hp:ps=[.ref a,.ref b]) (ha:iV K H a m) (hb:iV K H b n)
  (q:gK K H [.int (m.1:Int),.int (n.2.1:Int),uV (match qI m.2.2 n.2.2 with|some j=>some j|none=>if m.2.1=n.1 then none else some i)] Q)
theorem QR:Str.ofString "back" ∉ tQ∧Str.ofString "beside" ∉ tQ∧Str.ofString "then" ∉ tQ:=by decide +kernel
theorem QS{j:Nat}:¬uV (some j)=V.cm:=λz=>nomatch z
def BU(K:Frag):Sp:=λvs H Q _=>∃(i:Nat)(x:Str)(pa:Addr)(ps:List V),vs=[.int (i:Int),.str x,.ref pa]∧H pa=some (.lst ps)∧QQ K i x ps H Q
theorem QT{aS fU fJ:Addr}{HX HY:FuncData}(F:cL K "measure" "measure" qz f fd)(B:ng K mg aS)
  (GU:bN P w K mg base bO 1 fU HX ["parts"] (HU K)) (kU:Kp K fU) (bU:Binds K HX ["parts"] []) (mU:Mg mg "first_unmet" fU)
  (GJ:bN P w K mg base bO 1 fJ HY ["word","parts"] (BR K)) (kJ:Kp K fJ) (bJ:Binds K HY ["word","parts"] []) (mJ:Mg mg "joined_sides" fJ) :
  bN P w K mg base bO 2 f fd ["place","word","parts"] (BU K):=by
 refine F.ok BO (λvs H Q E h=>?_) (λcj A outer s H vs Q E hr h=>?_)
 ·obtain⟨i,x,pa,ps,rfl,_⟩:=h;rfl
 ·obtain⟨i,x,pa,ps,rfl,hp,h⟩:=h;obtain⟨nb,ns,nt⟩:=QR;refine⟨_,ba (cS (EE (Qe B.tab (pv 1) (oQ (v:=.ref _) rfl B.nm rfl)) rfl) (bj (cA (aU (x3 K rfl) (Qd B.tab (oQ (v:=.ref _) rfl B.nm rfl) (pv 1) (λ_ _=>rfl)) (eJ (aG nW aK))))) dW) (ba (bw (i:=3) BO.nd rfl (.inl rfl) (cO GU hr rfl mU kU bU .nil cP (aG (pv 2) aK))) (ba (cS (PW.pt (oS (cE dZ (pv 1) aW (cD _)) (oS (cE EW (pv 3) nW (cD _)) (qa (cE xD (bZ (fH K rfl) (bZ (cH K rfl) (pv 2) aY (λ_ _=>rfl)) aY (λ_ _=>rfl)) (bZ (fH K rfl) (bZ (cH K rfl) (pv 2) aY (λ_ _=>rfl)) aY (λ_ _=>rfl)) (cD _)))))) (bj (bw (i:=3) BO.nd rfl (.inl rfl) (pv 0))) dW) (bj (cA (aU (x3 K rfl) (cO GJ hr rfl mJ kJ bJ .nil cP (aG (pv 1) (aG (pv 2) aK))) (eJ (aG (pv 3) aK))))))),?_⟩;have z1:1≤sizeLine:=by decide
  have pG:PyProof.Rows.KTD.datumAt x (jj K aS)=none→∀{u:TS}{D:Ends},u D [some (.int (i:Int)),some (.str x),some (.ref pa),none] H→bu (dQ (tB (Hk aS (jj K aS) (aL 1) (tC (.ref aS)))) (ft (aT (ve K) (Hj aS (jj K aS) (tC (.ref aS)) (aL 1)) (mx (aI (tC .cm) aV)))) gk) u D [some (.int (i:Int)),some (.str x),some (.ref pa),none] H:=λe {u D} h=>by
   refine⟨_,rfl,x,rfl,rfl,_,rfl,?_⟩;rw[e];exact cW h
  cases h with
  |box l r hx q=>
   obtain⟨t,e,ht⟩:=B.at_ hx;refine⟨_,rfl,x,rfl,rfl,_,rfl,?_⟩;rw[e];refine eP ⟨_,rfl,x,_,rfl,rfl,e,z1,λt1 g1=>?_⟩;exact⟨t,t1,_,_,rfl,rfl,ht _,.of aZ,(by show 2+1≤sizeLine;decide),λa' H' s' h'=>q a' H' ((aJ.upd g1).trans s') h'⟩
  |back a m hx nc ha q=>
   subst hx;subst nc;refine pG (B.none nb) ⟨_,rfl,pa,_,[m],rfl,hp,by simp,.one ha,λH1 s1=>?_⟩;rw[QL];refine⟨_,rfl,rfl,_,rfl,?_⟩;rw[ae (by decide)];refine cW (cW ?_);refine⟨_,rfl,_,rfl,_,pa,_,rfl,s1 _ _ hp,.inl ⟨a,m,rfl,rfl,s1.cG ha,λt H2 s2 ht=>⟨_,rfl,z1,λt1 g1=>?_⟩⟩⟩;exact⟨t,t1,_,_,rfl,rfl,(aJ.upd g1).cG ht,.of aZ,(by show 2+1≤sizeLine;decide),λa' H' s' h'=>q a' H' ((s1.trans s2).trans ((aJ.upd g1).trans s')) h'⟩
  |bf a b m n hx nc ha hb q=>
   subst hx;subst nc;refine pG (B.none ns) ⟨_,rfl,pa,_,[m,n],rfl,hp,by simp,.two ha hb,λH1 s1=>?_⟩;rw[HR];refine⟨_,rfl,rfl,_,rfl,?_⟩;rw[ae (by decide)];refine cW (cW ?_);refine⟨_,rfl,_,rfl,_,pa,_,rfl,s1 _ _ hp,.inr (.inl ⟨a,b,m,n,rfl,rfl,s1.cG ha,s1.cG hb,λt H2 s2 ht=>⟨_,rfl,z1,λt1 g1=>?_⟩⟩)⟩;exact⟨t,t1,_,_,rfl,rfl,(aJ.upd g1).cG ht,.of aZ,(by show 2+1≤sizeLine;decide),λa' H' s' h'=>q a' H' ((s1.trans s2).trans ((aJ.upd g1).trans s')) h'⟩
  |aM a b m n hx nc ha hb q=>
   subst hx;subst nc;refine pG (B.none nt) ⟨_,rfl,pa,_,[m,n],rfl,hp,by simp,.two ha hb,λH1 s1=>?_⟩;rw[HR];have cQ:∀{u:Option Nat}{D:Ends},D.rt=Q→gK K H [.int (m.1:Int),.int (n.2.1:Int),uV u] Q→ft (aT (ve K) (fw (BR K) [] E0 (aI (aL 1) (aI (aL 2) aV))) (mx (aI (aL 3) aV))) D [some (.int (i:Int)),some (.str (Str.ofString "then")),some (.ref pa),some (uV u)] H1:=λ{u D} hD q=>by
    refine⟨_,rfl,_,rfl,_,pa,_,rfl,s1 _ _ hp,.inr (.inr ⟨a,b,m,n,rfl,rfl,s1.cG ha,s1.cG hb,λt H2 s2 ht=>⟨_,rfl,z1,λt1 g1=>?_⟩⟩)⟩;refine⟨t,t1,_,_,rfl,rfl,(aJ.upd g1).cG ht,.of aZ,(by show 2+1≤sizeLine;decide),λa' H' s' h'=>?_⟩;show D.rt _ _;rw[hD];exact q a' H' ((s1.trans s2).trans ((aJ.upd g1).trans s')) h'
   refine⟨_,rfl,rfl,_,rfl,?_⟩;rw[ax rfl];refine eP ⟨_,rfl,rfl,_,rfl,?_⟩;cases hu:qI m.2.2 n.2.2 with
   |some j=>
    rw[hu]at q;rw[ae QS];exact cW (cW (cQ (u:=some j) rfl q))
   |none=>
    rw[hu]at q;rw[ax (show uV none=V.cm from rfl)]
    refine eP ⟨_,rfl,pa,_,0,.ref a,rfl,rfl,.of (s1 _ _ hp),cb (j:=0) rfl,a,_,1,.int (m.2.1:Int),rfl,rfl,s1.cG ha,cb (j:=1) rfl,_,rfl,pa,_,1,.ref b,rfl,rfl,.of (s1 _ _ hp),cb (j:=1) rfl,b,_,0,.int (n.1:Int),rfl,rfl,s1.cG hb,cb (j:=0) rfl,rfl,_,rfl,vx (λz=>?_) (λz=>?_)⟩
    ·have z':¬m.2.1=n.1:=λe=>z (by rw[e]);rw[show(match(none:Option Nat)with|some j=>some j|none=>if m.2.1=n.1 then none else some i)=some i from ag z']at q
     exact⟨_,rfl,cQ (u:=some i) rfl q⟩
    ·have z':m.2.1=n.1:=by injection z with z;exact Int.ofNat.inj z
     rw[show(match(none:Option Nat)with|some j=>some j|none=>if m.2.1=n.1 then none else some i)=none from af z']at q
     exact cQ (u:=none) rfl q
def vF(K:Frag)(H:Hp)(i:Nat):It2→V→Prop
 | .num n,v=>v=.int n
 | .aX d,v=>∃a,v=.ref a∧iV K H a (d.pC,d.pE,d.qJ i)
inductive gN(K:Frag)(H:Hp):Nat→List It2→List V→Prop where
 |nil {i:Nat}:gN K H i [] []
 |cons {i:Nat} {t:It2} {ts:List It2} {v:V} {vs:List V} (h:vF K H i t v) (r:gN K H (i+t.aE.length) ts vs):gN K H i (t::ts) (v::vs)
section
variable{K:Frag}{H H':Hp}
theorem vF.tup{v:V}(h:vF K H i t v)(s:eo H H'):vF K H' i t v:=by
 cases t with
 |num n=>exact h
 |aX d=>
  obtain⟨a,e,hf⟩:=h;exact⟨a,e,s.cG hf⟩
theorem gN.tup{i:Nat}{ts:List It2}{vs:List V}(h:gN K H i ts vs)(s:eo H H'):gN K H' i ts vs:=by
 induction h with
 |nil=>exact .nil
 |cons h r ih=>exact .cons (h.tup s) ih
theorem gN.len{vs:List V}(h:gN K H i ts vs):vs.length=ts.length:=by
 induction h with
 |nil=>rfl
 |cons h r ih=>rw[cu,cu,ih]
theorem gN.split:∀{i:Nat}{ts us:List It2}{vs:List V},gN K H i (ts++us) vs→∃xs ys,vs=xs++ys∧gN K H i ts xs∧gN K H (i+(ts.flatMap It2.aE).length) us ys
 |i,[],us,vs,h=>⟨[],vs,rfl,.nil,h⟩
 |i,t::ts,us,_,.cons h r=>by
  obtain⟨xs,ys,e,h1,h2⟩:=gN.split (ts:=ts) r;refine⟨_::xs,ys,by rw[e];rfl,.cons h h1,?_⟩;rw[nQ,bh,← Nat.add_assoc];exact h2
end
theorem BV:∀e∈lL,jy e.1=0:=by decide +kernel
theorem HZ:jy (Str.ofString "times")=1∧jy (Str.ofString "back")=1∧jy (Str.ofString "beside")=2∧jy (Str.ofString "then")=2:=by decide +kernel
theorem QU:cY ["words"] ["words"] (bp sV):=dE rfl rfl rfl (by decide +kernel) rfl
theorem QW:cY ["words"] ["words"] (bp sS):=dE rfl rfl rfl (by decide +kernel) rfl
def Ia(K:Frag):Sp:=λvs H Q _=>∃(p:Int)(aw:Addr)(d:Dw),vs=[.ref aw]∧d.ok p∧d.aE.length≤200∧bQ K H aw d.aE∧∀v H',aJ H H'→iV K H' v (d.pC,d.pE,d.qJ 0)→Q (.ref v) H'
theorem QX{fF:Addr}{pH:FuncData}(F:cL K "measured" "measured" sV f fd)
  (GF:qw P w K mg base 4 fF pH ["words","made"] (HJ 2 P w K mg base)) (kF:Kp K fF) (bF:Binds K pH ["words","made"] []) (mF:Mg mg "folded" fF)
  (GM:bN P w K mg base bO 2 fM fO ["place","word","parts"] (BU K)) (FM:cL K "measure" "measure" qz fM fO) (bM:Binds K fO ["place","word","parts"] []) (mM:Mg mg "measure" fM):bN P w K mg base bO 5 f fd ["words"] (Ia K):=by
 refine F.ok QU (λvs H Q E h=>?_) (λcj A outer s H vs Q E hr h=>?_)
 ·obtain⟨p,aw,d,rfl,_⟩:=h;rfl
 ·obtain⟨p,aw,d,rfl,hd,lM,hw,q⟩:=h;obtain⟨yw,BW,BX,BY⟩:=HZ;have ew:([It2.aX d]).flatMap It2.aE=d.aE:=by simp[It2.aE]
  have BZ:∀t∈[It2.aX d],t.ok p:=λt ht=>by rw[cX.mp ht];exact hd
  refine⟨_,bj (cA (BB GF hr rfl mF kF bF (aG (pv 0) (aG (oQ (v:=.ref _) rfl mM rfl) aK)))),?_⟩;refine⟨_,rfl,λaF s1 I=>⟨aw,fM,d.aE,λvs H' Q=>BU K vs H' Q E0,λi vs H'=>gN K H' i (cy [.aX d] i) vs.reverse,rfl,?_⟩⟩;refine⟨hw,lM,lI.Ho GM FM bM,?_,λi vs H1 H2 h tp=>h.tup tp,λi vs H1 h=>?_,λi hi=>?_,λi n vs H1 h g=>?_,λi x vs H1 h g=>?_,?_,λtd aH vs v H' s' h1 h2 h3=>?_⟩
  ·show gN K H d.aE.length (cy [.aX d] d.aE.length) _;have e:=HM (ts:=[.aX d]);rw[ew]at e;rw[e];exact .nil
  ·have e:=h.len;have z:=HN (ts:=[.aX d]) (i:=i);rw[List.length_reverse]at e;rw[ew]at z;lia
  ·obtain⟨t,r,e1,e2,e3⟩:=pF (ts:=[.aX d]) (i:=i) (by rw[ew];exact hi);rw[ew]at e2;rw[e2];cases t with
   |num n=>exact .inr ⟨n,rfl⟩
   |aX d'=>cases d'<;>exact .inl ⟨_,rfl⟩
  ·obtain⟨t,r,e1,e2,e3⟩:=pF (ts:=[.aX d]) (i:=i) (by rw[ew];exact(dB.mp h).1);rw[ew,h]at e2;cases t with
   |num m=>
    have e2:n=m:=V.int.inj (eM e2);subst e2;have g:gN K H1 (i+1) (cy [.aX d] (i+1)) vs.reverse:=g;rw[e3]at g;show gN K H1 i (cy [.aX d] i) (vs++[V.int n]).reverse;rw[e1,uF];exact .cons rfl g
   |aX d'=>cases d'<;>cases e2
  ·obtain⟨t,r,e1,e2,e3⟩:=pF (ts:=[.aX d]) (i:=i) (by rw[ew];exact(dB.mp h).1);rw[ew,h]at e2;have vG:t.ok p:=BP i BZ t (by rw[e1];exact dv);have g:gN K H1 (i+1) (cy [.aX d] (i+1)) vs.reverse:=g;rw[e3]at g;obtain⟨xs,ys,ev,g1,g2⟩:=g.split;have B0:i+1+(t.kids.flatMap It2.aE).length=i+t.aE.length:=by rw[It2.tR t,cu];lia
   rw[B0]at g2;have yy:vs=ys.reverse++xs.reverse:=by rw[← uF,← ev,List.reverse_reverse]
   refine⟨ys.reverse,xs,yy,?_,?_⟩
   ·have el:=g1.len;rw[el];cases t with
    |num m=>cases e2
    |aX d'=>
     cases d' with
     |box x' l' r'=>
      have e2:x=x':=V.str.inj (eM e2);subst e2;exact(BV _ vG).symm
     |times n=>have e2:x=_:=V.str.inj (eM e2);subst e2;exact yw.symm
     |back d'=>have e2:x=_:=V.str.inj (eM e2);subst e2;exact BW.symm
     |bf a b=>have e2:x=_:=V.str.inj (eM e2);subst e2;exact BX.symm
     |aM a b=>have e2:x=_:=V.str.inj (eM e2);subst e2;exact BY.symm
   ·intro pa H2 Q' tp hp hq;refine⟨i,_,pa,_,rfl,hp,?_⟩;have g1:=g1.tup tp;have g2:=g2.tup tp;have fin:∀v H3,aJ H2 H3→vF K H3 i t (.ref v)→Q' (.ref v) H3:=λv H3 s3 hv=>hq (.ref v) H3 s3 (by
     show gN K H3 i (cy [.aX d] i) _;rw[e1,uF,List.reverse_reverse];exact .cons hv (g2.tup s3.tup))
    cases t with
    |num m=>cases e2
    |aX d'=>
     cases d' with
     |box x' l' r'=>
      have e2:x=x':=V.str.inj (eM e2);subst e2;exact .box _ _ (eR _ vG) λv H3 s3 hv=>fin v H3 s3 ⟨v,rfl,hv⟩
     |times n=>
      have e2:x=_:=V.str.inj (eM e2);subst e2;exact .box 1 1 dv λv H3 s3 hv=>fin v H3 s3 ⟨v,rfl,hv⟩
     |back d'=>
      have e2:x=_:=V.str.inj (eM e2);cases g1 with
      |cons h1 r1=>
       cases r1;obtain⟨a,rfl,hf⟩:=h1;exact .back a _ e2 rfl hf λv H3 s3 hv=>fin v H3 s3 ⟨v,rfl,hv⟩
     |bf a b=>
      have e2:x=_:=V.str.inj (eM e2);cases g1 with
      |cons h1 r1=>
       cases r1 with
       |cons h2 r2=>
        cases r2;obtain⟨a1,rfl,hf⟩:=h1;obtain⟨a2,rfl,pI⟩:=h2;exact .bf a1 a2 _ _ e2 rfl hf pI λv H3 s3 hv=>fin v H3 s3 ⟨v,rfl,hv⟩
     |aM a b=>
      have e2:x=_:=V.str.inj (eM e2);cases g1 with
      |cons h1 r1=>
       cases r1 with
       |cons h2 r2=>
        cases r2;obtain⟨a1,rfl,hf⟩:=h1;obtain⟨a2,rfl,pI⟩:=h2;exact .aM a1 a2 _ _ e2 rfl hf pI λv H3 s3 hv=>fin v H3 s3 ⟨v,rfl,hv⟩
  ·cases d<;>exact⟨_,rfl⟩
  ·have h3:gN K H' 0 [.aX d] (vs++[v]).reverse:=h3;rw[uF]at h3;cases h3 with
   |cons hv r=>
    obtain⟨a,rfl,hf⟩:=hv;exact⟨td,aH,_,rfl,h1,h2,q a H' s' hf⟩
def Ib(K:Frag):Sp:=λvs H Q _=>∃(p:Int)(aw:Addr)(d:Dw),vs=[.ref aw]∧d.ok p∧d.aE.length≤200∧bQ K H aw d.aE∧∀v H',aJ H H'→bQ K H' v [.int (d.pC:Int),.int (d.pE:Int)]→Q (.ref v) H'
theorem QY(F:cL K "wires" "wires" sS f fd)
  (GM:bN P w K mg base bO 5 fM fO ["words"] (Ia K)) (kM:Kp K fM) (bM:Binds K fO ["words"] []) (mM:Mg mg "measured" fM):bN P w K mg base bO 6 f fd ["words"] (Ib K):=by
 refine F.ok QW (λvs H Q E h=>?_) (λcj A outer s H vs Q E hr h=>?_)
 ·obtain⟨p,aw,d,rfl,_⟩:=h;rfl
 ·obtain⟨p,aw,d,rfl,hd,lM,hw,q⟩:=h;refine⟨_,bj (cA (eX (vo K rfl) (cO GM hr rfl mM kM bM .nil cP (aG (pv 0) aK)) gq (dy aY))),?_⟩;refine⟨_,rfl,p,aw,d,rfl,hd,lM,hw,λv H1 s1 hv=>?_⟩;exact⟨_,rfl,v,_,rfl,hv,λt H2 s2 ht=>q t H2 (s1.trans s2) ht⟩
inductive QZ(i:Nat)(x:Str)(ps:List V)(H:Hp)(Q:VK):Prop where
 |times (h:x="times") (q:∀H',aJ H H'→Q (.int ((i+2:Nat):Int)) H')
 |box (h:x ≠ "times") (hp:ps=[]) (q:∀H',aJ H H'→Q (.int ((i+1:Nat):Int)) H')
 |pG (qs:List V) (e:Nat) (h:x ≠ "times") (hp:ps=qs++[.int (e:Int)]) (q:∀H',aJ H H'→Q (.int (e:Int)) H')
def B1:Sp:=λvs H Q _=>∃(i:Nat)(x:Str)(pa:Addr)(ps:List V),vs=[.int (i:Int),.str x,.ref pa]∧H pa=some (.lst ps)∧QZ i x ps H Q
theorem Q0:cY ["place","word","parts"] ["place","word","parts"] (bp qy):=dE rfl rfl rfl (by decide +kernel) rfl
theorem Q3(F:cL K "end_of" "end_of" qy f fd):bN P w K mg base bO 1 f fd ["place","word","parts"] B1:=by
 refine F.ok Q0 (λvs H Q E h=>?_) (λcj A outer s H vs Q E hr h=>?_)
 ·obtain⟨i,x,pa,ps,rfl,_⟩:=h;rfl
 ·obtain⟨i,x,pa,ps,rfl,hp,h⟩:=h;refine⟨_,ba (cS (cE dZ (pv 1) aW (cD _)) (bj (cA (aU fu (pv 0) aY))) dW) (bj (cA (EF (E1 (pv 2) (λ_=>rfl)) (bZ (cH K rfl) (pv 2) (uR uS aY) (λ_ _=>rfl)) (aU fu (pv 0) aY)))),?_⟩;cases h with
  |times hx q=>
   subst hx;refine⟨_,rfl,rfl,_,rfl,?_⟩;rw[ax rfl];exact eP ⟨_,rfl,_,_,rfl,rfl,q _ (.refl _)⟩
  |box hx nc q=>
   subst nc;refine⟨_,rfl,rfl,_,rfl,?_⟩;rw[ae (λz=>hx (V.str.inj z))];refine cW ⟨_,rfl,_,.inl ⟨[],.of hp,rfl⟩,cW ⟨_,rfl,_,_,rfl,rfl,q _ (.refl _)⟩⟩
  |pG qs e hx nc q=>
   subst nc;refine⟨_,rfl,rfl,_,rfl,?_⟩;rw[ae (λz=>hx (V.str.inj z))];refine cW ⟨_,rfl,_,.inl ⟨_,.of hp,rfl⟩,?_⟩;have ht:(qs++[V.int (e:Int)]).isEmpty=false:=by cases qs<;>rfl
   rw[ht];exact eP ⟨_,rfl,_,rfl,pa,_,-1,_,rfl,rfl,.of hp,Fg _ _,q _ (.refl _)⟩
noncomputable def iu:Nat→List It2→List V
 |_,[]=>[]
 |i,.num n::ts=>.int n::iu (i+1) ts
 |i,.aX d::ts=>.int ((i+d.aE.length:Nat):Int)::iu (i+d.aE.length) ts
theorem yz:∀(i:Nat)(ts:List It2),(iu i ts).length=ts.length
 |_,[]=>rfl
 |i,.num n::ts=>by rw[cu,← yz (i+1) ts];rfl
 |i,.aX d::ts=>by rw[cu,← yz (i+d.aE.length) ts];rfl
theorem B2:∀(i:Nat)(ts us:List It2),iu i (ts++us)=iu i ts++iu (i+(ts.flatMap It2.aE).length) us
 |_,[],_=>rfl
 |i,.num n::ts,us=>by
  show V.int n::iu (i+1) (ts++us)=V.int n::(iu (i+1) ts++_);rw[B2 (i+1) ts us,nQ,bh,show It2.aE (.num n)=[V.int n] from rfl,List.length_singleton,Nat.add_assoc]
 |i,.aX d::ts,us=>by
  show V.int _::iu (i+d.aE.length) (ts++us)=V.int _::(iu (i+d.aE.length) ts++_);rw[B2 (i+d.aE.length) ts us,nQ,bh,show It2.aE (.aX d)=d.aE from rfl,Nat.add_assoc]
def Ic(d:Dw)(i:Nat)(v:V):Prop:=∀d' r,cy [.aX d] i=.aX d'::r→v=.int ((i+d'.aE.length:Nat):Int)
structure vH(aH:List (Key×V))(d:Dw):Prop where
 keys:aH.map Prod.fst=(km d.aE d.aE.length).map (λ(n:Nat)=>(Sum.inl (n:Int):Key))
 at':∀(i:Nat)(x:Str),d.aE[i]?=some (.str x)→∃v,dh aH (Sum.inl (i:Int))=some v∧Ic d i v
def Ie(K:Frag):Sp:=λvs H Q _=>∃(p:Int)(aw:Addr)(d:Dw),vs=[.ref aw]∧d.ok p∧d.aE.length≤200∧bQ K H aw d.aE∧∀td aH H',aJ H H'→H' td=some (.dK aH)→vH aH d→Q (.ref td) H'
theorem Q4:cY ["words"] ["words"] (bp sU):=dE rfl rfl rfl (by decide +kernel) rfl
theorem Q5{fA:Addr}{pB:FuncData}(F:cL K "ends" "ends" sU f fd)
  (GA:qw P w K mg base 2 fA pB ["words","made"] (BH 1 P w K mg base)) (kA:Kp K fA) (bA:Binds K pB ["words","made"] []) (mA:Mg mg "all_folded" fA)
  (GM:bN P w K mg base bO 1 fM fO ["place","word","parts"] B1) (FM:cL K "end_of" "end_of" qy fM fO) (bM:Binds K fO ["place","word","parts"] []) (mM:Mg mg "end_of" fM):bN P w K mg base bO 3 f fd ["words"] (Ie K):=by
 refine F.ok Q4 (λvs H Q E h=>?_) (λcj A outer s H vs Q E hr h=>?_)
 ·obtain⟨p,aw,d,rfl,_⟩:=h;rfl
 ·obtain⟨p,aw,d,rfl,hd,lM,hw,q⟩:=h;obtain⟨yw,BW,BX,BY⟩:=HZ;have ew:([It2.aX d]).flatMap It2.aE=d.aE:=by simp[It2.aE]
  have BZ:∀t∈[It2.aX d],t.ok p:=λt ht=>by rw[cX.mp ht];exact hd
  refine⟨_,bj (cA (BB GA hr rfl mA kA bA (aG (pv 0) (aG (oQ (v:=.ref _) rfl mM rfl) aK)))),?_⟩;refine⟨_,rfl,λaF s1 I=>⟨aw,fM,d.aE,λvs H' Q=>B1 vs H' Q E0,λi vs _=>vs.reverse=iu i (cy [.aX d] i),λi v _=>Ic d i v,rfl,?_⟩⟩;refine⟨hw,lM,lI.Ho GM FM bM,?_,λi vs H1 H2 h tp=>h,λi v H1 H2 h tp=>h,λi vs H1 h=>?_,λi hi=>?_,λi n vs H1 h g=>?_,λi x vs H1 h g=>?_,λtd aH vs H' s' h1 h2 h3 _=>q td aH H' s' h1 ⟨h2,h3⟩⟩
  ·have e:=HM (ts:=[.aX d]);rw[ew]at e;show[]=iu _ (cy [.aX d] d.aE.length);rw[e];rfl
  ·have e:=aj List.length h;have z:=HN (ts:=[.aX d]) (i:=i);rw[List.length_reverse,yz]at e;rw[ew]at z;lia
  ·obtain⟨t,r,e1,e2,e3⟩:=pF (ts:=[.aX d]) (i:=i) (by rw[ew];exact hi);rw[ew]at e2;rw[e2];cases t with
   |num n=>exact .inr ⟨n,rfl⟩
   |aX d'=>cases d'<;>exact .inl ⟨_,rfl⟩
  ·obtain⟨t,r,e1,e2,e3⟩:=pF (ts:=[.aX d]) (i:=i) (by rw[ew];exact(dB.mp h).1);rw[ew,h]at e2;cases t with
   |num m=>
    have e2:n=m:=V.int.inj (eM e2);subst e2;have g:vs.reverse=iu (i+1) (cy [.aX d] (i+1)):=g;rw[e3]at g;show(vs++[V.int n]).reverse=iu i (cy [.aX d] i);rw[e1,uF,g];rfl
   |aX d'=>cases d'<;>cases e2
  ·obtain⟨t,r,e1,e2,e3⟩:=pF (ts:=[.aX d]) (i:=i) (by rw[ew];exact(dB.mp h).1);rw[ew,h]at e2;have vG:t.ok p:=BP i BZ t (by rw[e1];exact dv);have g:vs.reverse=iu (i+1) (cy [.aX d] (i+1)):=g;rw[e3,B2]at g;have yy:vs=(iu (i+1+(t.kids.flatMap It2.aE).length) r).reverse++(iu (i+1) t.kids).reverse:=by rw[← uF,← g,List.reverse_reverse]
   cases t with
   |num m=>cases e2
   |aX d'=>
    have B0:i+1+((It2.aX d').kids.flatMap It2.aE).length=i+d'.aE.length:=by
     have:=aj List.length (It2.tR (.aX d'))
     rw[cu,show It2.aE (.aX d')=d'.aE from rfl]at this
     lia
    rw[B0]at yy;refine⟨_,_,yy,?_,?_⟩
    ·rw[yz];have e2:V.str x=(It2.aX d').head:=eM e2;cases d' with
     |box x' l' r'=>cases e2;exact(BV _ vG).symm
     |times n=>cases e2;exact yw.symm
     |back d'=>cases e2;exact BW.symm
     |bf a b=>cases e2;exact BX.symm
     |aM a b=>cases e2;exact BY.symm
    ·intro pa H2 Q' tp hp hq;have fin:∀(e:Nat) H3,aJ H2 H3→e=i+d'.aE.length→Q' (.int (e:Int)) H3:=λe H3 s3 he=>hq _ H3 s3 (by
      show(_++[V.int (e:Int)]).reverse=iu i (cy [.aX d] i);rw[e1,uF,List.reverse_reverse,he];rfl) (by
      intro d2 r2 z;rw[e1]at z;cases z;rw[he])
     refine⟨i,x,pa,_,rfl,hp,?_⟩;have e2:V.str x=(It2.aX d').head:=eM e2;cases d' with
     |box y l r=>cases e2;exact .box (λz=>absurd (BV _ vG) (by rw[z];show ¬jy "times"=0;rw[yw];decide)) rfl λH3 s3=>fin _ H3 s3 (by simp[Dw.aE])
     |times n=>cases e2;exact .times rfl λH3 s3=>fin _ H3 s3 (by simp[Dw.aE])
     |back a=>cases e2;exact .pG [] _ (by decide) rfl λH3 s3=>fin _ H3 s3 (by simp[Dw.aE];lia)
     |bf a b=>cases e2;exact .pG [_] _ (by decide) rfl λH3 s3=>fin _ H3 s3 (by simp[Dw.aE];lia)
     |aM a b=>cases e2;exact .pG [_] _ (by decide) rfl λH3 s3=>fin _ H3 s3 (by simp[Dw.aE];lia)
theorem tX:∀(i j:Nat)(ts:List It2),cy ts (i+j)=cy (cy ts i) j
 |0,j,ts=>by rw[oM];cases ts<;>rfl
 |i+1,j,[]=>by rw[vC,vC,vC]
 |i+1,j,t::ts=>by
  rw[Nat.succ_add];show cy (t.kids++ts) (i+j)=cy (cy (t.kids++ts) i) j;exact tX i j _
theorem Ig:∀(n:Nat)(ts r:List It2),(ts.flatMap It2.aE).length=n→cy (ts++r) n=r
 |0,[],r,_=>by cases r<;>rfl
 |0,t::ts,r,h=>absurd (tV (ts:=t::ts) (by simp)) (by lia)
 |n+1,[],r,h=>by cases h
 |n+1,t::ts,r,h=>by
  show cy (t.kids++(ts++r)) n=r;rw[← pX];refine Ig n (t.kids++ts) r ?_;rw[nQ,It2.tR t,List.cons_append,cu,bh]at h;rw[List.flatMap_append,bh];lia
theorem Q6{r:List It2}:cy (t::r) t.aE.length=r:=Ig _ [t] r (by simp)
theorem B3{r:List It2}(h:cy ts i=t::r):cy ts (i+t.aE.length)=r:=by rw[tX,h,Q6]
theorem Q7{r:List It2}(h:cy ts i=t::r):((ts.flatMap It2.aE).drop i).take t.aE.length=t.aE:=by
 rw[← tU,h,nQ,List.take_left' rfl]
theorem B4{r:List It2}(h:cy ts i=t::r):i+t.aE.length≤(ts.flatMap It2.aE).length:=by
 have e:=aj List.length (tU i ts);rw[h,nQ,bh,eF]at e
 have:=t.pos
 lia
def It2.okN(p:Int):It2→Prop
 | .num n=>0≤n∧n<p
 | .aX d=>d.ok p
theorem Q8{p:Int}(h:t.okN p):∀u∈t.kids,u.okN p:=by
 cases t with
 |num n=>intro u hu;cases hu
 |aX d=>
  cases d with
  |box=>intro u hu;cases hu
  |times n=>intro u hu;rw[cX.mp hu];exact h
  |back d=>intro u hu;rw[cX.mp hu];exact h
  |bf a b=>
   intro u hu;rcases(e9.mp hu)with z|z
   ·rw[z];exact h.1
   ·rw[cX.mp z];exact h.2
  |aM a b=>
   intro u hu;rcases(e9.mp hu)with z|z
   ·rw[z];exact h.1
   ·rw[cX.mp z];exact h.2
theorem Ih{p:Int}:∀(i:Nat){ts:List It2},(∀t∈ts,t.okN p)→∀t∈cy ts i,t.okN p
 |0,ts,h=>by intro t ht;cases ts<;>exact h t ht
 |i+1,[],h=>by intro t ht;rw[vC]at ht;cases ht
 |i+1,t::ts,h=>Ih i (ts:=t.kids++ts) λu hu=>by
  rcases(dM.mp hu)with z|z
  ·exact Q8 (h t dv) u z
  ·exact h u (eR _ z)
theorem vH.get{aH:List (Key×V)}{d d':Dw}{r:List It2}(E:vH aH d)(h:cy [.aX d] i=.aX d'::r):dh aH (Sum.inl (i:Int))=some (.int ((i+d'.aE.length:Nat):Int)):=by
 have ew:([It2.aX d]).flatMap It2.aE=d.aE:=by simp[It2.aE]
 have hl:=B4 h;have hp:=(It2.aX d').pos;obtain⟨t,r',e1,e2,_⟩:=pF (ts:=[.aX d]) (i:=i) (by lia);rw[h]at e1;cases e1;rw[ew]at e2;obtain⟨x,hx⟩:∃x,(It2.aX d').head=.str x:=by cases d'<;>exact⟨_,rfl⟩
 rw[hx]at e2;obtain⟨v,h1,h2⟩:=E.at' i x e2;rw[h1,h2 d' r h]
noncomputable def jz:List Str:=["A","B","C","D"]
noncomputable def ko:List Str:=["k","l"]
noncomputable def lN:V→Str
 | .str x=>x
 | .int n=>toString n
 |_=>Str.empty
noncomputable def cv:List Str→List It2→List (Str×List V)→Option (Option (List (Str×List V)))
 | [],_,acc=>some (some acc)
 |_::_,[],_=>none
 |x::xs,t::ts,acc=>
  if x∈jz then match t with
   | .aX d=>if x∈acc.map Prod.fst then none else cv xs ts (acc++[(x,d.aE)])
   | .num _=>none
  else if x∈ko then match t with
   | .num n=>if x∈acc.map Prod.fst then none else cv xs ts (acc++[(x,[.int n])])
   | .aX _=>none
  else if lN t.head=x then cv xs (t.kids++ts) acc else some none
end S21
namespace L2
open PySem PySem.Spec PyProof.Rows
section
variable{prog:Program}{w:World}{κ:Type} [DecidableEq κ] {kd:KeyKind prog w κ}
variable{s:Shared}{A:Around}{E:QV}
end
end L2
namespace L2
open PySem PySem.Spec PyProof.Rows PySem.W
section
variable{w:World}{prog:Program}
variable{A:Around}{E:QV}{s:Shared}{it d:Addr}{es:Array DictEntry}{i ep:Nat}
end
abbrev Ii(κ:Type):=κ×Addr×V
section
variable{P:Program}{w:World}{κ:Type} [DecidableEq κ] {kn:HeapKind P w κ} {H:Hp} {h:Heap} {a:Addr} {xs:List (Ii κ)}
end
section
variable{X:Cx}{κ:Type} [DecidableEq κ] {kn:HeapKind X.prog X.w κ} {R:Hp→κ→Addr→Prop} {aF:List (Addr×Obj)} {σ:St} {H:Hp} {s:Shared} {a b:Addr} {xs:List (Ii κ)} {k:κ} {v d:V} {u r:Value} {A:Around} {E:QV}
end
section
variable{X:Cx}{κ:Type} [DecidableEq κ] {kn:HeapKind X.prog X.w κ} {R:Hp→κ→Addr→Prop} {o i e f value:Expr} {pos ju gZ eY:Pos} {td ty tv tx:TE}
end
abbrev Pr:=List Int×List Int
def kq(K:Frag)(H:Hp)(q:Pr)(a:Addr):Prop:=∃b c,bQ K H a [.ref b,.ref c]∧bQ K H b (q.1.map V.int)∧bQ K H c (q.2.map V.int)
theorem items_int{P:Program}{w:World}:∀{ks:List Int}{us:List Value},Vals (ks.map V.int) us→ItemsAre (intKind P w) ks us
 | [],_,.nil=>.nil
 |k::ks,_,.cons r t=>by
  obtain⟨tk,rfl⟩:=r;exact .cons (by show Value.isInt k (.int k tk)=true;simp[Value.isInt]) (items_int t)
section
variable{X:Cx}{K:Frag}{P:Program}{w:World}{aF:List (Addr×Obj)}{σ:St}{H:Hp}{s:Shared}
end
section
variable{K:Frag}{H H':Hp}{VS:List V}{ps:List Pr}
end
end L2
namespace S21
open PySem L2 Bw
variable{aH:List (Key×V)}
theorem yB(x:Str)(L:List Str):o8 (.str x) (L.map V.str)=decide (x∈L):=by
 unfold o8;rw[List.any_map];induction L with
 |nil=>rfl
 |cons a L ih=>
  rw[List.any_cons,ih];show(a==x||decide (x∈L))=decide (x∈a::L);by_cases e:a=x
  ·rw[e,beq_self_eq_true,Bool.true_or,ax dv]
  ·rw[beq_eq_false_iff_ne.mpr e,Bool.false_or];exact decide_eq_decide.mpr ⟨eR _,λh=>(e9.mp h).resolve_left λz=>e z.symm⟩
def dz(K:Frag)(H:Hp):List (Key×V)→List (Str×List V)→Prop
 | [],[]=>True
 |kv::aH,e::env=>kv.1=Sum.inr e.1∧(∃a,kv.2=.ref a∧bQ K H a e.2)∧dz K H aH env
 |_,_=>False
theorem dz.tup{K:Frag}{H H':Hp}(s:eo H H'):∀{aH:List (Key×V)}{env:List (Str×List V)},dz K H aH env→dz K H' aH env
 | [],[],_=>trivial
 |_::_,_::_,⟨h1,⟨a,h2,h3⟩,h4⟩=>⟨h1,⟨a,h2,s.cG h3⟩,dz.tup s h4⟩
 | [],_::_,h=>h.elim
 |_::_,[],h=>h.elim
theorem dz.keys{K:Frag}{H:Hp}:∀{aH:List (Key×V)}{env:List (Str×List V)},dz K H aH env→aH.map Prod.fst=env.map λe=>Sum.inr e.1
 | [],[],_=>rfl
 |_::_,_::_,⟨h1,_,h4⟩=>by rw[iJ,iJ,h1,dz.keys h4]
 | [],_::_,h=>h.elim
 |_::_,[],h=>h.elim
theorem dz.len{K:Frag}{H:Hp}{env:List (Str×List V)}(h:dz K H aH env):aH.length=env.length:=by
 have:=aj List.length h.keys
 rwa[br,br]at this
theorem Q9{k:Key}{v:V}:dh ((k,v)::aH) k=some v:=by
 unfold dh;rw[List.find?_cons_of_pos (by simp)];rfl
theorem Ij{k k':Key}{v:V}(h:k'≠k):dh ((k',v)::aH) k=dh aH k:=by
 unfold dh;rw[List.find?_cons_of_neg (by simpa using h)]
theorem dz.miss{K:Frag}{H:Hp}{x:Str}:∀{aH:List (Key×V)}{env:List (Str×List V)},dz K H aH env→x ∉ env.map Prod.fst→dh aH (Sum.inr x)=none
 | [],[],_,_=>rfl
 |(k,v)::aH,e::env,⟨h1,_,h4⟩,hx=>by
  rw[iJ,e9,not_or]at hx
  have:=dz.miss h4 hx.2
  cases h1;exact(Ij λz=>hx.1 (Sum.inr.inj z).symm).trans this
 | [],_::_,h,_=>h.elim
 |_::_,[],h,_=>h.elim
theorem dz.hit{K:Frag}{H:Hp}{x:Str}{ws:List V}:∀{aH:List (Key×V)}{env:List (Str×List V)},dz K H aH env→env.lookup x=some ws→∃a,dh aH (Sum.inr x)=some (.ref a)∧bQ K H a ws
 | [],[],_,h=>by cases h
 |(k,v)::aH,(y,us)::env,⟨h1,⟨a,h2,h3⟩,h4⟩,h=>by
  cases h1;cases h2;rw[nM]at h;by_cases e:x=y
  ·subst e;rw[beq_self_eq_true]at h;cases h;exact⟨a,Q9,h3⟩
  ·rw[beq_eq_false_iff_ne.mpr e]at h;obtain⟨b,e1,e2⟩:=dz.hit h4 h;exact⟨b,(Ij λz=>e (Sum.inr.inj z).symm).trans e1,e2⟩
 | [],_::_,h,_=>h.elim
 |_::_,[],h,_=>h.elim
theorem dz.snoc{K:Frag}{H:Hp}{x:Str}{ws:List V}{a:Addr}(g:bQ K H a ws):∀{aH:List (Key×V)}{env:List (Str×List V)},dz K H aH env→dz K H (aH++[(Sum.inr x,.ref a)]) (env++[(x,ws)])
 | [],[],_=>⟨rfl,⟨a,rfl,g⟩,trivial⟩
 |_::_,_::_,⟨h1,h2,h4⟩=>⟨h1,h2,dz.snoc g h4⟩
 | [],_::_,h=>h.elim
 |_::_,[],h=>h.elim
theorem nh{b:Bool}{A B:Prop}(h:b=true)(q:A):if b=true then A else B:=by rw[af h];exact q
theorem kr{b:Bool}{A B:Prop}(h:b=false)(q:B):if b=true then A else B:=by rw[ag (by rw[h];decide)];exact q
def Ra:List V→Hp→VK→Prop:=λxs H Q=>(∃x,xs=[.str x]∧Q (.str x) H)∨(∃i:Int,xs=[.int i]∧i.natAbs.log2<1920∧Q (.str (toString i)) H)
theorem Rb{X:Cx}:eI X (.type "str") Ra:=QJ
theorem Ik{n:Int}(h0:0≤n)(h:n<200):n.natAbs.log2<1920:=by
 obtain⟨m,rfl⟩:∃m:Nat,n=m:=⟨n.toNat,by lia⟩
 have:((m:Int).natAbs).log2≤m:=by
  rw[Int.natAbs_natCast];exact Nat.log2_le_self m
 lia
theorem Rc{ws us:List V}{i n:Nat}(h:i+n≤ws.length)(e:(ws.drop i).take n=us):eV ws (some (i:Int)) (some ((i+n:Nat):Int))=us:=by
 have e1:HT.ck ws.length 0 (some (i:Int))=i:=by rw[HT.r8];lia
 have e2:HT.ck ws.length ws.length (some ((i+n:Nat):Int))=i+n:=by rw[HT.r8];lia
 unfold eV;rw[e1,e2,Nat.add_sub_cancel_left];exact e
structure Lets(K:Frag)(mg:Str→Option Value)(aD aN:Addr):Prop where
 mD:mg "ANY_DRAWING"=some (.ref aD)
 mN:mg "ANY_NUMBER"=some (.ref aN)
 hD:∀H,bQ K H aD (jz.map V.str)
 hN:∀H,bQ K H aN (ko.map V.str)
def Found(K:Frag)(H:Hp)(Q:VK):Option (List (Str×List V))→Prop
 |none=>∀H',aJ H H'→Q .cm H'
 |some env=>∀td aH H',aJ H H'→H' td=some (.dK aH)→dz K H' aH env→Q (.ref td) H'
def B5(K:Frag):Sp:=λvs H Q _=>∃(p:Int)(aw be:Addr)(i:Nat)(x:Str)(ps:List Str)(d:Dw)(kb:List (Key×V))(res:Option (List (Str×List V))),vs=[.ref aw,.ref be,.int (i:Int),.str x]∧d.ok p∧p≤97∧d.aE.length≤200∧bQ K H aw d.aE∧H be=some (.dK kb)∧vH kb d∧
 Txt.split x (Str.ofString " ")=ps∧ps.length≤100∧x.length+2≤sizeLine∧cv ps (cy [.aX d] i) []=some res∧Found K H Q res
theorem qK:cY ["words","behind","at","text","found","place","piece"] ["words","behind","at","text"] (bp sZ):=dE rfl rfl rfl (by decide +kernel) rfl
set_option maxRecDepth 100000 in
theorem Rf{aD aN f:Addr}{fd:FuncData}(F:cL K "matched" "matched" sZ f fd)(T:Txt mg)(L:Lets K mg aD aN):bN P w K mg base bO 1 f fd ["words","behind","at","text"] (B5 K):=by
 refine F.ok qK (λvs H Q E h=>?_) (λcj A outer s H vs Q E hr h=>?_)
 ·obtain⟨p,aw,be,i,x,ps,d,kb,res,rfl,_⟩:=h;rfl
 ·obtain⟨p,aw,be,i,x,ps,d,kb,res,rfl,hd,hp,lM,hw,hb,hE,es,jb,hx,hm,q⟩:=h;have z:(1000:Nat)≤sizeLine:=by decide
  have cT:=qo hr;refine⟨_,ba (bw (i:=4) qK.nd rfl (.inl rfl) Hd) (ba (bw (i:=5) qK.nd rfl (.inl rfl) (pv 2)) (ba (ja jq rfl (gg K rfl (iP PySem.F.plainAttrs_str PySem.F.slot_str_split PySem.F.type_str_split yv (pv 3) (aG aW aK))) (cB (i:=6) qK.nd rfl (.inl rfl)) (bj (cS (cE (Gg K rfl) (pv 6) (oQ (v:=.ref _) rfl L.mD rfl) rfl) (ba (iT cT (pv 4) (pv 6) (eX (vo K rfl) (pv 0) (dy (pv 5)) (dy (lH cT (pv 1) (pv 5) (λ_ _=>rfl)))) rfl) (bj (bw (i:=5) qK.nd rfl (.inl rfl) (lH cT (pv 1) (pv 5) (λ_ _=>rfl))))) (bj (cS (cE (Gg K rfl) (pv 6) (oQ (v:=.ref _) rfl L.mN rfl) rfl) (ba (iT cT (pv 4) (pv 6) (eX (vo K rfl) (pv 0) (dy (pv 5)) (dy (aU fu (pv 5) aY))) rfl) (bj (As (i:=5) qK.nd rfl (.inl rfl) aY EG))) (bj (cS (cE dZ (jc Rb rfl T.str Pa (aG (bZ (fH K rfl) (pv 0) (pv 5) (λ_ _=>rfl)) aK)) (pv 6) (cD _)) (bj (As (i:=5) qK.nd rfl (.inl rfl) aY EG)) (bj (cA nW))))))))) (bj (cA (pv 4))))),?_⟩;intro td tO;have s0:=aJ.upd tO (o:=.dK []);have g0:(upd H td (.dK [])) td=some (.dK []):=aZ;generalize upd H td (.dK [])=HA at s0 g0 ⊢;dsimp only[bo];refine⟨_,rfl,?_⟩;dsimp only[bo];refine⟨_,rfl,rfl,_,_,rfl,rfl,by decide,hx,by rw[es];lia,λls fb=>?_⟩;rw[es];have s1:=aJ.upd fb (o:=.lst (ps.map V.str));have gs:(upd HA ls (.lst (ps.map V.str))) ls=some (.lst (ps.map V.str)):=aZ;have Rg:td≠ls:=fZ g0 fb;have g1:=s1 _ _ g0;have vI:=s0.trans s1;generalize upd HA ls (.lst (ps.map V.str))=HB at s1 gs g1 vI ⊢;have ew:([It2.aX d]).flatMap It2.aE=d.aE:=by simp[It2.aE]
  have bz:∀j,∀t∈cy [.aX d] j,t.okN p:=λj=>Ih j λt ht=>by rw[cX.mp ht];exact hd
  refine⟨ls,rfl,⟨_,.of gs⟩,oY (xs:=ps.map V.str) (λk σ H'=>aJ H H'∧H' ls=some (.lst (ps.map V.str))∧∃(pl:Nat)(acc:List (Str×List V))(aH:List (Key×V))(s6:Option V),σ=[some (.ref aw),some (.ref be),some (.int (i:Int)),some (.str x),some (.ref td),some (.int (pl:Int)),s6]∧H' td=some (.dK aH)∧dz K H' aH acc∧acc.length≤k∧cv (ps.drop k) (cy [.aX d] pl) acc=some res) ⟨vI,gs,i,[],[],none,rfl,g1,trivial,bH _,hm⟩ (λk σ H' _ ⟨_,e,_⟩=>.of e) ?_ ?_⟩
  ·rintro k x' σ H1 gF ⟨sm,tY,pl,acc,aH,s6,rfl,fh,hv,hk,em⟩;rw[fj]at gF;cases hi:ps[k]? with
   |none=>rw[hi]at gF;cases gF
   |some y=>
    rw[hi]at gF;cases gF;have qL:=(dB.mp hi).1;have ed:ps.drop k=y::ps.drop (k+1):=by rw[Ai qL,(dB.mp hi).2]
    rw[ed]at em;cases eT:cy [.aX d] pl with
    |nil=>rw[eT]at em;cases em
    |cons t r=>
     rw[eT]at em;have yC:=sm _ _ hb;have pJ:=sm.cG hw;have dt:=B4 eT;have htp:=t.pos;rw[ew]at dt;obtain⟨t',r',e1,e2,e3⟩:=pF (ts:=[.aX d]) (i:=pl) (by rw[ew];lia);rw[eT]at e1;cases e1;rw[ew]at e2;have ml:cy [.aX d] (pl+t.aE.length)=r:=B3 eT;have yD:=Q7 eT;rw[ew]at yD;have Il:∀e:Nat,e=pl+t.aE.length→eV d.aE (some (pl:Int)) (some (e:Int))=t.aE:=λe he=>by
      subst he;exact Rc dt yD
     dsimp only[bo];have Rh:be≠td:=λe=>by rw[e,tO]at hb;cases hb
     have Ri:ls≠td:=Ne.symm Rg;have fQ:aH.length<sizeLine:=by rw[hv.len];lia
     refine⟨_,rfl,aD,_,rfl,.inr (L.hD _),rfl,by decide +kernel,_,rfl,?_⟩;have put:∀(c:Addr)(H2:Hp)(ws:List V),aJ H1 H2→bQ K H2 c ws→y ∉ acc.map Prod.fst→H2 td=some (.dK aH)∧((upd H2 td (.dK (d7 aH (Sum.inr y) (.ref c)))) be=some (.dK kb))∧aJ H (upd H2 td (.dK (d7 aH (Sum.inr y) (.ref c))))∧(upd H2 td (.dK (d7 aH (Sum.inr y) (.ref c)))) ls=some (.lst (ps.map V.str))∧dz K (upd H2 td (.dK (d7 aH (Sum.inr y) (.ref c)))) (d7 aH (Sum.inr y) (.ref c)) (acc++[(y,ws)]):=λc H2 ws s2 hc hn=>by
      have g2:=s2 _ _ fh;refine⟨g2,by rw[cC Rh];exact s2 _ _ yC,(sm.trans s2).put tO,by rw[cC Ri];exact s2 _ _ tY,?_⟩;have e:=G4 (.ref c) (dz.miss (hv.tup s2.tup) hn);rw[e];exact(dz.snoc hc (hv.tup s2.tup)).tup (eo.Hn g2)
     by_cases h1:y∈jz
     ·refine nh (by show o8 (.str y) (jz.map V.str)=true;rw[yB,ax h1]) ?_;unfold cv at em;rw[af h1]at em;cases t with
      |num n=>cases em
      |aX d'=>
       have em:(if y∈acc.map Prod.fst then none else cv (ps.drop (k+1)) r (acc++[(y,d'.aE)]))=some res:=em
       by_cases hn:y∈acc.map Prod.fst
       ·rw[af hn]at em;cases em
       rw[ag hn]at em;have eG:=hE.get eT;have dg:∀{H'},H' be=some (.dK kb)→gz H' be (.int (pl:Int)) (some (.int ((pl+d'.aE.length:Nat):Int))):=λ{H'} h=>by
        have:=gz.k (k:=Sum.inl (pl:Int)) h
        rw[eG]at this;exact this
       refine⟨_,rfl,_,rfl,_,rfl,_,rfl,_,rfl,be,_,rfl,dg yC,_,rfl,aw,_,rfl,pJ,λc H2 s2 hc=>?_⟩;rw[show eV d.aE (some (pl:Int)) (some ((pl+d'.aE.length:Nat):Int))=d'.aE from Il _ rfl]at hc
       obtain⟨p1,p2,p3,p4,p5⟩:=put c H2 d'.aE s2 hc hn;refine⟨_,rfl,_,rfl,td,_,rfl,oo.k (k:=Sum.inr y) p1 fQ,?_⟩;refine⟨_,rfl,_,rfl,be,_,rfl,dg p2,?_⟩;exact⟨p3,p4,pl+d'.aE.length,acc++[(y,d'.aE)],_,_,rfl,aZ,p5,by rw[bh];show _+1≤_;lia,by rw[show cy [.aX d] (pl+d'.aE.length)=r from ml];exact em⟩
     refine kr (by show o8 (.str y) (jz.map V.str)=false;rw[yB,ae h1]) ?_;refine⟨_,rfl,aN,_,rfl,.inr (L.hN _),rfl,by decide +kernel,_,rfl,?_⟩;by_cases h2:y∈ko
     ·refine nh (by show o8 (.str y) (ko.map V.str)=true;rw[yB,ax h2]) ?_;unfold cv at em;rw[ag h1,af h2]at em;cases t with
      |aX d'=>cases em
      |num n=>
       have em:(if y∈acc.map Prod.fst then none else cv (ps.drop (k+1)) r (acc++[(y,[.int n])]))=some res:=em
       by_cases hn:y∈acc.map Prod.fst
       ·rw[af hn]at em;cases em
       rw[ag hn]at em;refine⟨_,rfl,_,rfl,_,rfl,_,rfl,_,_,rfl,rfl,_,rfl,aw,_,rfl,pJ,λc H2 s2 hc=>?_⟩;have ec:eV d.aE (some (pl:Int)) (some ((pl+1:Nat):Int))=[.int n]:=Il (pl+1) rfl;rw[show((pl+1:Nat):Int)=(pl:Int)+1 by lia]at ec;rw[ec]at hc;obtain⟨p1,p2,p3,p4,p5⟩:=put c H2 [.int n] s2 hc hn;refine⟨_,rfl,_,rfl,td,_,rfl,oo.k (k:=Sum.inr y) p1 fQ,?_⟩;refine⟨_,rfl,_,_,rfl,rfl,?_⟩;exact⟨p3,p4,pl+1,acc++[(y,[.int n])],_,_,rfl,aZ,p5,by rw[bh];show _+1≤_;lia,by rw[show cy [.aX d] (pl+1)=r from ml];exact em⟩
     refine kr (by show o8 (.str y) (ko.map V.str)=false;rw[yB,ae h2]) ?_;unfold cv at em;rw[ag h1,ag h2]at em;refine⟨_,rfl,_,rfl,aw,_,(pl:Int),_,rfl,rfl,pJ,cb (j:=pl) e2,?_⟩;have yE:=bz pl t (by rw[eT];exact dv);by_cases h3:lN t.head=y
     ·rw[af h3]at em;have fin:∀s6,aJ H H1∧H1 ls=some (.lst (ps.map V.str))∧∃(Im:Nat)(acc:List (Str×List V))(aH:List (Key×V))(B6:Option V),[some (.ref aw),some (.ref be),some (.int (i:Int)),some (.str x),some (.ref td),some (.int ((pl:Int)+1)),s6]=[some (.ref aw),some (.ref be),some (.int (i:Int)),some (.str x),some (.ref td),some (V.int (Im:Int)),B6]∧H1 td=some (.dK aH)∧dz K H1 aH acc∧acc.length≤k+1∧cv (ps.drop (k+1)) (cy [.aX d] Im) acc=some res:=λs6=>
       ⟨sm,tY,pl+1,acc,aH,s6,rfl,fh,hv,by lia,by rw[e3];exact em⟩
      cases t with
      |num n=>
       refine .inr ⟨n,rfl,Ik yE.1 (by have:=yE.2;lia),_,rfl,rfl,_,rfl,nh (ax (aj V.str h3)) ⟨_,rfl,_,_,rfl,rfl,fin _⟩⟩
      |aX d'=>
       cases d' with
       |_=>exact .inl ⟨_,rfl,_,rfl,rfl,_,rfl,nh (ax (aj V.str h3)) ⟨_,rfl,_,_,rfl,rfl,fin _⟩⟩
     ·rw[ag h3]at em;cases em;cases t with
      |num n=>exact .inr ⟨n,rfl,Ik yE.1 (by have:=yE.2;lia),_,rfl,rfl,_,rfl,kr (ae λz=>h3 (V.str.inj z)) (q _ sm)⟩
      |aX d'=>
       cases d' with
       |_=>exact .inl ⟨_,rfl,_,rfl,rfl,_,rfl,kr (ae λz=>h3 (V.str.inj z)) (q _ sm)⟩
  ·rintro σ H1 ⟨sm,tY,pl,acc,aH,s6,rfl,fh,hv,hk,em⟩;rw[List.drop_eq_nil_of_le (by rw[br];exact bH _)]at em;cases em;exact⟨_,rfl,q td aH H1 sm fh hv⟩
def Io:Sp:=λvs H Q _=>∃p n:Int,vs=[.int p,.int n]∧2≤p∧p≤97∧Q (.int (cJ p n)) H
theorem yF:cY ["p","number","power","step"] ["p","number"] (bp sR):=dE rfl rfl rfl (by decide +kernel) rfl
theorem Rj{f:Addr}{fd:FuncData}(F:cL K "turned" "turned" sR f fd)(T:Txt mg):bN P w K mg base bO 1 f fd ["p","number"] Io:=by
 refine F.ok yF (λvs H Q E h=>?_) (λcj A outer s H vs Q E hr h=>?_)
 ·obtain⟨p,n,rfl,_⟩:=h;rfl
 ·obtain⟨p,n,rfl,p2,gi,k⟩:=h;refine⟨_,ba (bw (i:=2) yF.nd rfl (.inl rfl) aY) (ba (ja jq rfl (qd rfl T.range (aG (aU iM (pv 0) aY) aK)) (cB (i:=3) yF.nd rfl (.inl rfl)) (bj (bw (i:=2) yF.nd rfl (.inl rfl) (aU eC (aU qe (pv 2) (pv 1)) (pv 0))))) (bj (cA (pv 2)))),?_⟩;refine⟨_,rfl,_,_,rfl,rfl,p-2,rfl,by lia,by lia,xC (n:=(p-2).toNat) (λi σ H'=>H'=H∧∃st,σ=[some (.int p),some (.int n),some (.int (qt p n i)),st]) ⟨rfl,none,rfl⟩ ?_ ?_⟩
  ·rintro i σ H' hi ⟨rfl,st,rfl⟩;have hb:=Pg (n:=n) p2 i;exact⟨_,rfl,_,rfl,_,_,rfl,rfl,.inl ⟨by lia,by lia⟩,_,rfl,_,_,rfl,rfl,by lia,rfl,_,rfl⟩
  ·rintro σ H' ⟨rfl,st,rfl⟩;exact⟨_,rfl,k⟩
end S21
namespace L2
open PySem PySem.Spec PyProof.Rows
theorem Rk:typeLookup (.type "tuple") (dunderI "add")=pure none:=by rw[typeLookup_type,builtinLookup_eq_fast];kernel_rfl
theorem B7{prog:Program}{w:World}{A:Around}{E:QV}{s:Shared}{a b:Value}{S:PySem.Spec}{Q:QV}(ha:s.TypeIs a "tuple")(hb:s.TypeIs b "tuple")(g:Meets (Builtin.«tuple.__add__» ⟨[a,b],[]⟩) S)(h:S A (wants Q E) s):wpAny (model prog w) A (inplaceOp .Add a b) Q E s:=
 wpAny_inplaceOp_concat ha hb Rk noFill_tuple_add seq_tuple_add (call_meets PySem.F.slot_tuple_add ha PySem.F.entry_tuple_add (PySem.F.args_tuple_add_2 _ _) g h)
theorem Rl{X:Cx}(K:Frag)(hK:X.K=K):Aq X .Add (ve K):=by
 subst hK;rintro aF s σ H x y v u Q I rx ry ⟨a,b,xs,ys,rfl,rfl,ha,hb,hz,q⟩;cases rx;cases ry;obtain⟨its,r1,⟨⟨c1,d1,t1,s1⟩,o1,e1,n1,f1⟩,_⟩:=I.tuple ha;obtain⟨jW,r2,⟨⟨c2,d2,t2,s2⟩,o2,e2,n2,f2⟩,_⟩:=I.tuple hb;simp only at e1 f1 e2 f2;subst e1 f1 e2 f2;by_cases hx:xs=[]
 ·subst hx;cases r1;refine B7 ⟨_,o1,rfl⟩ ⟨_,o2,rfl⟩ (Gn a b _ _ _ _ d1 d2 s1 s2 rfl) ⟨o1,o2,?_⟩;exact⟨.ref b,H,I,rfl,q.old hb⟩
 ·have hi:its≠[]:=λz=>hx (r1.se.mp z);by_cases hy:ys=[]
  ·subst hy;have mY:jW=[]:=r2.se.mpr rfl;refine B7 ⟨_,o1,rfl⟩ ⟨_,o2,rfl⟩ (tuple_addW1 a b its.toArray jW.toArray n1 n2 d1 d2 s1 s2 (by simpa using hi) (by simp[mY])) ⟨o1,o2,?_⟩;exact⟨.ref a,H,I,rfl,q.old (by rw[gJ];exact ha)⟩
  ·have mY:jW≠[]:=λz=>hy (r2.se.mp z);refine B7 ⟨_,o1,rfl⟩ ⟨_,o2,rfl⟩ (tuple_addW2 a b its.toArray jW.toArray n1 n2 d1 d2 s1 s2 (by simpa using hi) (by simpa using mY) (by rw[dC,dC,← r1.length,← r2.length];exact hz)) ⟨o1,o2,?_⟩;rw[show its.toArray++jW.toArray=(its++jW).toArray by simp];refine⟨.ref s.heap.objs.size,_,I.laid (t':=s.toks) (o:=.tup (xs++ys)) (λb ob q=>fc _ q) (bH _) ?_,rfl,q.new (I.bz.fresh (bH _))⟩;exact⟨by rw[bh];exact hz,_,r1.append r2,nR.new _ _⟩
end L2
namespace S21
open PySem L2 Bw
variable{H:Hp}{X Y a b d:Dw}{env:List (Str×List V)}{f:Addr}{fd:FuncData}{i l1 l2 l3 r1 r2 r3 s1 s2 s3 t1 t2 t3:Nat}{p:Int}{cI:List (Str×Str)}{ws:List V}{x:Str}
noncomputable def jA(p:Int)(env:List (Str×List V))(x:Str):Option (List V):=
 if x=Str.ofString "k*l" then match env.lookup (Str.ofString "k"),env.lookup (Str.ofString "l") with
  |some [.int a],some [.int b]=>some [.int (a*b%p)]
  |_,_=>none
 else if x=Str.ofString "1/k" then match env.lookup (Str.ofString "k") with
  |some [.int a]=>some [.int (cJ p a)]
  |_=>none
 else some ((env.lookup x).getD [.str x])
noncomputable def bK(p:Int)(env:List (Str×List V)):List Str→List V→Option (List V)
 | [],acc=>some acc
 |x::xs,acc=>match jA p env x with
  |some ws=>bK p env xs (acc++ws)
  |none=>none
def cF(p:Int)(env:List (Str×List V)):Prop:=∀x ws,env.lookup x=some ws→ws.length≤200∧∀n,V.int n∈ws→0≤n∧n<p
theorem dz.qM{td:Addr}{aH:List (Key×V)}(g:H td=some (.dK aH))(h:dz K H aH env)(e:env.lookup x=some ws):∃a,gz H td (.str x) (some (.ref a))∧bQ K H a ws:=by
 obtain⟨a,e1,e2⟩:=dz.hit h e
 have:=gz.k (k:=Sum.inr x) g
 rw[e1]at this;exact⟨a,this,e2⟩
theorem dz.Rm{td:Addr}{aH:List (Key×V)}(g:H td=some (.dK aH))(h:dz K H aH env)(e:env.lookup x=none):gz H td (.str x) none:=by
 have e1:=dz.miss (x:=x) h (λm=>by
  obtain⟨⟨y,us⟩,hm,rfl⟩:=dN.mp m;rw[List.lookup_eq_none_iff]at e
  have:=e _ hm
  simp at this)
 have:=gz.k (k:=Sum.inr x) g
 rw[e1]at this;exact this
def Ip(K:Frag):Sp:=λvs H Q _=>∃(p:Int)(td:Addr)(x:Str)(aH:List (Key×V))(env:List (Str×List V))(ws:List V),vs=[.int p,.ref td,.str x]∧2≤p∧p≤97∧H td=some (.dK aH)∧dz K H aH env∧cF p env∧jA p env x=some ws∧gK K H ws Q
theorem Ro:cY ["p","found","piece"] ["p","found","piece"] (bp tq):=dE rfl rfl rfl (by decide +kernel) rfl
set_option maxRecDepth 100000 in
theorem Rp{fT:Addr}{vJ:FuncData}(F:cL K "filled_piece" "filled_piece" tq f fd)
  (GT:bN P w K mg base bO 1 fT vJ ["p","number"] Io) (kT:Kp K fT) (bT:Binds K vJ ["p","number"] []) (mT:Mg mg "turned" fT):bN P w K mg base bO 2 f fd ["p","found","piece"] (Ip K):=by
 refine F.ok Ro (λvs H Q E h=>?_) (λcj A outer s H vs Q E hr h=>?_)
 ·obtain⟨p,td,x,aH,env,ws,rfl,_⟩:=h;rfl
 ·obtain⟨p,td,x,aH,env,ws,rfl,p2,gi,fh,hv,hn,hf,q⟩:=h;have z:(1000:Nat)≤sizeLine:=by decide
  have cT:=qo hr;refine⟨_,ba (cS (cE dZ (pv 2) aW (cD _)) (bj (cA (eJ (aG (aU eC (aU qe (bZ (fH K rfl) (lH cT (pv 1) aW (λ_ _=>rfl)) aY (λ_ _=>rfl)) (bZ (fH K rfl) (lH cT (pv 1) aW (λ_ _=>rfl)) aY (λ_ _=>rfl))) (pv 0)) aK)))) dW) (ba (cS (cE dZ (pv 2) aW (cD _)) (bj (cA (eJ (aG (cO GT hr rfl mT kT bT .nil cP (aG (pv 0) (aG (bZ (fH K rfl) (lH cT (pv 1) aW (λ_ _=>rfl)) aY (λ_ _=>rfl)) aK))) aK)))) dW) (bj (cA (P4 cT (pv 1) (pv 2) (eJ (aG (pv 2) aK)) ⟨rfl,rfl,rfl,rfl⟩)))),?_⟩;unfold jA at hf;refine⟨_,rfl,rfl,_,rfl,?_⟩;by_cases h1:x=Str.ofString "k*l"
  ·rw[af h1]at hf;refine nh (ax (aj V.str h1)) ?_;split at hf
   case h_2=>cases hf
   case h_1 a b ea eb=>
    cases hf;obtain⟨ra,da,ta⟩:=hv.qM fh ea;obtain⟨rb,db,tb⟩:=hv.qM fh eb;have na:=(hn _ _ ea).2 a (by simp);have nb:=(hn _ _ eb).2 b (by simp);refine⟨_,rfl,td,_,rfl,da,ra,_,0,_,rfl,rfl,ta,cb (j:=0) rfl,?_⟩;refine⟨_,rfl,td,_,rfl,db,rb,_,0,_,rfl,rfl,tb,cb (j:=0) rfl,a,b,rfl,rfl,.inl ⟨by lia,by lia⟩,_,rfl,_,_,rfl,rfl,by lia,?_⟩;exact⟨by show 1≤sizeLine;lia,λt ht=>q.new ht⟩
  rw[ag h1]at hf;refine kr (ae λe=>h1 (V.str.inj e)) ?_;refine⟨_,rfl,rfl,_,rfl,?_⟩;by_cases h2:x=Str.ofString "1/k"
  ·rw[af h2]at hf;refine nh (ax (aj V.str h2)) ?_;split at hf
   case h_2=>cases hf
   case h_1 a ea=>
    cases hf;obtain⟨ra,da,ta⟩:=hv.qM fh ea;refine⟨_,rfl,_,rfl,td,_,rfl,da,ra,_,0,_,rfl,rfl,ta,cb (j:=0) rfl,p,a,rfl,p2,gi,?_⟩;exact⟨by show 1≤sizeLine;lia,λt ht=>q.new ht⟩
  rw[ag h2]at hf;refine kr (ae λe=>h2 (V.str.inj e)) ?_;refine⟨_,rfl,td,rfl,.inl ⟨_,.inl fh⟩,_,rfl,_,rfl,by show 1≤sizeLine;lia,λt ht=>?_⟩;cases hf;have st:=aJ.upd ht (o:=.tup [.str x]);cases el:env.lookup x with
  |none=>exact⟨none,(hv.tup st.tup).Rm (st _ _ fh) el,q t _ st (by rw[el];exact .of aZ)⟩
  |some us=>
   obtain⟨ra,da,ta⟩:=(hv.tup st.tup).qM (st _ _ fh) el;exact⟨_,da,q ra _ st (by rw[el];exact ta)⟩
theorem Rq(hn:cF p env)(h:jA p env x=some ws):ws.length≤200:=by
 unfold jA at h;split at h
 ·split at h
  ·cases h;show 1≤200;decide
  ·cases h
 ·split at h
  ·split at h
   ·cases h;show 1≤200;decide
   ·cases h
  ·cases h;cases e:env.lookup x with
   |none=>show 1≤200;decide
   |some us=>exact(hn _ _ e).1
def Iq(K:Frag):Sp:=λvs H Q _=>∃(p:Int)(td:Addr)(x:Str)(ps:List Str)(aH:List (Key×V))(env:List (Str×List V))(ws:List V),vs=[.int p,.ref td,.str x]∧2≤p∧p≤97∧H td=some (.dK aH)∧dz K H aH env∧cF p env∧
 Txt.split x (Str.ofString " ")=ps∧ps.length≤100∧x.length+2≤sizeLine∧bK p env ps []=some ws∧gK K H ws Q
theorem yG:cY ["p","found","text","words","piece"] ["p","found","text"] (bp tm):=dE rfl rfl rfl (by decide +kernel) rfl
set_option maxRecDepth 100000 in
theorem Rr{fP:Addr}{vK:FuncData}(F:cL K "filled" "filled" tm f fd)
  (GP:bN P w K mg base bO 2 fP vK ["p","found","piece"] (Ip K)) (kP:Kp K fP) (bP:Binds K vK ["p","found","piece"] []) (mP:Mg mg "filled_piece" fP):bN P w K mg base bO 3 f fd ["p","found","text"] (Iq K):=by
 refine F.ok yG (λvs H Q E h=>?_) (λcj A outer s H vs Q E hr h=>?_)
 ·obtain⟨p,td,x,ps,aH,env,ws,rfl,_⟩:=h;rfl
 ·obtain⟨p,td,x,ps,aH,env,ws,rfl,p2,gi,fh,hv,hn,es,jb,hx,hf,q⟩:=h;have z:(100000:Nat)≤sizeLine:=by decide
  refine⟨_,ba (bw (i:=3) yG.nd rfl (.inl rfl) (eJ aK)) (ba (ja jq rfl (gg K rfl (iP PySem.F.plainAttrs_str PySem.F.slot_str_split PySem.F.type_str_split yv (pv 2) (aG aW aK))) (cB (i:=4) yG.nd rfl (.inl rfl)) (bj (As (i:=3) yG.nd rfl (.inl rfl) (cO GP hr rfl mP kP bP .nil cP (aG (pv 0) (aG (pv 1) (aG (pv 4) aK)))) (Rl K rfl)))) (bj (cA (pv 3)))),?_⟩;refine⟨by show 0≤sizeLine;lia,λt0 B8=>?_⟩;have s0:=aJ.upd B8 (o:=.tup []);have g0:bQ K (upd H t0 (.tup [])) t0 []:=.of aZ;generalize upd H t0 (.tup [])=HA at s0 g0 ⊢;dsimp only[bo];refine⟨_,rfl,rfl,_,_,rfl,rfl,by decide,hx,by rw[es];lia,λls fb=>?_⟩;rw[es];have s1:=aJ.upd fb (o:=.lst (ps.map V.str));have gs:(upd HA ls (.lst (ps.map V.str))) ls=some (.lst (ps.map V.str)):=aZ;have vI:=s0.trans s1;have g1:=s1.cG g0;generalize upd HA ls (.lst (ps.map V.str))=HB at s1 gs g1 vI ⊢;refine⟨ls,rfl,⟨_,.of gs⟩,oY (xs:=ps.map V.str) (λk σ H'=>aJ H H'∧H' ls=some (.lst (ps.map V.str))∧∃(t:Addr)(acc:List V)(s4:Option V),σ=[some (.int p),some (.ref td),some (.str x),some (.ref t),s4]∧bQ K H' t acc∧acc.length≤200*k∧bK p env (ps.drop k) acc=some ws) ⟨vI,gs,t0,[],none,rfl,g1,bH _,hf⟩ (λk σ H' _ ⟨_,e,_⟩=>.of e) ?_ ?_⟩
  ·rintro k x' σ H1 gF ⟨sm,tY,t,acc,s4,rfl,ht,hk,em⟩;rw[fj]at gF;cases hi:ps[k]? with
   |none=>rw[hi]at gF;cases gF
   |some y=>
    rw[hi]at gF;cases gF;have qL:=(dB.mp hi).1;have ed:ps.drop k=y::ps.drop (k+1):=by rw[Ai qL,(dB.mp hi).2]
    rw[ed]at em;unfold bK at em;cases ef:jA p env y with
    |none=>rw[ef]at em;cases em
    |some us=>
     rw[ef]at em;have hul:=Rq hn ef;dsimp only[bo];refine⟨_,rfl,_,rfl,_,rfl,_,rfl,p,td,y,aH,env,us,rfl,p2,gi,sm _ _ fh,hv.tup sm.tup,hn,ef,λc H2 s2 hc=>?_⟩;refine⟨t,c,acc,us,rfl,rfl,s2.cG ht,hc,by lia,λt2 H3 s3 qN=>?_⟩;exact⟨sm.trans (s2.trans s3),(s2.trans s3) _ _ tY,t2,acc++us,_,rfl,qN,by rw[bh];lia,em⟩
  ·rintro σ H1 ⟨sm,tY,t,acc,s4,rfl,ht,hk,em⟩;rw[List.drop_eq_nil_of_le (by rw[br];exact bH _)]at em;cases em;exact⟨_,rfl,q t H1 sm ht⟩
open Classical in
theorem Rt(n:Int):(if true=true then !decide (jg [n]=jg [0])else decide (jg [n]=jg [0]))=decide (n≠0):=by
 rw[af rfl];by_cases h:n=0
 ·subst h;rw[ax rfl,ae (λz=>z rfl)];rfl
 ·rw[ax h,ae λz=>h (by unfold jg at z;simpa using z)];rfl
inductive ni(p:Int)(env:List (Str×List V)):Str→Bool→Prop where
 |Ir (a c:Dw) (ha:env.lookup (Str.ofString "A")=some a.aE) (hc:env.lookup (Str.ofString "C")=some c.aE) (oa:a.ok p) (oc:c.ok p):ni p env (Str.ofString "cross") (decide (a.pE=c.pC))
 |scale (n:Int) (hk:env.lookup (Str.ofString "k")=some [.int n]):ni p env (Str.ofString "turnscale") (decide (n≠0))
 |any {x:Str} (h1:x≠Str.ofString "cross") (h2:x≠Str.ofString "turnscale"):ni p env x true
def Iu(K:Frag):Sp:=λvs H Q _=>∃(p:Int)(x:Str)(td:Addr)(aH:List (Key×V))(env:List (Str×List V))(b:Bool),vs=[.str x,.ref td]∧H td=some (.dK aH)∧dz K H aH env∧cF p env∧ni p env x b∧∀H',aJ H H'→Q (.bl b) H'
theorem Ru:cY ["rule","found"] ["rule","found"] (bp tf):=dE rfl rfl rfl (by decide +kernel) rfl
set_option maxRecDepth 100000 in
theorem Rx{fW:Addr}{Iv:FuncData}(F:cL K "allowed" "allowed" tf f fd)
  (GW:bN P w K mg base bO 6 fW Iv ["words"] (Ib K)) (kW:Kp K fW) (bW:Binds K Iv ["words"] []) (mW:Mg mg "wires" fW):bN P w K mg base bO 7 f fd ["rule","found"] (Iu K):=by
 refine F.ok Ru (λvs H Q E h=>?_) (λcj A outer s H vs Q E hr h=>?_)
 ·obtain⟨p,x,td,aH,env,b,rfl,_⟩:=h;rfl
 ·obtain⟨p,x,td,aH,env,b,rfl,fh,hv,hn,ha,q⟩:=h;have z:(1000:Nat)≤sizeLine:=by decide
  have hu:=hr.units;have cT:=qo hr;refine⟨_,ba (cS (cE dZ (pv 0) aW (cD _)) (bj (cA (AF dZ (bZ (fH K rfl) (cO GW hr rfl mW kW bW .nil cP (aG (lH cT (pv 1) aW (λ_ _=>rfl)) aK)) aY (λ_ _=>rfl)) (bZ (fH K rfl) (cO GW hr rfl mW kW bW .nil cP (aG (lH cT (pv 1) aW (λ_ _=>rfl)) aK)) aY (λ_ _=>rfl)) (cD _)))) dW) (ba (cS (cE dZ (pv 0) aW (cD _)) (bj (cA (AF (qq K rfl hu) (lH cT (pv 1) aW (λ_ _=>rfl)) (eJ (aG aY aK)) (cD _)))) dW) (bj (cA rN))),?_⟩;refine⟨_,rfl,rfl,_,rfl,?_⟩;cases ha with
  |Ir a c ea ec oa oc=>
   refine nh (ax rfl) ?_;obtain⟨ra,da,ta⟩:=hv.qM fh ea;refine⟨_,rfl,td,_,rfl,da,p,ra,a,rfl,oa,(hn _ _ ea).1,ta,λv H1 s1 tZ=>?_⟩;obtain⟨rc,dc,tc⟩:=(hv.tup s1.tup).qM (s1 _ _ fh) ec;refine⟨v,_,1,_,rfl,rfl,tZ,cb (j:=1) rfl,_,rfl,td,_,rfl,dc,p,rc,c,rfl,oc,(hn _ _ ec).1,tc,λv2 H2 s2 nj=>?_⟩;refine⟨v2,_,0,_,rfl,rfl,nj,cb (j:=0) rfl,rfl,?_⟩;have e:decide (V.int (a.pE:Int)=V.int (c.pC:Int))=decide (a.pE=c.pC):=decide_eq_decide.mpr ⟨λh=>by have:=V.int.inj h;lia,λh=>by rw[h]⟩;rw[e];exact q _ (s1.trans s2)
  |scale n ek=>
   refine kr (ae (by decide)) ?_;refine⟨_,rfl,rfl,_,rfl,nh (ax rfl) ?_⟩;obtain⟨rk,dk,tk⟩:=hv.qM fh ek;refine⟨_,rfl,td,_,rfl,dk,by show 1≤sizeLine;lia,λt ht=>?_⟩;have st:=aJ.upd ht (o:=.tup [.int 0]);refine⟨jg [n],jg [0],Bj (r:=[n]) (st.cG tk),Bj (r:=[0]) (.of aZ),FX 7 _,FX 7 _,?_⟩;rw[Rt n];exact q _ st
  |any h1 h2=>
   refine kr (ae λe=>h1 (V.str.inj e)) ?_;refine⟨_,rfl,rfl,_,rfl,kr (ae λe=>h2 (V.str.inj e)) ?_⟩;exact q _ (.refl _)
def Ry(K:Frag)(rs:List V)(cI:List (Str×Str)):Prop:=rs.length=cI.length∧∀(i:Nat)(v:V)(ab:Str×Str),rs[i]?=some v→cI[i]?=some ab→∃c,v=.ref c∧∀H,bQ K H c [.str ab.1,.str ab.2]
structure B9(K:Frag)(mg:Str→Option Value)(aR:Addr)(D:List (Str×V))(R:Str→Option (List (Str×Str))):Prop where
 nm:mg "RULES"=some (.ref aR)
 tab:∀h,K.In h→iU h aR D
 row:∀x cI,R x=some cI→∃t rs,PyProof.Rows.KTD.datumAt x D=some (.ref t)∧(∀H,bQ K H t rs)∧Ry K rs cI
 mZ:∀x cI,R x=some cI→∀ab∈cI,(Txt.split ab.1 (Str.ofString " ")).length≤100∧ab.1.length+2≤sizeLine
inductive nk(p:Int)(x:Str)(ts:List It2):List (Str×Str)→Option (List (Str×List V)×Str)→Prop where
 |nil:nk p x ts [] none
 |miss {a b:Str} {cI:List (Str×Str)} {r:Option (List (Str×List V)×Str)} (h:cv (Txt.split a (Str.ofString " ")) ts []=some none) (g:nk p x ts cI r):nk p x ts ((a,b)::cI) r
 |Rz {a b:Str} {cI:List (Str×Str)} {env:List (Str×List V)} {r:Option (List (Str×List V)×Str)} (h:cv (Txt.split a (Str.ofString " ")) ts []=some (some env)) (hn:cF p env) (ha:ni p env x false) (g:nk p x ts cI r):nk p x ts ((a,b)::cI) r
 |hit {a b:Str} {cI:List (Str×Str)} {env:List (Str×List V)} (h:cv (Txt.split a (Str.ofString " ")) ts []=some (some env)) (hn:cF p env) (ha:ni p env x true):nk p x ts ((a,b)::cI) (some (env,b))
def Fits(K:Frag)(H:Hp)(Q:VK):Option (List (Str×List V)×Str)→Prop
 |none=>∀H',aJ H H'→Q .cm H'
 |some (env,b)=>∀t td aH H',aJ H H'→H' td=some (.dK aH)→dz K H' aH env→bQ K H' t [.ref td,.str b]→Q (.ref t) H'
def Iw(K:Frag)(R:Str→Option (List (Str×Str))):Sp:=λvs H Q _=>∃(p:Int)(aw be:Addr)(i:Nat)(x:Str)(d d':Dw)(r:List It2)(kb:List (Key×V))(cI:List (Str×Str))(res:Option (List (Str×List V)×Str)),vs=[.ref aw,.ref be,.int (i:Int),.str x]∧d.ok p∧p≤97∧d.aE.length≤200∧bQ K H aw d.aE∧H be=some (.dK kb)∧vH kb d∧
 cy [.aX d] i=.aX d'::r∧R x=some cI∧nk p x (cy [.aX d] i) cI res∧Fits K H Q res
theorem Ca:cY ["words","behind","at","rule","pair","found"] ["words","behind","at","rule"] (bp sY):=dE rfl rfl rfl (by decide +kernel) rfl
set_option maxRecDepth 100000 in
theorem RC{aR fM fA:Addr}{fO pB:FuncData}{D:List (Str×V)}{R:Str→Option (List (Str×Str))}(F:cL K "fitting" "fitting" sY f fd)(RT:B9 K mg aR D R)
  (GM:bN P w K mg base bO 1 fM fO ["words","behind","at","text"] (B5 K)) (kM:Kp K fM) (bM:Binds K fO ["words","behind","at","text"] []) (mM:Mg mg "matched" fM)
  (GA:bN P w K mg base bO 7 fA pB ["rule","found"] (Iu K)) (kA:Kp K fA) (bA:Binds K pB ["rule","found"] []) (mA:Mg mg "allowed" fA):bN P w K mg base bO 8 f fd ["words","behind","at","rule"] (Iw K R):=by
 refine F.ok Ca (λvs H Q E h=>?_) (λcj A outer s H vs Q E hr h=>?_)
 ·obtain⟨p,aw,be,i,x,d,d',r,kb,cI,res,rfl,_⟩:=h;rfl
 ·obtain⟨p,aw,be,i,x,d,d',r,kb,cI,res,rfl,hd,hp,lM,hw,hb,hE,eT,hR,hF,q⟩:=h;have z:(1000:Nat)≤sizeLine:=by decide
  have r1:dR 1 _:=hr.mono (by lia);have cT:=qo hr;refine⟨_,ba (cS (EE (PN cT (pv 2) (pv 1)) rfl) (bj (cA nW)) dW) (ba (ja jq rfl (Gh K rfl (Hl RT.tab (oQ (v:=.ref _) rfl RT.nm rfl) (pv 3) (eJ aK) ⟨rfl,rfl,rfl,rfl⟩)) (cB (i:=4) Ca.nd rfl (.inl rfl)) (ba (bw (i:=5) Ca.nd rfl (.inl rfl) (cO GM r1 rfl mM kM bM .nil cP (aG (pv 0) (aG (pv 1) (aG (pv 2) (aG (bZ (fH K rfl) (pv 4) aY (λ_ _=>rfl)) aK)))))) (bj (cS (PW.pt (oS (cE EX (pv 5) nW (cD _)) (qa (uN (cO GA hr rfl mA kA bA .nil cP (aG (pv 3) (aG (pv 5) aK))))))) (bj (cA (eJ (aG (pv 5) (aG (bZ (fH K rfl) (pv 4) aY (λ_ _=>rfl)) aK))))) dW)))) (bj (cA nW))),?_⟩;have eG:=hE.get eT;have dg:gz H be (.int (i:Int)) (some (.int ((i+d'.aE.length:Nat):Int))):=by
   have:=gz.k (k:=Sum.inl (i:Int)) hb
   rw[eG]at this;exact this
  refine⟨_,rfl,_,rfl,be,_,rfl,dg,_,rfl,kr rfl ?_⟩;obtain⟨t,rs,e1,hs,hP⟩:=RT.row x cI hR;refine⟨rfl,_,rfl,by show 0≤sizeLine;lia,λt0 B8=>⟨x,rfl,?_⟩⟩;rw[e1];have s0:=aJ.upd B8 (o:=.tup []);generalize upd H t0 (.tup [])=HA at s0 ⊢;refine⟨t,rfl,⟨_,hs _⟩,EL (xs:=rs) (λk σ H'=>aJ H H'∧∃s4 s5,σ=[some (.ref aw),some (.ref be),some (.int (i:Int)),some (.str x),s4,s5]∧nk p x (cy [.aX d] i) (cI.drop k) res) ⟨s0,none,none,rfl,hF⟩ (λ_ _ _ _ _=>hs _) ?_ ?_⟩
  ·rintro k v σ H1 hk ⟨sm,s4,s5,rfl,t8⟩;have qL:k<cI.length:=by rw[← hP.1];exact(dB.mp hk).1
   have ed:cI.drop k=cI[k]::cI.drop (k+1):=Ai qL;have em:cI[k]∈cI:=kQ qL;obtain⟨c,rfl,hc⟩:=hP.2 k v cI[k] hk (cg qL);obtain⟨Iy,pI⟩:=RT.mZ x cI hR _ em;rw[ed]at t8;generalize cI[k]=ab at hc Iy pI t8;obtain⟨a,b⟩:=ab;dsimp only[bo];have ask:∀(rm:Option (List (Str×List V)))(Q':VK),cv (Txt.split a (Str.ofString " ")) (cy [.aX d] i) []=some rm→Found K H1 Q' rm→B5 K [.ref aw,.ref be,.int (i:Int),.str a] H1 Q' E0:=λrm Q' h hq=>
    ⟨p,aw,be,i,a,_,d,kb,rm,rfl,hd,hp,lM,sm.cG hw,sm _ _ hb,hE,rfl,Iy,pI,h,hq⟩
   refine⟨_,rfl,_,rfl,_,rfl,_,rfl,c,_,0,_,rfl,rfl,hc _,cb (j:=0) rfl,?_⟩;cases t8 with
   |miss h g=>
    refine ask none _ h λH2 s2=>?_;dsimp only[bo];exact⟨_,rfl,rfl,_,rfl,kr (by simp) (cW ⟨sm.trans s2,_,_,rfl,g⟩)⟩
   | @Rz _ _ _ env _ h hn ha g=>
    refine ask (some env) _ h λtd aH H2 s2 fh hv=>?_;dsimp only[bo];refine⟨_,rfl,rfl,_,rfl,nh (by simp) ⟨_,rfl,_,rfl,p,x,td,aH,env,false,rfl,fh,hv,hn,ha,λH3 s3=>?_⟩⟩;exact⟨false,rfl,cW ⟨sm.trans (s2.trans s3),_,_,rfl,g⟩⟩
   | @hit _ _ _ env h hn ha=>
    refine ask (some env) _ h λtd aH H2 s2 fh hv=>?_;dsimp only[bo];refine⟨_,rfl,rfl,_,rfl,nh (by simp) ⟨_,rfl,_,rfl,p,x,td,aH,env,true,rfl,fh,hv,hn,ha,λH3 s3=>?_⟩⟩;refine⟨true,rfl,eP ⟨_,rfl,_,rfl,c,_,1,_,rfl,rfl,hc _,cb (j:=1) rfl,by show 2≤sizeLine;lia,λt2 qN=>?_⟩⟩;have Cb:=aJ.upd qN (o:=.tup [.ref td,.str b]);have Cc:=s3.trans Cb;exact q t2 td aH _ (sm.trans (s2.trans Cc)) (Cc _ _ fh) (hv.tup Cc.tup) (.of aZ)
  ·rintro σ H1 ⟨sm,s4,s5,rfl,t8⟩;rw[hP.1,List.drop_length]at t8;cases t8;exact q _ sm
theorem RD(h:i≤ws.length):eV ws none (some (i:Int))=ws.take i:=by
 unfold eV;rw[HT.rZ,HT.r8,Nat.min_eq_left h];simp
theorem RE(h:i≤ws.length):eV ws (some (i:Int)) none=ws.drop i:=by
 unfold eV;rw[HT.rZ,HT.r8,Nat.min_eq_left h,rB (by rw[eF];exact bH _)]
def vL(K:Frag)(R:Str→Option (List (Str×Str))):Sp:=λvs H Q _=>∃(p:Int)(aw:Addr)(i:Nat)(x b:Str)(d d':Dw)(r:List It2)(cI:List (Str×Str))(env:List (Str×List V))(ws:List V),vs=[.int p,.ref aw,.int (i:Int),.str x]∧d.ok p∧2≤p∧p≤97∧d.aE.length≤200∧bQ K H aw d.aE∧
 cy [.aX d] i=.aX d'::r∧R x=some cI∧nk p x (cy [.aX d] i) cI (some (env,b))∧cF p env∧(Txt.split b (Str.ofString " ")).length≤100∧b.length+2≤sizeLine∧bK p env (Txt.split b (Str.ofString " ")) []=some ws∧ws.length≤1000∧gK K H (d.aE.take i++ws++d.aE.drop (i+d'.aE.length)) Q
theorem Cd:cY ["p","words","at","rule","behind","fit"] ["p","words","at","rule"] (bp sX):=dE rfl rfl rfl (by decide +kernel) rfl
set_option maxRecDepth 100000 in
theorem RF{fE fF fL:Addr}{Iz pH lO:FuncData}{R:Str→Option (List (Str×Str))}(F:cL K "moved" "moved" sX f fd)
  (GE:bN P w K mg base bO 3 fE Iz ["words"] (Ie K)) (kE:Kp K fE) (bE:Binds K Iz ["words"] []) (mE:Mg mg "ends" fE)
  (GF:bN P w K mg base bO 8 fF pH ["words","behind","at","rule"] (Iw K R)) (kF:Kp K fF) (bF:Binds K pH ["words","behind","at","rule"] []) (mF:Mg mg "fitting" fF)
  (GL:bN P w K mg base bO 3 fL lO ["p","found","text"] (Iq K)) (kL:Kp K fL) (bL:Binds K lO ["p","found","text"] []) (mL:Mg mg "filled" fL):bN P w K mg base bO 9 f fd ["p","words","at","rule"] (vL K R):=by
 refine F.ok Cd (λvs H Q E h=>?_) (λcj A outer s H vs Q E hr h=>?_)
 ·obtain⟨p,aw,i,x,b,d,d',r,cI,env,ws,rfl,_⟩:=h;rfl
 ·obtain⟨p,aw,i,x,b,d,d',r,cI,env,ws,rfl,hd,p2,gi,lM,hw,eT,hR,hF,hn,yC,lP,hf,xP,q⟩:=h;have z:(10000:Nat)≤sizeLine:=by decide
  have r3:dR 3 _:=hr.mono (by lia);have cT:=qo hr;refine⟨_,ba (bw (i:=4) Cd.nd rfl (.inl rfl) (cO GE r3 rfl mE kE bE .nil cP (aG (pv 1) aK))) (ba (bw (i:=5) Cd.nd rfl (.inl rfl) (cO GF hr rfl mF kF bF .nil cP (aG (pv 1) (aG (pv 4) (aG (pv 2) (aG (pv 3) aK)))))) (ba (cS (cE EW (pv 5) nW (cD _)) (bj MU) dW) (bj (cA (aU (x3 K rfl) (aU (x3 K rfl) (eX (vo K rfl) (pv 1) gq (dy (pv 2))) (cO GL r3 rfl mL kL bL .nil cP (aG (pv 0) (aG (bZ (fH K rfl) (pv 5) aY (λ_ _=>rfl)) (aG (bZ (fH K rfl) (pv 5) aY (λ_ _=>rfl)) aK))))) (eX (vo K rfl) (pv 1) (dy (lH cT (pv 4) (pv 2) (λ_ _=>rfl))) gq)))))),?_⟩;have ew:([It2.aX d]).flatMap It2.aE=d.aE:=by simp[It2.aE]
  have dt:=B4 eT;rw[ew,show It2.aE (.aX d')=d'.aE from rfl]at dt
  refine⟨_,rfl,p,aw,d,rfl,hd,lM,hw,λbe kb H1 s1 gb hE=>?_⟩;dsimp only[bo];refine⟨_,rfl,_,rfl,_,rfl,_,rfl,p,aw,be,i,x,d,d',r,kb,cI,_,rfl,hd,gi,lM,s1.cG hw,gb,hE,eT,hR,hF,λt td aH H2 s2 fh hv ht=>?_⟩;dsimp only[bo];refine⟨_,rfl,rfl,_,rfl,kr (by simp) ?_⟩;have s12:=s1.trans s2;refine⟨_,rfl,_,rfl,_,rfl,aw,_,rfl,s12.cG hw,λc1 H3 s3 xU=>?_⟩;rw[RD (by lia)]at xU;refine⟨_,rfl,_,rfl,t,_,0,_,rfl,rfl,s3.cG ht,cb (j:=0) rfl,_,rfl,t,_,1,_,rfl,rfl,s3.cG ht,cb (j:=1) rfl,?_⟩;refine⟨p,td,b,_,aH,env,ws,rfl,p2,gi,s3 _ _ fh,hv.tup s3.tup,hn,rfl,yC,lP,hf,λc2 H4 s4 rY=>?_⟩;refine⟨c1,c2,_,_,rfl,rfl,s4.cG xU,rY,by rw[dD];lia,λc3 H5 s5 RG=>?_⟩;have eG:=hE.get eT;have qO:=s2.trans (s3.trans (s4.trans s5));have dg:gz H5 be (.int (i:Int)) (some (.int ((i+d'.aE.length:Nat):Int))):=by
   have:=gz.k (k:=Sum.inl (i:Int)) (qO _ _ gb)
   rw[eG]at this;exact this
  refine⟨_,rfl,_,rfl,_,rfl,be,_,rfl,dg,_,rfl,aw,_,rfl,(s1.trans qO).cG hw,λc4 H6 s6 IA=>?_⟩;rw[RE (by lia)]at IA;refine⟨c3,c4,_,_,rfl,rfl,s6.cG RG,IA,by rw[bh,dD,eF];lia,λc5 H7 s7 RH=>?_⟩;exact q c5 H7 (s1.trans (qO.trans (s6.trans s7))) RH
theorem RI{v:Value}{x:V}(h:rQ v=some x):RelV x v:=by
 cases v<;>cases h<;>first|rfl|exact⟨_,rfl⟩
theorem IC:∀{its:List Value}{xs:List V},its.mapM rQ=some xs→Vals xs its
 | [],xs,h=>by cases h;exact .nil
 |v::its,xs,h=>by
  rw[List.mapM_cons]at h;cases e:rQ v with
  |none=>rw[e]at h;cases h
  |some x=>
   rw[e]at h;cases e2:its.mapM rQ with
   |none=>rw[e2]at h;cases h
   |some ys=>rw[e2]at h;cases h;exact .cons (RI e) (IC e2)
noncomputable def pK(K:Frag)(t:Addr):Option (List V):=match K.lookup t with
 |some ⟨.type "tuple",_,.seq its _,_⟩=>if its.size≤1000 then its.toList.mapM rQ else none
 |_=>none
theorem yH{K:Frag}{t:Addr}{xs:List V}(h:pK K t=some xs)(H:Hp):bQ K H t xs:=by
 unfold pK at h;split at h
 case h_2=>exact nomatch h
 case h_1 d its n sl ho=>
  split at h
  case isFalse=>cases h
  case isTrue hz=>exact .inr ⟨_,its,n,ho,rfl,rfl,eu hz (by decide),IC h⟩
noncomputable def Ce:List (Str×List (Str×Str)):=[ ("twice",[("back back A","A")]),("turnthen",[("back then A B","then back B back A")]),("turnbeside",[("back beside A B","beside back A back B")]),("thread",[("then then A B C","then A then B C")]),("stack",[("beside beside A B C","beside A beside B C")]),("cross",[("then beside A B beside C D","beside then A C then B D")]),("lone",[("then id A","A"),("then A id","A")]),("bare",[("beside empty A","A"),("beside A empty","A")]),("undo",[("then swap swap","beside id id")]),("copyend",[("then copy beside end id","id")]),("copyturn",[("then copy swap","copy")]),("copycopy",[("then copy beside copy id","then copy beside id copy")]),("addnone",[("then beside none id add","id")]),("addturn",[("then swap add","add")]),("addadd",[("then beside add id add","then beside id add add")]),("scale",[("then times k times l","times k*l")]),("one",[("times 1","id")]),("nought",[("times 0","then end none")]),("sumcopy",[("then add copy","then beside copy copy then beside id beside swap id beside add add")]),("sumend",[("then add end","beside end end")]),("nonecopy",[("then none copy","beside none none")]),("noneend",[("then none end","empty")]),("scalecopy",[("then times k copy","then copy beside times k times k")]),("scaleadd",[("then add times k","then beside times k times k add")]),("bend",[("then beside cup id beside id back cup","id")]),("turnscale",[("back times k","times 1/k")]),("meet",[("then copy back copy","id")]),("turnid",[("back id","id"),("back swap","swap"),("back empty","empty")])]
noncomputable def nq(x:Str):Option (List (Str×Str)):=Ce.lookup x
theorem ID:(Ce.all λe=>e.2.all λab=>decide ((Txt.split ab.1 (Str.ofString " ")).length≤100)&&decide (ab.1.length≤100)&&decide ((Txt.split ab.2 (Str.ofString " ")).length≤100)&&decide (ab.2.length≤100))=true:=by decide +kernel
theorem yI{x:Str}{cI:List (Str×Str)}:∀{L:List (Str×List (Str×Str))},L.lookup x=some cI→(x,cI)∈L
 | [],h=>by cases h
 |(y,us)::L,h=>by
  rw[nM]at h;by_cases e:x=y
  ·subst e;rw[beq_self_eq_true]at h;cases h;exact dv
  ·rw[beq_eq_false_iff_ne.mpr e]at h;exact eR _ (yI h)
noncomputable def IF(K:Frag)(v:V)(ab:Str×Str):Bool:=match v with
 | .ref c=>decide (pK K c=some [.str ab.1,.str ab.2])
 |_=>false
noncomputable def Cf(K:Frag)(a:Addr):Bool:=yk K a&&Ce.all λe=>(match PyProof.Rows.KTD.datumAt e.1 (jj K a) with
 |some (.ref t)=>(match pK K t with
  |some rs=>decide (rs.length=e.2.length)&&(rs.zip e.2).all λq=>IF K q.1 q.2
  |none=>false)
 |_=>false)
theorem RJ{K:Frag}{mg:Str→Option Value}{a:Addr}(nm:Mg mg "RULES" a)(h:Cf K a=true):B9 K mg a (jj K a) nq:=by
 unfold Cf at h;rw[fq]at h;refine⟨nm,λ_ X=>BC X h.1,λx cI hx=>?_,λx cI hx ab vM=>?_⟩
 ·have:=iK.mp h.2 _ (yI hx)
  split at this
  case h_2=>cases this
  case h_1 t e=>
   split at this
   case h_2=>cases this
   case h_1 rs er=>
    rw[fq]at this;refine⟨t,rs,e,yH er,az this.1,λi v ab hv vM=>?_⟩;have z:=iK.mp this.2 (v,ab) (d8 (i:=i) (by rw[List.getElem?_zip_eq_some];exact⟨hv,vM⟩));unfold IF at z;split at z
    case h_2=>cases z
    case h_1 c ec=>exact⟨c,ec,yH (az z)⟩
 ·have:=iK.mp (iK.mp ID _ (yI hx)) ab vM
  simp only[fq,ay]at this;exact⟨this.1.1.1,eu (Nat.add_le_add_right this.1.1.2 2) (by decide)⟩
theorem RK{K:Frag}{mg:Str→Option Value}{aD aN:Addr}(mD:Mg mg "ANY_DRAWING" aD)(mN:Mg mg "ANY_NUMBER" aN)(hD:pK K aD=some (jz.map V.str))(hN:pK K aN=some (ko.map V.str)):Lets K mg aD aN:=⟨mD,mN,yH hD,yH hN⟩
section
variable{p:Int}{x:Str}{xs:List Str}{t:It2}{ts:List It2}{acc:List (Str×List V)}
theorem bt(h:(jz++ko).contains x=false)(e:lN t.head=x):cv (x::xs) (t::ts) acc=cv xs (t.kids++ts) acc:=by
 have h1:x ∉ jz:=λm=>by rw[oO.mpr (jM _ m)]at h;cases h
 have h2:x ∉ ko:=λm=>by rw[oO.mpr (fY _ m)]at h;cases h
 cases t<;>(rw[cv,ag h1,ag h2];exact af e)
theorem yJ(h:(jz++ko).contains x=false)(e:lN t.head≠x):cv (x::xs) (t::ts) acc=some none:=by
 have h1:x ∉ jz:=λm=>by rw[oO.mpr (jM _ m)]at h;cases h
 have h2:x ∉ ko:=λm=>by rw[oO.mpr (fY _ m)]at h;cases h
 cases t<;>(rw[cv,ag h1,ag h2];exact ag e)
theorem ic(h:jz.contains x=true)(n:(acc.map Prod.fst).contains x=false):cv (x::xs) (.aX d::ts) acc=cv xs ts (acc++[(x,d.aE)]):=by
 have h2:x ∉ acc.map Prod.fst:=λm=>by rw[oO.mpr m]at n;cases n
 rw[cv,af (oO.mp h)];exact ag h2
theorem vN{m:Int}(h0:jz.contains x=false)(h:ko.contains x=true)(n:(acc.map Prod.fst).contains x=false):cv (x::xs) (.num m::ts) acc=cv xs ts (acc++[(x,[.int m])]):=by
 have h1:x ∉ jz:=λm=>by rw[oO.mpr m]at h0;cases h0
 have h2:x ∉ acc.map Prod.fst:=λm=>by rw[oO.mpr m]at n;cases n
 rw[cv,ag h1,af (oO.mp h)];exact ag h2
end
section
variable{p:Int}{x:Str}{xs:List Str}{env:List (Str×List V)}{acc ws:List V}
theorem fV(h:(x==Str.ofString "k*l"||x==Str.ofString "1/k")=false)(e:env.lookup x=some ws):bK p env (x::xs) acc=bK p env xs (acc++ws):=by
 rw[Bool.or_eq_false_iff]at h;have f:jA p env x=some ws:=by
  unfold jA;rw[ag (λz=>by rw[z]at h;exact absurd h.1 (by decide)),ag (λz=>by rw[z]at h;exact absurd h.2 (by decide)),e];rfl
 rw[bK,f]
theorem cf(h:(x==Str.ofString "k*l"||x==Str.ofString "1/k")=false)(e:(env.map Prod.fst).contains x=false):bK p env (x::xs) acc=bK p env xs (acc++[.str x]):=by
 rw[Bool.or_eq_false_iff]at h;have e2:env.lookup x=none:=by
  rw[List.lookup_eq_none_iff];intro q hq;cases z:(x==q.1) with
  |false=>simpa using z
  |true=>
   rw[oO.mpr (by rw[eq_of_beq z];exact List.mem_map_of_mem hq)]at e;cases e
 have f:jA p env x=some [.str x]:=by
  unfold jA;rw[ag (λz=>by rw[z]at h;exact absurd h.1 (by decide)),ag (λz=>by rw[z]at h;exact absurd h.2 (by decide)),e2];rfl
 rw[bK,f]
theorem RL{a b:Int}(ea:env.lookup (Str.ofString "k")=some [.int a])(eb:env.lookup (Str.ofString "l")=some [.int b]):bK p env (Str.ofString "k*l"::xs) acc=bK p env xs (acc++[.int (a*b%p)]):=by
 have f:jA p env (Str.ofString "k*l")=some [.int (a*b%p)]:=by
  unfold jA;rw[af rfl,ea,eb]
 rw[bK,f]
theorem RM{a:Int}(ea:env.lookup (Str.ofString "k")=some [.int a]):bK p env (Str.ofString "1/k"::xs) acc=bK p env xs (acc++[.int (cJ p a)]):=by
 have f:jA p env (Str.ofString "1/k")=some [.int (cJ p a)]:=by
  unfold jA;rw[ag (by decide),af rfl,ea]
 rw[bK,f]
end
section
variable{p:Int}{a b c e:Dw}{n m:Int}{r:List It2}
theorem RN:cv (Txt.split (Str.ofString "back back A") (Str.ofString " ")) (.aX (Dw.back (Dw.back a))::r) []=some (some [(Str.ofString "A",a.aE)]):=by
 rw[show Txt.split (Str.ofString "back back A") (Str.ofString " ")=[Str.ofString "back",Str.ofString "back",Str.ofString "A"] by decide +kernel];refine aQ (bt (by decide +kernel) (by rfl)) ?_;refine aQ (bt (by decide +kernel) (by rfl)) ?_;refine aQ (ic (by decide +kernel) (by rfl)) ?_;rfl
theorem RO:bK p [(Str.ofString "A",a.aE)] (Txt.split (Str.ofString "A") (Str.ofString " ")) []=some (Dw.aE a):=by
 rw[show Txt.split (Str.ofString "A") (Str.ofString " ")=[Str.ofString "A"] by decide +kernel];refine aQ (fV (ws:=a.aE) (by decide +kernel) (by rfl)) ?_;rw[bK];simp[Dw.aE]
theorem RP:cv (Txt.split (Str.ofString "back then A B") (Str.ofString " ")) (.aX (Dw.back (Dw.aM a b))::r) []=some (some [(Str.ofString "A",a.aE),(Str.ofString "B",b.aE)]):=by
 rw[show Txt.split (Str.ofString "back then A B") (Str.ofString " ")=[Str.ofString "back",Str.ofString "then",Str.ofString "A",Str.ofString "B"] by decide +kernel];refine aQ (bt (by decide +kernel) (by rfl)) ?_;refine aQ (bt (by decide +kernel) (by rfl)) ?_;refine aQ (ic (by decide +kernel) (by rfl)) ?_;refine aQ (ic (by decide +kernel) (by show([Str.ofString "A"].contains:_→Bool) _=false;decide +kernel)) ?_;rfl
theorem RQ:bK p [(Str.ofString "A",a.aE),(Str.ofString "B",b.aE)] (Txt.split (Str.ofString "then back B back A") (Str.ofString " ")) []=some (Dw.aE (Dw.aM (Dw.back b) (Dw.back a))):=by
 rw[show Txt.split (Str.ofString "then back B back A") (Str.ofString " ")=[Str.ofString "then",Str.ofString "back",Str.ofString "B",Str.ofString "back",Str.ofString "A"] by decide +kernel];refine aQ (cf (by decide +kernel) (by show([Str.ofString "A",Str.ofString "B"].contains:_→Bool) _=false;decide +kernel)) ?_;refine aQ (cf (by decide +kernel) (by show([Str.ofString "A",Str.ofString "B"].contains:_→Bool) _=false;decide +kernel)) ?_;refine aQ (fV (ws:=b.aE) (by decide +kernel) (by rfl)) ?_;refine aQ (cf (by decide +kernel) (by show([Str.ofString "A",Str.ofString "B"].contains:_→Bool) _=false;decide +kernel)) ?_;refine aQ (fV (ws:=a.aE) (by decide +kernel) (by rfl)) ?_;rw[bK];simp[Dw.aE]
theorem RU:cv (Txt.split (Str.ofString "back beside A B") (Str.ofString " ")) (.aX (Dw.back (Dw.bf a b))::r) []=some (some [(Str.ofString "A",a.aE),(Str.ofString "B",b.aE)]):=by
 rw[show Txt.split (Str.ofString "back beside A B") (Str.ofString " ")=[Str.ofString "back",Str.ofString "beside",Str.ofString "A",Str.ofString "B"] by decide +kernel];refine aQ (bt (by decide +kernel) (by rfl)) ?_;refine aQ (bt (by decide +kernel) (by rfl)) ?_;refine aQ (ic (by decide +kernel) (by rfl)) ?_;refine aQ (ic (by decide +kernel) (by show([Str.ofString "A"].contains:_→Bool) _=false;decide +kernel)) ?_;rfl
theorem RV:bK p [(Str.ofString "A",a.aE),(Str.ofString "B",b.aE)] (Txt.split (Str.ofString "beside back A back B") (Str.ofString " ")) []=some (Dw.aE (Dw.bf (Dw.back a) (Dw.back b))):=by
 rw[show Txt.split (Str.ofString "beside back A back B") (Str.ofString " ")=[Str.ofString "beside",Str.ofString "back",Str.ofString "A",Str.ofString "back",Str.ofString "B"] by decide +kernel];refine aQ (cf (by decide +kernel) (by show([Str.ofString "A",Str.ofString "B"].contains:_→Bool) _=false;decide +kernel)) ?_;refine aQ (cf (by decide +kernel) (by show([Str.ofString "A",Str.ofString "B"].contains:_→Bool) _=false;decide +kernel)) ?_;refine aQ (fV (ws:=a.aE) (by decide +kernel) (by rfl)) ?_;refine aQ (cf (by decide +kernel) (by show([Str.ofString "A",Str.ofString "B"].contains:_→Bool) _=false;decide +kernel)) ?_;refine aQ (fV (ws:=b.aE) (by decide +kernel) (by rfl)) ?_;rw[bK];simp[Dw.aE]
theorem RW:cv (Txt.split (Str.ofString "then then A B C") (Str.ofString " ")) (.aX (Dw.aM (Dw.aM a b) c)::r) []=some (some [(Str.ofString "A",a.aE),(Str.ofString "B",b.aE),(Str.ofString "C",c.aE)]):=by
 rw[show Txt.split (Str.ofString "then then A B C") (Str.ofString " ")=[Str.ofString "then",Str.ofString "then",Str.ofString "A",Str.ofString "B",Str.ofString "C"] by decide +kernel];refine aQ (bt (by decide +kernel) (by rfl)) ?_;refine aQ (bt (by decide +kernel) (by rfl)) ?_;refine aQ (ic (by decide +kernel) (by rfl)) ?_;refine aQ (ic (by decide +kernel) (by show([Str.ofString "A"].contains:_→Bool) _=false;decide +kernel)) ?_;refine aQ (ic (by decide +kernel) (by show([Str.ofString "A",Str.ofString "B"].contains:_→Bool) _=false;decide +kernel)) ?_;rfl
theorem RX:bK p [(Str.ofString "A",a.aE),(Str.ofString "B",b.aE),(Str.ofString "C",c.aE)] (Txt.split (Str.ofString "then A then B C") (Str.ofString " ")) []=some (Dw.aE (Dw.aM a (Dw.aM b c))):=by
 rw[show Txt.split (Str.ofString "then A then B C") (Str.ofString " ")=[Str.ofString "then",Str.ofString "A",Str.ofString "then",Str.ofString "B",Str.ofString "C"] by decide +kernel];refine aQ (cf (by decide +kernel) (by show([Str.ofString "A",Str.ofString "B",Str.ofString "C"].contains:_→Bool) _=false;decide +kernel)) ?_;refine aQ (fV (ws:=a.aE) (by decide +kernel) (by rfl)) ?_;refine aQ (cf (by decide +kernel) (by show([Str.ofString "A",Str.ofString "B",Str.ofString "C"].contains:_→Bool) _=false;decide +kernel)) ?_;refine aQ (fV (ws:=b.aE) (by decide +kernel) (by rfl)) ?_;refine aQ (fV (ws:=c.aE) (by decide +kernel) (by rfl)) ?_;rw[bK];simp[Dw.aE]
theorem RY:cv (Txt.split (Str.ofString "beside beside A B C") (Str.ofString " ")) (.aX (Dw.bf (Dw.bf a b) c)::r) []=some (some [(Str.ofString "A",a.aE),(Str.ofString "B",b.aE),(Str.ofString "C",c.aE)]):=by
 rw[show Txt.split (Str.ofString "beside beside A B C") (Str.ofString " ")=[Str.ofString "beside",Str.ofString "beside",Str.ofString "A",Str.ofString "B",Str.ofString "C"] by decide +kernel];refine aQ (bt (by decide +kernel) (by rfl)) ?_;refine aQ (bt (by decide +kernel) (by rfl)) ?_;refine aQ (ic (by decide +kernel) (by rfl)) ?_;refine aQ (ic (by decide +kernel) (by show([Str.ofString "A"].contains:_→Bool) _=false;decide +kernel)) ?_;refine aQ (ic (by decide +kernel) (by show([Str.ofString "A",Str.ofString "B"].contains:_→Bool) _=false;decide +kernel)) ?_;rfl
theorem RZ:bK p [(Str.ofString "A",a.aE),(Str.ofString "B",b.aE),(Str.ofString "C",c.aE)] (Txt.split (Str.ofString "beside A beside B C") (Str.ofString " ")) []=some (Dw.aE (Dw.bf a (Dw.bf b c))):=by
 rw[show Txt.split (Str.ofString "beside A beside B C") (Str.ofString " ")=[Str.ofString "beside",Str.ofString "A",Str.ofString "beside",Str.ofString "B",Str.ofString "C"] by decide +kernel];refine aQ (cf (by decide +kernel) (by show([Str.ofString "A",Str.ofString "B",Str.ofString "C"].contains:_→Bool) _=false;decide +kernel)) ?_;refine aQ (fV (ws:=a.aE) (by decide +kernel) (by rfl)) ?_;refine aQ (cf (by decide +kernel) (by show([Str.ofString "A",Str.ofString "B",Str.ofString "C"].contains:_→Bool) _=false;decide +kernel)) ?_;refine aQ (fV (ws:=b.aE) (by decide +kernel) (by rfl)) ?_;refine aQ (fV (ws:=c.aE) (by decide +kernel) (by rfl)) ?_;rw[bK];simp[Dw.aE]
theorem R0:cv (Txt.split (Str.ofString "then beside A B beside C D") (Str.ofString " ")) (.aX (Dw.aM (Dw.bf a b) (Dw.bf c e))::r) []=some (some [(Str.ofString "A",a.aE),(Str.ofString "B",b.aE),(Str.ofString "C",c.aE),(Str.ofString "D",e.aE)]):=by
 rw[show Txt.split (Str.ofString "then beside A B beside C D") (Str.ofString " ")=[Str.ofString "then",Str.ofString "beside",Str.ofString "A",Str.ofString "B",Str.ofString "beside",Str.ofString "C",Str.ofString "D"] by decide +kernel];refine aQ (bt (by decide +kernel) (by rfl)) ?_;refine aQ (bt (by decide +kernel) (by rfl)) ?_;refine aQ (ic (by decide +kernel) (by rfl)) ?_;refine aQ (ic (by decide +kernel) (by show([Str.ofString "A"].contains:_→Bool) _=false;decide +kernel)) ?_;refine aQ (bt (by decide +kernel) (by rfl)) ?_;refine aQ (ic (by decide +kernel) (by show([Str.ofString "A",Str.ofString "B"].contains:_→Bool) _=false;decide +kernel)) ?_;refine aQ (ic (by decide +kernel) (by show([Str.ofString "A",Str.ofString "B",Str.ofString "C"].contains:_→Bool) _=false;decide +kernel)) ?_;rfl
theorem R1:bK p [(Str.ofString "A",a.aE),(Str.ofString "B",b.aE),(Str.ofString "C",c.aE),(Str.ofString "D",e.aE)] (Txt.split (Str.ofString "beside then A C then B D") (Str.ofString " ")) []=some (Dw.aE (Dw.bf (Dw.aM a c) (Dw.aM b e))):=by
 rw[show Txt.split (Str.ofString "beside then A C then B D") (Str.ofString " ")=[Str.ofString "beside",Str.ofString "then",Str.ofString "A",Str.ofString "C",Str.ofString "then",Str.ofString "B",Str.ofString "D"] by decide +kernel];refine aQ (cf (by decide +kernel) (by show([Str.ofString "A",Str.ofString "B",Str.ofString "C",Str.ofString "D"].contains:_→Bool) _=false;decide +kernel)) ?_;refine aQ (cf (by decide +kernel) (by show([Str.ofString "A",Str.ofString "B",Str.ofString "C",Str.ofString "D"].contains:_→Bool) _=false;decide +kernel)) ?_;refine aQ (fV (ws:=a.aE) (by decide +kernel) (by rfl)) ?_;refine aQ (fV (ws:=c.aE) (by decide +kernel) (by rfl)) ?_;refine aQ (cf (by decide +kernel) (by show([Str.ofString "A",Str.ofString "B",Str.ofString "C",Str.ofString "D"].contains:_→Bool) _=false;decide +kernel)) ?_;refine aQ (fV (ws:=b.aE) (by decide +kernel) (by rfl)) ?_;refine aQ (fV (ws:=e.aE) (by decide +kernel) (by rfl)) ?_;rw[bK];simp[Dw.aE]
theorem R3:cv (Txt.split (Str.ofString "then id A") (Str.ofString " ")) (.aX (Dw.aM (Dw.box (Str.ofString "id") l1 r1) a)::r) []=some (some [(Str.ofString "A",a.aE)]):=by
 rw[show Txt.split (Str.ofString "then id A") (Str.ofString " ")=[Str.ofString "then",Str.ofString "id",Str.ofString "A"] by decide +kernel];refine aQ (bt (by decide +kernel) (by rfl)) ?_;refine aQ (bt (by decide +kernel) (by rfl)) ?_;refine aQ (ic (by decide +kernel) (by rfl)) ?_;rfl
theorem R4:bK p [(Str.ofString "A",a.aE)] (Txt.split (Str.ofString "A") (Str.ofString " ")) []=some (Dw.aE a):=by
 rw[show Txt.split (Str.ofString "A") (Str.ofString " ")=[Str.ofString "A"] by decide +kernel];refine aQ (fV (ws:=a.aE) (by decide +kernel) (by rfl)) ?_;rw[bK];simp[Dw.aE]
theorem R5:cv (Txt.split (Str.ofString "then A id") (Str.ofString " ")) (.aX (Dw.aM a (Dw.box (Str.ofString "id") l1 r1))::r) []=some (some [(Str.ofString "A",a.aE)]):=by
 rw[show Txt.split (Str.ofString "then A id") (Str.ofString " ")=[Str.ofString "then",Str.ofString "A",Str.ofString "id"] by decide +kernel];refine aQ (bt (by decide +kernel) (by rfl)) ?_;refine aQ (ic (by decide +kernel) (by rfl)) ?_;refine aQ (bt (by decide +kernel) (by rfl)) ?_;rfl
theorem R6:bK p [(Str.ofString "A",a.aE)] (Txt.split (Str.ofString "A") (Str.ofString " ")) []=some (Dw.aE a):=by
 rw[show Txt.split (Str.ofString "A") (Str.ofString " ")=[Str.ofString "A"] by decide +kernel];refine aQ (fV (ws:=a.aE) (by decide +kernel) (by rfl)) ?_;rw[bK];simp[Dw.aE]
theorem R7:cv (Txt.split (Str.ofString "beside empty A") (Str.ofString " ")) (.aX (Dw.bf (Dw.box (Str.ofString "empty") l1 r1) a)::r) []=some (some [(Str.ofString "A",a.aE)]):=by
 rw[show Txt.split (Str.ofString "beside empty A") (Str.ofString " ")=[Str.ofString "beside",Str.ofString "empty",Str.ofString "A"] by decide +kernel];refine aQ (bt (by decide +kernel) (by rfl)) ?_;refine aQ (bt (by decide +kernel) (by rfl)) ?_;refine aQ (ic (by decide +kernel) (by rfl)) ?_;rfl
theorem R8:bK p [(Str.ofString "A",a.aE)] (Txt.split (Str.ofString "A") (Str.ofString " ")) []=some (Dw.aE a):=by
 rw[show Txt.split (Str.ofString "A") (Str.ofString " ")=[Str.ofString "A"] by decide +kernel];refine aQ (fV (ws:=a.aE) (by decide +kernel) (by rfl)) ?_;rw[bK];simp[Dw.aE]
theorem R9:cv (Txt.split (Str.ofString "beside A empty") (Str.ofString " ")) (.aX (Dw.bf a (Dw.box (Str.ofString "empty") l1 r1))::r) []=some (some [(Str.ofString "A",a.aE)]):=by
 rw[show Txt.split (Str.ofString "beside A empty") (Str.ofString " ")=[Str.ofString "beside",Str.ofString "A",Str.ofString "empty"] by decide +kernel];refine aQ (bt (by decide +kernel) (by rfl)) ?_;refine aQ (ic (by decide +kernel) (by rfl)) ?_;refine aQ (bt (by decide +kernel) (by rfl)) ?_;rfl
theorem Sa:bK p [(Str.ofString "A",a.aE)] (Txt.split (Str.ofString "A") (Str.ofString " ")) []=some (Dw.aE a):=by
 rw[show Txt.split (Str.ofString "A") (Str.ofString " ")=[Str.ofString "A"] by decide +kernel];refine aQ (fV (ws:=a.aE) (by decide +kernel) (by rfl)) ?_;rw[bK];simp[Dw.aE]
theorem Sb:cv (Txt.split (Str.ofString "then swap swap") (Str.ofString " ")) (.aX (Dw.aM (Dw.box (Str.ofString "swap") l1 r1) (Dw.box (Str.ofString "swap") l2 r2))::r) []=some (some []):=by
 rw[show Txt.split (Str.ofString "then swap swap") (Str.ofString " ")=[Str.ofString "then",Str.ofString "swap",Str.ofString "swap"] by decide +kernel];refine aQ (bt (by decide +kernel) (by rfl)) ?_;refine aQ (bt (by decide +kernel) (by rfl)) ?_;refine aQ (bt (by decide +kernel) (by rfl)) ?_;rfl
theorem Sd:bK p [] (Txt.split (Str.ofString "beside id id") (Str.ofString " ")) []=some (Dw.aE (Dw.bf (Dw.box (Str.ofString "id") 0 0) (Dw.box (Str.ofString "id") 0 0))):=by
 rw[show Txt.split (Str.ofString "beside id id") (Str.ofString " ")=[Str.ofString "beside",Str.ofString "id",Str.ofString "id"] by decide +kernel];refine aQ (cf (by decide +kernel) (by rfl)) ?_;refine aQ (cf (by decide +kernel) (by rfl)) ?_;refine aQ (cf (by decide +kernel) (by rfl)) ?_;rw[bK];simp[Dw.aE]
theorem Se:cv (Txt.split (Str.ofString "then copy beside end id") (Str.ofString " ")) (.aX (Dw.aM (Dw.box (Str.ofString "copy") l1 r1) (Dw.bf (Dw.box (Str.ofString "end") l2 r2) (Dw.box (Str.ofString "id") l3 r3)))::r) []=some (some []):=by
 rw[show Txt.split (Str.ofString "then copy beside end id") (Str.ofString " ")=[Str.ofString "then",Str.ofString "copy",Str.ofString "beside",Str.ofString "end",Str.ofString "id"] by decide +kernel];refine aQ (bt (by decide +kernel) (by rfl)) ?_;refine aQ (bt (by decide +kernel) (by rfl)) ?_;refine aQ (bt (by decide +kernel) (by rfl)) ?_;refine aQ (bt (by decide +kernel) (by rfl)) ?_;refine aQ (bt (by decide +kernel) (by rfl)) ?_;rfl
theorem Sf:bK p [] (Txt.split (Str.ofString "id") (Str.ofString " ")) []=some (Dw.aE (Dw.box (Str.ofString "id") 0 0)):=by
 rw[show Txt.split (Str.ofString "id") (Str.ofString " ")=[Str.ofString "id"] by decide +kernel];refine aQ (cf (by decide +kernel) (by rfl)) ?_;rw[bK];simp[Dw.aE]
theorem Sh:cv (Txt.split (Str.ofString "then copy swap") (Str.ofString " ")) (.aX (Dw.aM (Dw.box (Str.ofString "copy") l1 r1) (Dw.box (Str.ofString "swap") l2 r2))::r) []=some (some []):=by
 rw[show Txt.split (Str.ofString "then copy swap") (Str.ofString " ")=[Str.ofString "then",Str.ofString "copy",Str.ofString "swap"] by decide +kernel];refine aQ (bt (by decide +kernel) (by rfl)) ?_;refine aQ (bt (by decide +kernel) (by rfl)) ?_;refine aQ (bt (by decide +kernel) (by rfl)) ?_;rfl
theorem Si:bK p [] (Txt.split (Str.ofString "copy") (Str.ofString " ")) []=some (Dw.aE (Dw.box (Str.ofString "copy") 0 0)):=by
 rw[show Txt.split (Str.ofString "copy") (Str.ofString " ")=[Str.ofString "copy"] by decide +kernel];refine aQ (cf (by decide +kernel) (by rfl)) ?_;rw[bK];simp[Dw.aE]
theorem Sj:cv (Txt.split (Str.ofString "then copy beside copy id") (Str.ofString " ")) (.aX (Dw.aM (Dw.box (Str.ofString "copy") l1 r1) (Dw.bf (Dw.box (Str.ofString "copy") l2 r2) (Dw.box (Str.ofString "id") l3 r3)))::r) []=some (some []):=by
 rw[show Txt.split (Str.ofString "then copy beside copy id") (Str.ofString " ")=[Str.ofString "then",Str.ofString "copy",Str.ofString "beside",Str.ofString "copy",Str.ofString "id"] by decide +kernel];refine aQ (bt (by decide +kernel) (by rfl)) ?_;refine aQ (bt (by decide +kernel) (by rfl)) ?_;refine aQ (bt (by decide +kernel) (by rfl)) ?_;refine aQ (bt (by decide +kernel) (by rfl)) ?_;refine aQ (bt (by decide +kernel) (by rfl)) ?_;rfl
theorem Sk:bK p [] (Txt.split (Str.ofString "then copy beside id copy") (Str.ofString " ")) []=some (Dw.aE (Dw.aM (Dw.box (Str.ofString "copy") 0 0) (Dw.bf (Dw.box (Str.ofString "id") 0 0) (Dw.box (Str.ofString "copy") 0 0)))):=by
 rw[show Txt.split (Str.ofString "then copy beside id copy") (Str.ofString " ")=[Str.ofString "then",Str.ofString "copy",Str.ofString "beside",Str.ofString "id",Str.ofString "copy"] by decide +kernel];refine aQ (cf (by decide +kernel) (by rfl)) ?_;refine aQ (cf (by decide +kernel) (by rfl)) ?_;refine aQ (cf (by decide +kernel) (by rfl)) ?_;refine aQ (cf (by decide +kernel) (by rfl)) ?_;refine aQ (cf (by decide +kernel) (by rfl)) ?_;rw[bK];simp[Dw.aE]
theorem Sl:cv (Txt.split (Str.ofString "then beside none id add") (Str.ofString " ")) (.aX (Dw.aM (Dw.bf (Dw.box (Str.ofString "none") l1 r1) (Dw.box (Str.ofString "id") l2 r2)) (Dw.box (Str.ofString "add") l3 r3))::r) []=some (some []):=by
 rw[show Txt.split (Str.ofString "then beside none id add") (Str.ofString " ")=[Str.ofString "then",Str.ofString "beside",Str.ofString "none",Str.ofString "id",Str.ofString "add"] by decide +kernel];refine aQ (bt (by decide +kernel) (by rfl)) ?_;refine aQ (bt (by decide +kernel) (by rfl)) ?_;refine aQ (bt (by decide +kernel) (by rfl)) ?_;refine aQ (bt (by decide +kernel) (by rfl)) ?_;refine aQ (bt (by decide +kernel) (by rfl)) ?_;rfl
theorem Sm:bK p [] (Txt.split (Str.ofString "id") (Str.ofString " ")) []=some (Dw.aE (Dw.box (Str.ofString "id") 0 0)):=by
 rw[show Txt.split (Str.ofString "id") (Str.ofString " ")=[Str.ofString "id"] by decide +kernel];refine aQ (cf (by decide +kernel) (by rfl)) ?_;rw[bK];simp[Dw.aE]
theorem Sn:cv (Txt.split (Str.ofString "then swap add") (Str.ofString " ")) (.aX (Dw.aM (Dw.box (Str.ofString "swap") l1 r1) (Dw.box (Str.ofString "add") l2 r2))::r) []=some (some []):=by
 rw[show Txt.split (Str.ofString "then swap add") (Str.ofString " ")=[Str.ofString "then",Str.ofString "swap",Str.ofString "add"] by decide +kernel];refine aQ (bt (by decide +kernel) (by rfl)) ?_;refine aQ (bt (by decide +kernel) (by rfl)) ?_;refine aQ (bt (by decide +kernel) (by rfl)) ?_;rfl
theorem So:bK p [] (Txt.split (Str.ofString "add") (Str.ofString " ")) []=some (Dw.aE (Dw.box (Str.ofString "add") 0 0)):=by
 rw[show Txt.split (Str.ofString "add") (Str.ofString " ")=[Str.ofString "add"] by decide +kernel];refine aQ (cf (by decide +kernel) (by rfl)) ?_;rw[bK];simp[Dw.aE]
theorem Sr:cv (Txt.split (Str.ofString "then beside add id add") (Str.ofString " ")) (.aX (Dw.aM (Dw.bf (Dw.box (Str.ofString "add") l1 r1) (Dw.box (Str.ofString "id") l2 r2)) (Dw.box (Str.ofString "add") l3 r3))::r) []=some (some []):=by
 rw[show Txt.split (Str.ofString "then beside add id add") (Str.ofString " ")=[Str.ofString "then",Str.ofString "beside",Str.ofString "add",Str.ofString "id",Str.ofString "add"] by decide +kernel];refine aQ (bt (by decide +kernel) (by rfl)) ?_;refine aQ (bt (by decide +kernel) (by rfl)) ?_;refine aQ (bt (by decide +kernel) (by rfl)) ?_;refine aQ (bt (by decide +kernel) (by rfl)) ?_;refine aQ (bt (by decide +kernel) (by rfl)) ?_;rfl
theorem Ss:bK p [] (Txt.split (Str.ofString "then beside id add add") (Str.ofString " ")) []=some (Dw.aE (Dw.aM (Dw.bf (Dw.box (Str.ofString "id") 0 0) (Dw.box (Str.ofString "add") 0 0)) (Dw.box (Str.ofString "add") 0 0))):=by
 rw[show Txt.split (Str.ofString "then beside id add add") (Str.ofString " ")=[Str.ofString "then",Str.ofString "beside",Str.ofString "id",Str.ofString "add",Str.ofString "add"] by decide +kernel];refine aQ (cf (by decide +kernel) (by rfl)) ?_;refine aQ (cf (by decide +kernel) (by rfl)) ?_;refine aQ (cf (by decide +kernel) (by rfl)) ?_;refine aQ (cf (by decide +kernel) (by rfl)) ?_;refine aQ (cf (by decide +kernel) (by rfl)) ?_;rw[bK];simp[Dw.aE]
theorem Su:cv (Txt.split (Str.ofString "then times k times l") (Str.ofString " ")) (.aX (Dw.aM (Dw.times n) (Dw.times m))::r) []=some (some [(Str.ofString "k",[V.int n]),(Str.ofString "l",[V.int m])]):=by
 rw[show Txt.split (Str.ofString "then times k times l") (Str.ofString " ")=[Str.ofString "then",Str.ofString "times",Str.ofString "k",Str.ofString "times",Str.ofString "l"] by decide +kernel];refine aQ (bt (by decide +kernel) (by rfl)) ?_;refine aQ (bt (by decide +kernel) (by rfl)) ?_;refine aQ (vN (by decide +kernel) (by decide +kernel) (by rfl)) ?_;refine aQ (bt (by decide +kernel) (by rfl)) ?_;refine aQ (vN (by decide +kernel) (by decide +kernel) (by show([Str.ofString "k"].contains:_→Bool) _=false;decide +kernel)) ?_;rfl
theorem Sv:bK p [(Str.ofString "k",[V.int n]),(Str.ofString "l",[V.int m])] (Txt.split (Str.ofString "times k*l") (Str.ofString " ")) []=some (Dw.aE (Dw.times (n*m%p))):=by
 rw[show Txt.split (Str.ofString "times k*l") (Str.ofString " ")=[Str.ofString "times",Str.ofString "k*l"] by decide +kernel];refine aQ (cf (by decide +kernel) (by show([Str.ofString "k",Str.ofString "l"].contains:_→Bool) _=false;decide +kernel)) ?_;refine aQ (RL (a:=n) (b:=m) (by rfl) (by rfl)) ?_;rw[bK];simp[Dw.aE]
theorem Sw:cv (Txt.split (Str.ofString "times 1") (Str.ofString " ")) (.aX (Dw.times 1)::r) []=some (some []):=by
 rw[show Txt.split (Str.ofString "times 1") (Str.ofString " ")=[Str.ofString "times",Str.ofString "1"] by decide +kernel];refine aQ (bt (by decide +kernel) (by rfl)) ?_;refine aQ (bt (by decide +kernel) (by rfl)) ?_;rfl
theorem Sx:bK p [] (Txt.split (Str.ofString "id") (Str.ofString " ")) []=some (Dw.aE (Dw.box (Str.ofString "id") 0 0)):=by
 rw[show Txt.split (Str.ofString "id") (Str.ofString " ")=[Str.ofString "id"] by decide +kernel];refine aQ (cf (by decide +kernel) (by rfl)) ?_;rw[bK];simp[Dw.aE]
theorem Sy:cv (Txt.split (Str.ofString "times 0") (Str.ofString " ")) (.aX (Dw.times 0)::r) []=some (some []):=by
 rw[show Txt.split (Str.ofString "times 0") (Str.ofString " ")=[Str.ofString "times",Str.ofString "0"] by decide +kernel];refine aQ (bt (by decide +kernel) (by rfl)) ?_;refine aQ (bt (by decide +kernel) (by rfl)) ?_;rfl
theorem Sz:bK p [] (Txt.split (Str.ofString "then end none") (Str.ofString " ")) []=some (Dw.aE (Dw.aM (Dw.box (Str.ofString "end") 0 0) (Dw.box (Str.ofString "none") 0 0))):=by
 rw[show Txt.split (Str.ofString "then end none") (Str.ofString " ")=[Str.ofString "then",Str.ofString "end",Str.ofString "none"] by decide +kernel];refine aQ (cf (by decide +kernel) (by rfl)) ?_;refine aQ (cf (by decide +kernel) (by rfl)) ?_;refine aQ (cf (by decide +kernel) (by rfl)) ?_;rw[bK];simp[Dw.aE]
theorem SA:cv (Txt.split (Str.ofString "then add copy") (Str.ofString " ")) (.aX (Dw.aM (Dw.box (Str.ofString "add") l1 r1) (Dw.box (Str.ofString "copy") l2 r2))::r) []=some (some []):=by
 rw[show Txt.split (Str.ofString "then add copy") (Str.ofString " ")=[Str.ofString "then",Str.ofString "add",Str.ofString "copy"] by decide +kernel];refine aQ (bt (by decide +kernel) (by rfl)) ?_;refine aQ (bt (by decide +kernel) (by rfl)) ?_;refine aQ (bt (by decide +kernel) (by rfl)) ?_;rfl
theorem SE:bK p [] (Txt.split (Str.ofString "then beside copy copy then beside id beside swap id beside add add") (Str.ofString " ")) []=some (Dw.aE (Dw.aM (Dw.bf (Dw.box (Str.ofString "copy") 0 0) (Dw.box (Str.ofString "copy") 0 0)) (Dw.aM (Dw.bf (Dw.box (Str.ofString "id") 0 0) (Dw.bf (Dw.box (Str.ofString "swap") 0 0) (Dw.box (Str.ofString "id") 0 0))) (Dw.bf (Dw.box (Str.ofString "add") 0 0) (Dw.box (Str.ofString "add") 0 0))))):=by
 rw[show Txt.split (Str.ofString "then beside copy copy then beside id beside swap id beside add add") (Str.ofString " ")=[Str.ofString "then",Str.ofString "beside",Str.ofString "copy",Str.ofString "copy",Str.ofString "then",Str.ofString "beside",Str.ofString "id",Str.ofString "beside",Str.ofString "swap",Str.ofString "id",Str.ofString "beside",Str.ofString "add",Str.ofString "add"] by decide +kernel];refine aQ (cf (by decide +kernel) (by rfl)) ?_;refine aQ (cf (by decide +kernel) (by rfl)) ?_;refine aQ (cf (by decide +kernel) (by rfl)) ?_;refine aQ (cf (by decide +kernel) (by rfl)) ?_;refine aQ (cf (by decide +kernel) (by rfl)) ?_;refine aQ (cf (by decide +kernel) (by rfl)) ?_;refine aQ (cf (by decide +kernel) (by rfl)) ?_;refine aQ (cf (by decide +kernel) (by rfl)) ?_;refine aQ (cf (by decide +kernel) (by rfl)) ?_;refine aQ (cf (by decide +kernel) (by rfl)) ?_;refine aQ (cf (by decide +kernel) (by rfl)) ?_;refine aQ (cf (by decide +kernel) (by rfl)) ?_;refine aQ (cf (by decide +kernel) (by rfl)) ?_;rw[bK];simp[Dw.aE]
theorem SF:cv (Txt.split (Str.ofString "then add end") (Str.ofString " ")) (.aX (Dw.aM (Dw.box (Str.ofString "add") l1 r1) (Dw.box (Str.ofString "end") l2 r2))::r) []=some (some []):=by
 rw[show Txt.split (Str.ofString "then add end") (Str.ofString " ")=[Str.ofString "then",Str.ofString "add",Str.ofString "end"] by decide +kernel];refine aQ (bt (by decide +kernel) (by rfl)) ?_;refine aQ (bt (by decide +kernel) (by rfl)) ?_;refine aQ (bt (by decide +kernel) (by rfl)) ?_;rfl
theorem SG:bK p [] (Txt.split (Str.ofString "beside end end") (Str.ofString " ")) []=some (Dw.aE (Dw.bf (Dw.box (Str.ofString "end") 0 0) (Dw.box (Str.ofString "end") 0 0))):=by
 rw[show Txt.split (Str.ofString "beside end end") (Str.ofString " ")=[Str.ofString "beside",Str.ofString "end",Str.ofString "end"] by decide +kernel];refine aQ (cf (by decide +kernel) (by rfl)) ?_;refine aQ (cf (by decide +kernel) (by rfl)) ?_;refine aQ (cf (by decide +kernel) (by rfl)) ?_;rw[bK];simp[Dw.aE]
theorem SH:cv (Txt.split (Str.ofString "then none copy") (Str.ofString " ")) (.aX (Dw.aM (Dw.box (Str.ofString "none") l1 r1) (Dw.box (Str.ofString "copy") l2 r2))::r) []=some (some []):=by
 rw[show Txt.split (Str.ofString "then none copy") (Str.ofString " ")=[Str.ofString "then",Str.ofString "none",Str.ofString "copy"] by decide +kernel];refine aQ (bt (by decide +kernel) (by rfl)) ?_;refine aQ (bt (by decide +kernel) (by rfl)) ?_;refine aQ (bt (by decide +kernel) (by rfl)) ?_;rfl
theorem SJ:bK p [] (Txt.split (Str.ofString "beside none none") (Str.ofString " ")) []=some (Dw.aE (Dw.bf (Dw.box (Str.ofString "none") 0 0) (Dw.box (Str.ofString "none") 0 0))):=by
 rw[show Txt.split (Str.ofString "beside none none") (Str.ofString " ")=[Str.ofString "beside",Str.ofString "none",Str.ofString "none"] by decide +kernel];refine aQ (cf (by decide +kernel) (by rfl)) ?_;refine aQ (cf (by decide +kernel) (by rfl)) ?_;refine aQ (cf (by decide +kernel) (by rfl)) ?_;rw[bK];simp[Dw.aE]
theorem SK:cv (Txt.split (Str.ofString "then none end") (Str.ofString " ")) (.aX (Dw.aM (Dw.box (Str.ofString "none") l1 r1) (Dw.box (Str.ofString "end") l2 r2))::r) []=some (some []):=by
 rw[show Txt.split (Str.ofString "then none end") (Str.ofString " ")=[Str.ofString "then",Str.ofString "none",Str.ofString "end"] by decide +kernel];refine aQ (bt (by decide +kernel) (by rfl)) ?_;refine aQ (bt (by decide +kernel) (by rfl)) ?_;refine aQ (bt (by decide +kernel) (by rfl)) ?_;rfl
theorem SM:bK p [] (Txt.split (Str.ofString "empty") (Str.ofString " ")) []=some (Dw.aE (Dw.box (Str.ofString "empty") 0 0)):=by
 rw[show Txt.split (Str.ofString "empty") (Str.ofString " ")=[Str.ofString "empty"] by decide +kernel];refine aQ (cf (by decide +kernel) (by rfl)) ?_;rw[bK];simp[Dw.aE]
theorem SN:cv (Txt.split (Str.ofString "then times k copy") (Str.ofString " ")) (.aX (Dw.aM (Dw.times n) (Dw.box (Str.ofString "copy") l1 r1))::r) []=some (some [(Str.ofString "k",[V.int n])]):=by
 rw[show Txt.split (Str.ofString "then times k copy") (Str.ofString " ")=[Str.ofString "then",Str.ofString "times",Str.ofString "k",Str.ofString "copy"] by decide +kernel];refine aQ (bt (by decide +kernel) (by rfl)) ?_;refine aQ (bt (by decide +kernel) (by rfl)) ?_;refine aQ (vN (by decide +kernel) (by decide +kernel) (by rfl)) ?_;refine aQ (bt (by decide +kernel) (by rfl)) ?_;rfl
theorem SO:bK p [(Str.ofString "k",[V.int n])] (Txt.split (Str.ofString "then copy beside times k times k") (Str.ofString " ")) []=some (Dw.aE (Dw.aM (Dw.box (Str.ofString "copy") 0 0) (Dw.bf (Dw.times n) (Dw.times n)))):=by
 rw[show Txt.split (Str.ofString "then copy beside times k times k") (Str.ofString " ")=[Str.ofString "then",Str.ofString "copy",Str.ofString "beside",Str.ofString "times",Str.ofString "k",Str.ofString "times",Str.ofString "k"] by decide +kernel];refine aQ (cf (by decide +kernel) (by show([Str.ofString "k"].contains:_→Bool) _=false;decide +kernel)) ?_;refine aQ (cf (by decide +kernel) (by show([Str.ofString "k"].contains:_→Bool) _=false;decide +kernel)) ?_;refine aQ (cf (by decide +kernel) (by show([Str.ofString "k"].contains:_→Bool) _=false;decide +kernel)) ?_;refine aQ (cf (by decide +kernel) (by show([Str.ofString "k"].contains:_→Bool) _=false;decide +kernel)) ?_;refine aQ (fV (ws:=[V.int n]) (by decide +kernel) (by rfl)) ?_;refine aQ (cf (by decide +kernel) (by show([Str.ofString "k"].contains:_→Bool) _=false;decide +kernel)) ?_;refine aQ (fV (ws:=[V.int n]) (by decide +kernel) (by rfl)) ?_;rw[bK];simp[Dw.aE]
theorem SQ:cv (Txt.split (Str.ofString "then add times k") (Str.ofString " ")) (.aX (Dw.aM (Dw.box (Str.ofString "add") l1 r1) (Dw.times n))::r) []=some (some [(Str.ofString "k",[V.int n])]):=by
 rw[show Txt.split (Str.ofString "then add times k") (Str.ofString " ")=[Str.ofString "then",Str.ofString "add",Str.ofString "times",Str.ofString "k"] by decide +kernel];refine aQ (bt (by decide +kernel) (by rfl)) ?_;refine aQ (bt (by decide +kernel) (by rfl)) ?_;refine aQ (bt (by decide +kernel) (by rfl)) ?_;refine aQ (vN (by decide +kernel) (by decide +kernel) (by rfl)) ?_;rfl
theorem SR:bK p [(Str.ofString "k",[V.int n])] (Txt.split (Str.ofString "then beside times k times k add") (Str.ofString " ")) []=some (Dw.aE (Dw.aM (Dw.bf (Dw.times n) (Dw.times n)) (Dw.box (Str.ofString "add") 0 0))):=by
 rw[show Txt.split (Str.ofString "then beside times k times k add") (Str.ofString " ")=[Str.ofString "then",Str.ofString "beside",Str.ofString "times",Str.ofString "k",Str.ofString "times",Str.ofString "k",Str.ofString "add"] by decide +kernel];refine aQ (cf (by decide +kernel) (by show([Str.ofString "k"].contains:_→Bool) _=false;decide +kernel)) ?_;refine aQ (cf (by decide +kernel) (by show([Str.ofString "k"].contains:_→Bool) _=false;decide +kernel)) ?_;refine aQ (cf (by decide +kernel) (by show([Str.ofString "k"].contains:_→Bool) _=false;decide +kernel)) ?_;refine aQ (fV (ws:=[V.int n]) (by decide +kernel) (by rfl)) ?_;refine aQ (cf (by decide +kernel) (by show([Str.ofString "k"].contains:_→Bool) _=false;decide +kernel)) ?_;refine aQ (fV (ws:=[V.int n]) (by decide +kernel) (by rfl)) ?_;refine aQ (cf (by decide +kernel) (by show([Str.ofString "k"].contains:_→Bool) _=false;decide +kernel)) ?_;rw[bK];simp[Dw.aE]
theorem SS{l4 r4:Nat}:cv (Txt.split (Str.ofString "then beside cup id beside id back cup") (Str.ofString " ")) (.aX (Dw.aM (Dw.bf (Dw.box (Str.ofString "cup") l1 r1) (Dw.box (Str.ofString "id") l2 r2)) (Dw.bf (Dw.box (Str.ofString "id") l3 r3) (Dw.back (Dw.box (Str.ofString "cup") l4 r4))))::r) []=some (some []):=by
 rw[show Txt.split (Str.ofString "then beside cup id beside id back cup") (Str.ofString " ")=[Str.ofString "then",Str.ofString "beside",Str.ofString "cup",Str.ofString "id",Str.ofString "beside",Str.ofString "id",Str.ofString "back",Str.ofString "cup"] by decide +kernel];refine aQ (bt (by decide +kernel) (by rfl)) ?_;refine aQ (bt (by decide +kernel) (by rfl)) ?_;refine aQ (bt (by decide +kernel) (by rfl)) ?_;refine aQ (bt (by decide +kernel) (by rfl)) ?_;refine aQ (bt (by decide +kernel) (by rfl)) ?_;refine aQ (bt (by decide +kernel) (by rfl)) ?_;refine aQ (bt (by decide +kernel) (by rfl)) ?_;refine aQ (bt (by decide +kernel) (by rfl)) ?_;rfl
theorem SU:bK p [] (Txt.split (Str.ofString "id") (Str.ofString " ")) []=some (Dw.aE (Dw.box (Str.ofString "id") 0 0)):=by
 rw[show Txt.split (Str.ofString "id") (Str.ofString " ")=[Str.ofString "id"] by decide +kernel];refine aQ (cf (by decide +kernel) (by rfl)) ?_;rw[bK];simp[Dw.aE]
theorem SV:cv (Txt.split (Str.ofString "back times k") (Str.ofString " ")) (.aX (Dw.back (Dw.times n))::r) []=some (some [(Str.ofString "k",[V.int n])]):=by
 rw[show Txt.split (Str.ofString "back times k") (Str.ofString " ")=[Str.ofString "back",Str.ofString "times",Str.ofString "k"] by decide +kernel];refine aQ (bt (by decide +kernel) (by rfl)) ?_;refine aQ (bt (by decide +kernel) (by rfl)) ?_;refine aQ (vN (by decide +kernel) (by decide +kernel) (by rfl)) ?_;rfl
theorem SW:bK p [(Str.ofString "k",[V.int n])] (Txt.split (Str.ofString "times 1/k") (Str.ofString " ")) []=some (Dw.aE (Dw.times (cJ p n))):=by
 rw[show Txt.split (Str.ofString "times 1/k") (Str.ofString " ")=[Str.ofString "times",Str.ofString "1/k"] by decide +kernel];refine aQ (cf (by decide +kernel) (by show([Str.ofString "k"].contains:_→Bool) _=false;decide +kernel)) ?_;refine aQ (RM (a:=n) (by rfl)) ?_;rw[bK];simp[Dw.aE]
theorem SX:cv (Txt.split (Str.ofString "then copy back copy") (Str.ofString " ")) (.aX (Dw.aM (Dw.box (Str.ofString "copy") l1 r1) (Dw.back (Dw.box (Str.ofString "copy") l2 r2)))::r) []=some (some []):=by
 rw[show Txt.split (Str.ofString "then copy back copy") (Str.ofString " ")=[Str.ofString "then",Str.ofString "copy",Str.ofString "back",Str.ofString "copy"] by decide +kernel];refine aQ (bt (by decide +kernel) (by rfl)) ?_;refine aQ (bt (by decide +kernel) (by rfl)) ?_;refine aQ (bt (by decide +kernel) (by rfl)) ?_;refine aQ (bt (by decide +kernel) (by rfl)) ?_;rfl
theorem SY:bK p [] (Txt.split (Str.ofString "id") (Str.ofString " ")) []=some (Dw.aE (Dw.box (Str.ofString "id") 0 0)):=by
 rw[show Txt.split (Str.ofString "id") (Str.ofString " ")=[Str.ofString "id"] by decide +kernel];refine aQ (cf (by decide +kernel) (by rfl)) ?_;rw[bK];simp[Dw.aE]
theorem S3:cv (Txt.split (Str.ofString "back id") (Str.ofString " ")) (.aX (Dw.back (Dw.box (Str.ofString "id") l1 r1))::r) []=some (some []):=by
 rw[show Txt.split (Str.ofString "back id") (Str.ofString " ")=[Str.ofString "back",Str.ofString "id"] by decide +kernel];refine aQ (bt (by decide +kernel) (by rfl)) ?_;refine aQ (bt (by decide +kernel) (by rfl)) ?_;rfl
theorem S4:bK p [] (Txt.split (Str.ofString "id") (Str.ofString " ")) []=some (Dw.aE (Dw.box (Str.ofString "id") 0 0)):=by
 rw[show Txt.split (Str.ofString "id") (Str.ofString " ")=[Str.ofString "id"] by decide +kernel];refine aQ (cf (by decide +kernel) (by rfl)) ?_;rw[bK];simp[Dw.aE]
theorem S5:cv (Txt.split (Str.ofString "back swap") (Str.ofString " ")) (.aX (Dw.back (Dw.box (Str.ofString "swap") l1 r1))::r) []=some (some []):=by
 rw[show Txt.split (Str.ofString "back swap") (Str.ofString " ")=[Str.ofString "back",Str.ofString "swap"] by decide +kernel];refine aQ (bt (by decide +kernel) (by rfl)) ?_;refine aQ (bt (by decide +kernel) (by rfl)) ?_;rfl
theorem S6:bK p [] (Txt.split (Str.ofString "swap") (Str.ofString " ")) []=some (Dw.aE (Dw.box (Str.ofString "swap") 0 0)):=by
 rw[show Txt.split (Str.ofString "swap") (Str.ofString " ")=[Str.ofString "swap"] by decide +kernel];refine aQ (cf (by decide +kernel) (by rfl)) ?_;rw[bK];simp[Dw.aE]
theorem S7:cv (Txt.split (Str.ofString "back empty") (Str.ofString " ")) (.aX (Dw.back (Dw.box (Str.ofString "empty") l1 r1))::r) []=some (some []):=by
 rw[show Txt.split (Str.ofString "back empty") (Str.ofString " ")=[Str.ofString "back",Str.ofString "empty"] by decide +kernel];refine aQ (bt (by decide +kernel) (by rfl)) ?_;refine aQ (bt (by decide +kernel) (by rfl)) ?_;rfl
theorem S8:bK p [] (Txt.split (Str.ofString "empty") (Str.ofString " ")) []=some (Dw.aE (Dw.box (Str.ofString "empty") 0 0)):=by
 rw[show Txt.split (Str.ofString "empty") (Str.ofString " ")=[Str.ofString "empty"] by decide +kernel];refine aQ (cf (by decide +kernel) (by rfl)) ?_;rw[bK];simp[Dw.aE]
end
section
variable{a b:Dw}{r:List It2}
theorem S9(h:lN (It2.aX a).head≠Str.ofString "id"):cv (Txt.split (Str.ofString "then id A") (Str.ofString " ")) (.aX (.aM a b)::r) []=some none:=by
 rw[show Txt.split (Str.ofString "then id A") (Str.ofString " ")=[Str.ofString "then",Str.ofString "id",Str.ofString "A"] by decide +kernel];refine aQ (bt (by decide +kernel) (by rfl)) ?_;exact yJ (by decide +kernel) h
theorem Ta(h:lN (It2.aX a).head≠Str.ofString "empty"):cv (Txt.split (Str.ofString "beside empty A") (Str.ofString " ")) (.aX (.bf a b)::r) []=some none:=by
 rw[show Txt.split (Str.ofString "beside empty A") (Str.ofString " ")=[Str.ofString "beside",Str.ofString "empty",Str.ofString "A"] by decide +kernel];refine aQ (bt (by decide +kernel) (by rfl)) ?_;exact yJ (by decide +kernel) h
theorem IG(h:lN (It2.aX a).head≠Str.ofString "id"):cv (Txt.split (Str.ofString "back id") (Str.ofString " ")) (.aX (.back a)::r) []=some none:=by
 rw[show Txt.split (Str.ofString "back id") (Str.ofString " ")=[Str.ofString "back",Str.ofString "id"] by decide +kernel];refine aQ (bt (by decide +kernel) (by rfl)) ?_;exact yJ (by decide +kernel) h
theorem Tb(h:lN (It2.aX a).head≠Str.ofString "swap"):cv (Txt.split (Str.ofString "back swap") (Str.ofString " ")) (.aX (.back a)::r) []=some none:=by
 rw[show Txt.split (Str.ofString "back swap") (Str.ofString " ")=[Str.ofString "back",Str.ofString "swap"] by decide +kernel];refine aQ (bt (by decide +kernel) (by rfl)) ?_;exact yJ (by decide +kernel) h
end
abbrev At(d:Dw)(i:Nat)(d':Dw):Prop:=∃r,cy [.aX d] i=.aX d'::r
theorem At.here:At d 0 d:=⟨[],rfl⟩
theorem At.back{d:Dw}{i:Nat}{a:Dw}(h:At d i (.back a)):At d (i+1) a:=by
 obtain⟨r,h⟩:=h;exact⟨r,by rw[tX,h];rfl⟩
theorem At.fst(h:At d i (.bf a b)):At d (i+1) a:=by
 obtain⟨r,h⟩:=h;exact⟨.aX b::r,by rw[tX,h];rfl⟩
theorem At.snd(h:At d i (.bf a b)):At d (i+1+a.aE.length) b:=by
 obtain⟨r,h⟩:=h;have e:cy [.aX d] (i+1)=.aX a::.aX b::r:=by rw[tX,h];rfl
 exact⟨r,B3 e⟩
theorem At.Tc(h:At d i (.aM a b)):At d (i+1+a.aE.length) b:=by
 obtain⟨r,h⟩:=h;have e:cy [.aX d] (i+1)=.aX a::.aX b::r:=by rw[tX,h];rfl
 exact⟨r,B3 e⟩
theorem t9{p:Int}:∀{d:Dw},d.ok p→∀n,V.int n∈d.aE→0≤n∧n<p
 | .box ..,_,n,h=>by simp[Dw.aE]at h
 | .times m,h,n,hn=>by
  simp[Dw.aE]at hn;rw[hn];exact h
 | .back d,h,n,hn=>t9 (d:=d) h n (by simpa[Dw.aE]using hn)
 | .bf a b,h,n,hn=>by
  simp[Dw.aE]at hn;rcases hn with z|z
  ·exact t9 (d:=a) h.1 n z
  ·exact t9 (d:=b) h.2 n z
 | .aM a b,h,n,hn=>by
  simp[Dw.aE]at hn;rcases hn with z|z
  ·exact t9 (d:=a) h.1 n z
  ·exact t9 (d:=b) h.2 n z
theorem cF.nil:cF p []:=λx ws h=>by cases h
theorem cF.cons(h1:ws.length≤200)(h2:∀n,V.int n∈ws→0≤n∧n<p)(h:cF p env):cF p ((x,ws)::env):=λy us e=>by
 rw[nM]at e;by_cases z:y=x
 ·rw[z,beq_self_eq_true]at e;cases e;exact⟨h1,h2⟩
 ·rw[beq_eq_false_iff_ne.mpr z]at e;exact h y us e
theorem cF.aX(h:cF p env)(ho:a.ok p)(hl:a.aE.length≤200):cF p ((x,a.aE)::env):=.cons hl (t9 ho) h
theorem cF.num{n:Int}(h:cF p env)(h0:0≤n)(h1:n<p):cF p ((x,[.int n])::env):=.cons (by show 1≤200;decide) (λm hm=>by cases cX.mp hm;exact⟨h0,h1⟩) h
def Mv(p:Int)(x:Str)(X Y:Dw):Prop:=∀r,∃cI env b,nq x=some cI∧nk p x (.aX X::r) cI (some (env,b))∧cF p env∧(Txt.split b (Str.ofString " ")).length≤100∧b.length+2≤sizeLine∧bK p env (Txt.split b (Str.ofString " ")) []=some Y.aE
theorem IH{a b:Str}(h:nq x=some cI)(hm:(a,b)∈cI):(Txt.split b (Str.ofString " ")).length≤100∧b.length+2≤sizeLine:=by
 have:=iK.mp (iK.mp ID _ (yI h)) _ hm
 simp only[fq,ay]at this;exact⟨this.1.2,eu (Nat.add_le_add_right this.2 2) (by decide)⟩
theorem Mv.fst{a b:Str}(hR:nq x=some ((a,b)::cI))(hm:∀r,cv (Txt.split a (Str.ofString " ")) (.aX X::r) []=some (some env))(hn:cF p env)(ha:ni p env x true)(hf:bK p env (Txt.split b (Str.ofString " ")) []=some Y.aE):Mv p x X Y:=
 λr=>let z:=IH hR dv;⟨_,env,b,hR,.hit (hm r) hn ha,hn,z.1,z.2,hf⟩
theorem Mv.snd{a b a' b':Str}(hR:nq x=some ((a',b')::(a,b)::cI))(h0:∀r,cv (Txt.split a' (Str.ofString " ")) (.aX X::r) []=some none)(hm:∀r,cv (Txt.split a (Str.ofString " ")) (.aX X::r) []=some (some env))(hn:cF p env)(ha:ni p env x true)(hf:bK p env (Txt.split b (Str.ofString " ")) []=some Y.aE):Mv p x X Y:=
 λr=>let z:=IH hR (eR _ dv);⟨_,env,b,hR,.miss (h0 r) (.hit (hm r) hn ha),hn,z.1,z.2,hf⟩
section
variable{p:Int}{a b c e:Dw}{n m:Int}
theorem II(oa:a.ok p)(wa:a.aE.length≤200):Mv p (Str.ofString "twice") (Dw.back (Dw.back a)) a:=
 .fst (by rfl) (λ_=>RN) ((cF.nil).aX oa wa) (.any (by decide) (by decide)) (by exact RO)
theorem Td(oa:a.ok p)(wa:a.aE.length≤200)(ob:b.ok p)(wb:b.aE.length≤200):Mv p (Str.ofString "turnthen") (Dw.back (Dw.aM a b)) (Dw.aM (Dw.back b) (Dw.back a)):=
 .fst (by rfl) (λ_=>RP) (((cF.nil).aX ob wb).aX oa wa) (.any (by decide) (by decide)) (by exact RQ)
theorem Te(oa:a.ok p)(wa:a.aE.length≤200)(ob:b.ok p)(wb:b.aE.length≤200):Mv p (Str.ofString "turnbeside") (Dw.back (Dw.bf a b)) (Dw.bf (Dw.back a) (Dw.back b)):=
 .fst (by rfl) (λ_=>RU) (((cF.nil).aX ob wb).aX oa wa) (.any (by decide) (by decide)) (by exact RV)
theorem Tf(oa:a.ok p)(wa:a.aE.length≤200)(ob:b.ok p)(wb:b.aE.length≤200)(oc:c.ok p)(wc:c.aE.length≤200):Mv p (Str.ofString "thread") (Dw.aM (Dw.aM a b) c) (Dw.aM a (Dw.aM b c)):=
 .fst (by rfl) (λ_=>RW) ((((cF.nil).aX oc wc).aX ob wb).aX oa wa) (.any (by decide) (by decide)) (by exact RX)
theorem Tg(oa:a.ok p)(wa:a.aE.length≤200)(ob:b.ok p)(wb:b.aE.length≤200)(oc:c.ok p)(wc:c.aE.length≤200):Mv p (Str.ofString "stack") (Dw.bf (Dw.bf a b) c) (Dw.bf a (Dw.bf b c)):=
 .fst (by rfl) (λ_=>RY) ((((cF.nil).aX oc wc).aX ob wb).aX oa wa) (.any (by decide) (by decide)) (by exact RZ)
theorem Th(oa:a.ok p)(wa:a.aE.length≤200)(ob:b.ok p)(wb:b.aE.length≤200)(oc:c.ok p)(wc:c.aE.length≤200)(oe:e.ok p)(we:e.aE.length≤200)(h:a.pE=c.pC):Mv p (Str.ofString "cross") (Dw.aM (Dw.bf a b) (Dw.bf c e)) (Dw.bf (Dw.aM a c) (Dw.aM b e)):=
 .fst (by rfl) (λ_=>R0) (((((cF.nil).aX oe we).aX oc wc).aX ob wb).aX oa wa) (ax h▸ni.Ir a c (by rfl) (by rfl) oa oc) (by exact R1)
theorem IJ(oa:a.ok p)(wa:a.aE.length≤200):Mv p (Str.ofString "lone") (Dw.aM (Dw.box (Str.ofString "id") l1 r1) a) a:=
 .fst (by rfl) (λ_=>R3) ((cF.nil).aX oa wa) (.any (by decide) (by decide)) (by exact R4)
theorem IK(oa:a.ok p)(wa:a.aE.length≤200)(h:lN (It2.aX a).head≠Str.ofString "id"):Mv p (Str.ofString "lone") (Dw.aM a (Dw.box (Str.ofString "id") l1 r1)) a:=
 .snd (by rfl) (λ_=>S9 h) (λ_=>R5) ((cF.nil).aX oa wa) (.any (by decide) (by decide)) (by exact R6)
theorem Ti(oa:a.ok p)(wa:a.aE.length≤200):Mv p (Str.ofString "bare") (Dw.bf (Dw.box (Str.ofString "empty") l1 r1) a) a:=
 .fst (by rfl) (λ_=>R7) ((cF.nil).aX oa wa) (.any (by decide) (by decide)) (by exact R8)
theorem Tj(oa:a.ok p)(wa:a.aE.length≤200)(h:lN (It2.aX a).head≠Str.ofString "empty"):Mv p (Str.ofString "bare") (Dw.bf a (Dw.box (Str.ofString "empty") l1 r1)) a:=
 .snd (by rfl) (λ_=>Ta h) (λ_=>R9) ((cF.nil).aX oa wa) (.any (by decide) (by decide)) (by exact Sa)
theorem Tn:Mv p (Str.ofString "undo") (Dw.aM (Dw.box (Str.ofString "swap") l1 r1) (Dw.box (Str.ofString "swap") l2 r2)) (Dw.bf (Dw.box (Str.ofString "id") s1 t1) (Dw.box (Str.ofString "id") s2 t2)):=
 .fst (by rfl) (λ_=>Sb) (cF.nil) (.any (by decide) (by decide)) (by exact Sd)
theorem To:Mv p (Str.ofString "copyend") (Dw.aM (Dw.box (Str.ofString "copy") l1 r1) (Dw.bf (Dw.box (Str.ofString "end") l2 r2) (Dw.box (Str.ofString "id") l3 r3))) (Dw.box (Str.ofString "id") s1 t1):=
 .fst (by rfl) (λ_=>Se) (cF.nil) (.any (by decide) (by decide)) (by exact Sf)
theorem Tp:Mv p (Str.ofString "copyturn") (Dw.aM (Dw.box (Str.ofString "copy") l1 r1) (Dw.box (Str.ofString "swap") l2 r2)) (Dw.box (Str.ofString "copy") s1 t1):=
 .fst (by rfl) (λ_=>Sh) (cF.nil) (.any (by decide) (by decide)) (by exact Si)
theorem Tq:Mv p (Str.ofString "copycopy") (Dw.aM (Dw.box (Str.ofString "copy") l1 r1) (Dw.bf (Dw.box (Str.ofString "copy") l2 r2) (Dw.box (Str.ofString "id") l3 r3))) (Dw.aM (Dw.box (Str.ofString "copy") s1 t1) (Dw.bf (Dw.box (Str.ofString "id") s2 t2) (Dw.box (Str.ofString "copy") s3 t3))):=
 .fst (by rfl) (λ_=>Sj) (cF.nil) (.any (by decide) (by decide)) (by exact Sk)
theorem Tr:Mv p (Str.ofString "addnone") (Dw.aM (Dw.bf (Dw.box (Str.ofString "none") l1 r1) (Dw.box (Str.ofString "id") l2 r2)) (Dw.box (Str.ofString "add") l3 r3)) (Dw.box (Str.ofString "id") s1 t1):=
 .fst (by rfl) (λ_=>Sl) (cF.nil) (.any (by decide) (by decide)) (by exact Sm)
theorem Ts:Mv p (Str.ofString "addturn") (Dw.aM (Dw.box (Str.ofString "swap") l1 r1) (Dw.box (Str.ofString "add") l2 r2)) (Dw.box (Str.ofString "add") s1 t1):=
 .fst (by rfl) (λ_=>Sn) (cF.nil) (.any (by decide) (by decide)) (by exact So)
theorem Tt:Mv p (Str.ofString "addadd") (Dw.aM (Dw.bf (Dw.box (Str.ofString "add") l1 r1) (Dw.box (Str.ofString "id") l2 r2)) (Dw.box (Str.ofString "add") l3 r3)) (Dw.aM (Dw.bf (Dw.box (Str.ofString "id") s1 t1) (Dw.box (Str.ofString "add") s2 t2)) (Dw.box (Str.ofString "add") s3 t3)):=
 .fst (by rfl) (λ_=>Sr) (cF.nil) (.any (by decide) (by decide)) (by exact Ss)
theorem Tu(zn:0≤n)(gn:n<p)(zm:0≤m)(gm:m<p):Mv p (Str.ofString "scale") (Dw.aM (Dw.times n) (Dw.times m)) (Dw.times (n*m%p)):=
 .fst (by rfl) (λ_=>Su) (((cF.nil).num zm gm).num zn gn) (.any (by decide) (by decide)) (by exact Sv)
theorem Tv:Mv p (Str.ofString "one") (Dw.times 1) (Dw.box (Str.ofString "id") s1 t1):=
 .fst (by rfl) (λ_=>Sw) (cF.nil) (.any (by decide) (by decide)) (by exact Sx)
theorem Tw:Mv p (Str.ofString "nought") (Dw.times 0) (Dw.aM (Dw.box (Str.ofString "end") s1 t1) (Dw.box (Str.ofString "none") s2 t2)):=
 .fst (by rfl) (λ_=>Sy) (cF.nil) (.any (by decide) (by decide)) (by exact Sz)
theorem Tx{s4 t4 s5 t5 s6 t6 s7 t7:Nat}:Mv p (Str.ofString "sumcopy") (Dw.aM (Dw.box (Str.ofString "add") l1 r1) (Dw.box (Str.ofString "copy") l2 r2)) (Dw.aM (Dw.bf (Dw.box (Str.ofString "copy") s1 t1) (Dw.box (Str.ofString "copy") s2 t2)) (Dw.aM (Dw.bf (Dw.box (Str.ofString "id") s3 t3) (Dw.bf (Dw.box (Str.ofString "swap") s4 t4) (Dw.box (Str.ofString "id") s5 t5))) (Dw.bf (Dw.box (Str.ofString "add") s6 t6) (Dw.box (Str.ofString "add") s7 t7)))):=
 .fst (by rfl) (λ_=>SA) (cF.nil) (.any (by decide) (by decide)) (by exact SE)
theorem Tz:Mv p (Str.ofString "sumend") (Dw.aM (Dw.box (Str.ofString "add") l1 r1) (Dw.box (Str.ofString "end") l2 r2)) (Dw.bf (Dw.box (Str.ofString "end") s1 t1) (Dw.box (Str.ofString "end") s2 t2)):=
 .fst (by rfl) (λ_=>SF) (cF.nil) (.any (by decide) (by decide)) (by exact SG)
theorem TB:Mv p (Str.ofString "nonecopy") (Dw.aM (Dw.box (Str.ofString "none") l1 r1) (Dw.box (Str.ofString "copy") l2 r2)) (Dw.bf (Dw.box (Str.ofString "none") s1 t1) (Dw.box (Str.ofString "none") s2 t2)):=
 .fst (by rfl) (λ_=>SH) (cF.nil) (.any (by decide) (by decide)) (by exact SJ)
theorem TC:Mv p (Str.ofString "noneend") (Dw.aM (Dw.box (Str.ofString "none") l1 r1) (Dw.box (Str.ofString "end") l2 r2)) (Dw.box (Str.ofString "empty") s1 t1):=
 .fst (by rfl) (λ_=>SK) (cF.nil) (.any (by decide) (by decide)) (by exact SM)
theorem TF(zn:0≤n)(gn:n<p):Mv p (Str.ofString "scalecopy") (Dw.aM (Dw.times n) (Dw.box (Str.ofString "copy") l1 r1)) (Dw.aM (Dw.box (Str.ofString "copy") s1 t1) (Dw.bf (Dw.times n) (Dw.times n))):=
 .fst (by rfl) (λ_=>SN) ((cF.nil).num zn gn) (.any (by decide) (by decide)) (by exact SO)
theorem TH(zn:0≤n)(gn:n<p):Mv p (Str.ofString "scaleadd") (Dw.aM (Dw.box (Str.ofString "add") l1 r1) (Dw.times n)) (Dw.aM (Dw.bf (Dw.times n) (Dw.times n)) (Dw.box (Str.ofString "add") s1 t1)):=
 .fst (by rfl) (λ_=>SQ) ((cF.nil).num zn gn) (.any (by decide) (by decide)) (by exact SR)
theorem TJ{l4 r4:Nat}:Mv p (Str.ofString "bend") (Dw.aM (Dw.bf (Dw.box (Str.ofString "cup") l1 r1) (Dw.box (Str.ofString "id") l2 r2)) (Dw.bf (Dw.box (Str.ofString "id") l3 r3) (Dw.back (Dw.box (Str.ofString "cup") l4 r4)))) (Dw.box (Str.ofString "id") s1 t1):=
 .fst (by rfl) (λ_=>SS) (cF.nil) (.any (by decide) (by decide)) (by exact SU)
theorem TK(zn:0≤n)(gn:n<p)(h:n≠0):Mv p (Str.ofString "turnscale") (Dw.back (Dw.times n)) (Dw.times (cJ p n)):=
 .fst (by rfl) (λ_=>SV) ((cF.nil).num zn gn) (ax h▸ni.scale n (by rfl)) (by exact SW)
theorem TL:Mv p (Str.ofString "meet") (Dw.aM (Dw.box (Str.ofString "copy") l1 r1) (Dw.back (Dw.box (Str.ofString "copy") l2 r2))) (Dw.box (Str.ofString "id") s1 t1):=
 .fst (by rfl) (λ_=>SX) (cF.nil) (.any (by decide) (by decide)) (by exact SY)
theorem TM:Mv p (Str.ofString "turnid") (Dw.back (Dw.box (Str.ofString "id") l1 r1)) (Dw.box (Str.ofString "id") s1 t1):=
 .fst (by rfl) (λ_=>S3) (cF.nil) (.any (by decide) (by decide)) (by exact S4)
theorem TN:Mv p (Str.ofString "turnid") (Dw.back (Dw.box (Str.ofString "swap") l1 r1)) (Dw.box (Str.ofString "swap") s1 t1):=
 .snd (by rfl) (λ_=>IG (by show Str.ofString "swap" ≠ Str.ofString "id";decide)) (λ_=>S5) (cF.nil) (.any (by decide) (by decide)) (by exact S6)
theorem TQ:Mv p (Str.ofString "turnid") (Dw.back (Dw.box (Str.ofString "empty") l1 r1)) (Dw.box (Str.ofString "empty") s1 t1):=
 λ_=>⟨_,[],_,(by rfl),.miss (IG (by show Str.ofString "empty" ≠ Str.ofString "id";decide)) (.miss (Tb (by show Str.ofString "empty" ≠ Str.ofString "swap";decide)) (.hit S7 cF.nil (.any (by decide) (by decide)))),cF.nil,by decide +kernel,by decide +kernel,S8⟩
end
theorem IL{K:Frag}{Q:VK}{E:XK}{aw:Addr}(hd:d.ok p)(p2:2≤p)(gi:p≤97)(hl:d.aE.length≤200)(hw:bQ K H aw d.aE)(hA:At d i X)(hM:Mv p x X Y)(hy:Y.aE.length≤1000)
  (q:gK K H (d.aE.take i++Y.aE++d.aE.drop (i+X.aE.length)) Q):vL K nq [.int p,.ref aw,.int (i:Int),.str x] H Q E:=by
 obtain⟨r,hA⟩:=hA;obtain⟨cI,env,b,h1,h2,h3,h4,h5,h6⟩:=hM r;exact⟨p,aw,i,x,b,d,X,r,cI,env,Y.aE,rfl,hd,p2,gi,hl,hw,hA,h1,by rw[hA];exact h2,h3,h4,h5,h6,hy,q⟩
end S21
namespace D1
open Bw
variable{a b p:Int}
inductive Dr where
 |id|swap|copy|fin|add|none|ig|empty
 |times (n:Int)
 |back (d:Dr)
 |bf (a b:Dr)
 |aM (a b:Dr)
namespace Dr
noncomputable def bq:Dr→Nat×Nat
 |id=>(1,1)|swap=>(2,2)|copy=>(1,2)|fin=>(1,0)|add=>(2,1)|none=>(0,1)|ig=>(0,2)|empty=>(0,0)
 |times _=>(1,1)
 |back d=>(d.bq.2,d.bq.1)
 |bf a b=>(a.bq.1+b.bq.1,a.bq.2+b.bq.2)
 |aM a b=>(a.bq.1,b.bq.2)
noncomputable abbrev l(d:Dr):Nat:=d.bq.1
noncomputable abbrev r(d:Dr):Nat:=d.bq.2
def wf(p:Int):Dr→Prop
 |times n=>0≤n∧n<p
 |back d=>d.wf p
 |bf a b=>a.wf p∧b.wf p
 |aM a b=>a.wf p∧b.wf p∧a.r=b.l
 |_=>True
end Dr
noncomputable def sh(k:Nat)(f:Fn):Fn:=λj=>f (k+j)
def eq(p a b:Int):Prop:=p∣a-b
theorem eq.refl(p a:Int):eq p a a:=⟨0,by lia⟩
theorem eq.symm(h:eq p a b):eq p b a:=by
 have:=Int.dvd_neg.mpr h
 show p∣b-a;rwa[show -(a-b)=b-a by lia]at this
theorem eq.trans{c:Int}(h:eq p a b)(k:eq p b c):eq p a c:=by
 have:=Int.dvd_add h k
 show p∣a-c;rwa[show a-b+(b-c)=a-c by lia]at this
theorem eq.add{c d:Int}(h:eq p a b)(k:eq p c d):eq p (a+c) (b+d):=by
 have:=Int.dvd_add h k
 show p∣_;rwa[show a-b+(c-d)=a+c-(b+d) by lia]at this
def nu(p:Int):Dr→Fn→Fn→Prop
 | .id,x,y=>eq p (y 0) (x 0)
 | .swap,x,y=>eq p (y 0) (x 1)∧eq p (y 1) (x 0)
 | .copy,x,y=>eq p (y 0) (x 0)∧eq p (y 1) (x 0)
 | .fin,_,_=>True
 | .add,x,y=>eq p (y 0) (x 0+x 1)
 | .none,_,y=>eq p (y 0) 0
 | .ig,_,y=>eq p (y 1) (y 0)
 | .empty,_,_=>True
 | .times n,x,y=>eq p (y 0) (n*x 0)
 | .back d,x,y=>nu p d y x
 | .bf a b,x,y=>nu p a x y∧nu p b (sh a.l x) (sh a.r y)
 | .aM a b,x,y=>∃z,nu p a x z∧nu p b z y
end D1
namespace D1
open Bw
noncomputable def dI:List Int→Fn→Int
 | [],_=>0
 |a::r,x=>a*x 0+dI r (sh 1 x)
theorem IM:∀(r s:List Int)(x:Fn),dI (r++s) x=dI r x+dI s (sh r.length x)
 | [],s,x=>by
  show dI s x=0+dI s (sh 0 x);rw[jO,show sh 0 x=x from funext λj=>by unfold sh;rw[oM]]
 |a::r,s,x=>by
  show a*x 0+dI (r++s) (sh 1 x)=a*x 0+dI r (sh 1 x)+dI s (sh (r.length+1) x);rw[IM r s,show sh r.length (sh 1 x)=sh (r.length+1) x from funext λj=>by unfold sh;rw[show 1+(r.length+j)=r.length+1+j by lia]]
  lia
theorem Cg:∀(r:List Int)(x:Fn),(∀a∈r,a=0)→dI r x=0
 | [],_,_=>rfl
 |a::r,x,h=>by
  show a*x 0+dI r (sh 1 x)=0;rw[h a dv,Cg r _ λb hb=>h b (eR _ hb)];simp
theorem TR{p:Int}{cq:LL}{f:Fn}:Sp p (RS cq) f↔∃z:Fn,∀j,eq p (f j) (dI (cq.map λr=>r.getD j 0) z):=by
 constructor
 ·intro h;induction h with
  |zero=>exact⟨λ_=>0,λj=>by
    have:∀(l:List Int),dI l (λ_=>0)=0:=λl=>by
     induction l with
     |nil=>rfl
     |cons a l ih=>show a*0+dI l (sh 1 λ_=>0)=0;rw[show sh 1 (λ_=>(0:Int))=λ_=>0 from rfl,ih];simp
    rw[this];exact .refl _ _⟩
  | @add v r c _ hr ih=>
   obtain⟨z,hz⟩:=ih;obtain⟨q,hq,rfl⟩:=hr;obtain⟨i,hi,rfl⟩:=rC.mp hq;refine⟨λk=>z k+if k=i then c else 0,λj=>?_⟩
   have TU:∀(l:List Int)(i:Nat)(hi:i<l.length)(z:Fn),dI l (λk=>z k+if k=i then c else 0)=dI l z+c*l[i]:=λl=>by
    induction l with
    |nil=>intro i hi;exact absurd hi (by simp)
    |cons a l ih=>
     intro i hi z;cases i with
     |zero=>
      show a*(z 0+if 0=0 then c else 0)+dI l (sh 1 λk=>z k+if k=0 then c else 0)=a*z 0+dI l (sh 1 z)+c*a
      rw[show(sh 1 λk=>z k+if k=0 then c else 0)=sh 1 z from funext λk=>by unfold sh;dsimp only;rw[ag (by lia)];simp]
      simp only[if_true,Int.mul_add];rw[Int.mul_comm a c];lia
     |succ i=>
      have gM:i<l.length:=by simpa using hi
      show a*(z 0+if 0=i+1 then c else 0)+dI l (sh 1 λk=>z k+if k=i+1 then c else 0)=a*z 0+dI l (sh 1 z)+c*l[i]
      rw[show(sh 1 λk=>z k+if k=i+1 then c else 0)=λk=>sh 1 z k+if k=i then c else 0 from funext λk=>by
       unfold sh;dsimp only;by_cases e:k=i
       ·rw[af e,af (by lia)]
       ·rw[ag e,ag (by lia)],ih i gM]
      simp;lia
   rw[TU _ i (by rw[br];exact hi),List.getElem_map];show eq p (v j+c*(cq[i]).getD j 0) _;exact(hz j).add (.refl _ _)
  |iE _ e ih=>
   obtain⟨z,hz⟩:=ih;exact⟨z,λj=>eq.trans (eq.symm (e j)) (hz j)⟩
 ·rintro⟨z,hz⟩;have key:∀(L:LL)(z:Fn),(∀r∈L,r∈cq)→Sp p (RS cq) (λj=>dI (L.map λr=>r.getD j 0) z):=λL=>by
   induction L with
   |nil=>intro z _;exact .zero
   |cons r L ih=>
    intro z hL;have h1:=ih (sh 1 z) λq hq=>hL q (eR _ hq);refine(h1.add (z 0) ⟨r,hL r dv,rfl⟩).of_eq λj=>?_;show dI (L.map λr=>r.getD j 0) (sh 1 z)+z 0*r.getD j 0=r.getD j 0*z 0+dI (L.map λr=>r.getD j 0) (sh 1 z);rw[Int.mul_comm,Int.add_comm]
  refine .iE (key cq z λ_ h=>h) λj=>?_;exact(hz j).symm
inductive Wd where
 |w (x:String)
 |n (i:Int)
 deriving DecidableEq
namespace Dr
noncomputable def aE:Dr→List Wd
 |id=>[.w "id"] | swap=>[.w "swap"] | copy=>[.w "copy"] | fin=>[.w "end"] | add=>[.w "add"] | none=>[.w "none"] | ig=>[.w "cup"] | empty=>[.w "empty"]
 |times n=>[.w "times",.n n]
 |back d=>.w "back"::d.aE
 |bf a b=>.w "beside"::(a.aE++b.aE)
 |aM a b=>.w "then"::(a.aE++b.aE)
end Dr
def IP(qP:LL)(ua:Nat):Prop:=ua+qP.length<2∨(ua=1∧qP.length=1∧(qP.getD 0 []).getD 0 0≠0)
instance (qP:LL) (ua:Nat):Decidable (IP qP ua):=by unfold IP;infer_instance
def d6(p:Int)(qP:LL)(ua:Nat):Prop:=∀r∈qP,r.length=ua∧∀a∈r,0≤a∧a<p
end D1
namespace D1
open Bw
noncomputable def parts(c l:Nat):Nat:=if c=0 then l else if l=0 then c else 2*(c*l)
end D1
namespace S21
open PySem L2 Bw
noncomputable def bY:D1.Wd→V
 | .w x=>.str x
 | .n i=>.int i
def IE(te:TE)(σ:St)(H:Hp)(k:Int):Prop:=∀H',aJ H H'→∀R:VK,R (.int k) H'→te σ H' R
section
variable{K:Frag}{σ:St}{H:Hp}
theorem iG{i:Nat}{k:Int}(h:σ[i]?=some (some (.int k))):IE (aL i) σ H k:=λ_ _ _ q=>⟨_,h,q⟩
theorem yM{α:Type}(v:α):∀n:Nat,(List.replicate n [v]).flatten=List.replicate n v
 |0=>rfl
 |n+1=>by rw[uE,List.flatten_cons,yM v n];rfl
end
end S21
namespace L2
open PySem PySem.Spec PyProof.Rows
end L2
namespace S21
open PySem L2 Bw
end S21
namespace D1
open Bw
end D1
namespace S21
open PySem L2 Bw
theorem IQ{c:TT}{t u:TS}{D:Ends}{σ:St}{H:Hp}(d:Bool)(h:∀R:Bool→Hp→Prop,R d H→c σ H R)(ht:d=true→t { D with nx:=u D } σ H)(hf:d=false→u D σ H):bu (dQ c t gk) u D σ H:=by
 refine h _ ?_;cases d with
 |true=>exact eP (ht rfl)
 |false=>exact cW (hf rfl)
theorem TV:(["k","head","p","place","row"]:List Str).Nodup:=by decide +kernel
def yN(_K:Frag):Sp:=λvs H Q _=>∃(p:Int)(a b:Addr)(x h:List Int)(n j:Nat)(i:Int),vs=[.int p,.ref a,.ref b,.int i]∧i=j∧2≤p∧p≤97∧n≤900∧j<n∧H a=some (.lst (x.map V.int))∧H b=some (.lst (h.map V.int))∧x.length=n∧h.length=n∧-100000≤x.getD j 0∧x.getD j 0≤100000∧
 ∀l H',aJ H H'→H l=none→H' l=some (.lst ((e7 p j h x).map V.int))→Q (.ref l) H'
theorem TX:cY ["p","row","head","place"] ["p","row","head","place"] (bp qB):=dE rfl rfl rfl (by decide +kernel) rfl
theorem yO{f:Addr}{fd:FuncData}(F:cL K "_law_less" "_law_less" qB f fd)(T:Txt mg):bN P w K mg base bO 1 f fd ["p","row","head","place"] (yN K):=by
 refine F.ok TX (λvs H Q E h=>?_) (λcj A outer s H vs Q E hr h=>?_)
 ·obtain⟨p,a,b,x,h,n,j,i,rfl,_⟩:=h;rfl
 ·obtain⟨p,a,b,x,h,n,j,i,rfl,rfl,p2,gi,hn,hj,ga,gb,hx,hh,acj,ack,k⟩:=h;have ub:(1000:Nat)≤sizeLine:=by decide
  refine⟨_,bj (cA (mV (N:=["k","head","p","place","row"]) (own:=1) (caps:=[2,0,3,1]) rfl (qd rfl T.range (aG (gp (og K rfl) rfl T.len oh (aG (pv 1) aK)) aK)) (show eZ ["p","row","head","place"] (bp qB) ["k","head","p","place","row"] 1 [2,0,3,1] _ from .mk' (by decide +kernel)) (λ_ _ _ _ _=>cB (i:=0) TV rfl (.inl rfl)) (λ_ _ _ _ _=>jw) (λ_ _ _ _ _=>aU eC (aU iM (bZ (cH K rfl) (pv 4) (pv 0) (λ_ _=>rfl)) (aU qe (bZ (cH K rfl) (pv 4) (pv 3) (λ_ _=>rfl)) (bZ (cH K rfl) (pv 1) (pv 0) (λ_ _=>rfl)))) (pv 2)))),?_⟩
  have ex:(x.map V.int).length=n:=by rw[br,hx]
  refine⟨_,rfl,a,_,rfl,.inl (.of ga),(((x.map V.int).length:Nat):Int),rfl,by lia,by rw[ex];lia,FZ (n:=(x.map V.int).length) (lo:=0) (cp:=[some (.ref b),some (.int p),some (.int (j:Int)),some (.ref a)]) (λi H' zs=>zs=((e7 p j h x).take i).map V.int) (by rw[ex];lia) rfl (λi H' zs e=>by rw[e,br];exact nP _ _) ?_ ?_⟩
  ·rintro i H1 zs hi sm rfl;rw[ex]at hi;rw[jO];have xW:i<x.length:=by rw[hx];exact hi
   have IS:i<h.length:=by rw[hh];exact hi
   refine ki ⟨_,rfl,_,rfl,a,_,(i:Int),_,rfl,rfl,.of (sm _ _ ga),cb (vw xW),_,rfl,_,rfl,a,_,(j:Int),_,rfl,rfl,.of (sm _ _ ga),cb (vw (by rw[hx];exact hj)),_,rfl,_,rfl,b,_,(i:Int),_,rfl,rfl,.of (sm _ _ gb),cb (vw IS),_,_,rfl,rfl,.inl ⟨by lia,by lia⟩,_,_,rfl,rfl,_,rfl,_,_,rfl,rfl,(by show(0:Int)<p;lia),⟨[_],rfl,rfl⟩,sm,?_⟩;have e3:(e7 p j h x)[i]?=some ((x.getD i 0-x.getD j 0*h.getD i 0)%p):=by
    unfold e7 ia;rw[List.getElem?_zipWith,BE xW,BE IS];show some ((x.getD i 0 + -(x.getD j 0)*h.getD i 0)%p)=_;rw[Int.neg_mul,← Int.sub_eq_add_neg]
   rw[jN,e3];simp
  ·rintro H1 zs sm rfl lq IT;rw[ex,rB (by unfold e7 ia;rw[List.length_zipWith,hx,hh];lia)];exact k lq _ (sm.trans (.upd IT)) (eE sm IT) aZ
theorem IU(d:Int)(h0:0≤d)(h1:d<25):∃q,q∈cK∧mz (cK.map V.int) d=some (.int q):=by
 obtain⟨q,hq⟩:∃q,cK[d.toNat]?=some q:=⟨_,cg (show d.toNat<25 by lia)⟩;refine⟨q,d8 hq,?_⟩;rw[show d=((d.toNat:Nat):Int) by lia];exact cb (by rw[fj,hq];rfl)
def IV:Sp:=λvs H Q _=>∃c:Int,vs=[.int c]∧∀p H',p∈cK→aJ H H'→Q (.int p) H'
theorem IW:cY ["cell","primes"] ["cell"] (bp tD):=dE rfl rfl rfl (by decide +kernel) rfl
theorem TY{f:Addr}{fd:FuncData}(F:cL K "_law_prime" "_law_prime" tD f fd):bN P w K mg base bO 1 f fd ["cell"] IV:=by
 refine F.ok IW (λvs H Q E h=>?_) (λcj A outer s H vs Q E hr h=>?_)
 ·obtain⟨c,rfl,_⟩:=h;rfl
 ·obtain⟨c,rfl,q⟩:=h;refine⟨bu (cx (Bm cK) (bo 1)) (ft (aT (ff K) (bg (aI (aT (ff K) (aL 1) (aT (rI (λ_ j=>0<j) λi j=>.int (i%j)) (aT (rI nZ λi j=>.int (i/j)) (aL 0) (tC (.int 2))) (tC (.int 4)))) (aI (aT (ff K) (aL 1) (aT (rI (λ_ j=>0<j) λi j=>.int (i%j)) (aT (rI nZ λi j=>.int (i/j)) (aL 0) (tC (.int 2))) (tC (.int 25)))) aV))) (aT (rI (λ_ j=>0<j) λi j=>.int (i%j)) (aL 0) (tC (.int 2))))),ba ?_ ?_,?_⟩
  ·refine bw ?_ ?_ ?_ ?_ ?_ ?_
   ·exact IW.nd
   ·rfl
   ·exact Or.inl rfl
   ·refine Gm ?_;exact Gk (by kernel_rfl)
   ·rfl
   ·exact .inl rfl
  ·refine bj ?_;refine cA ?_;refine bZ ?_ ?_ ?_ ?_
   ·exact cH K rfl
   ·refine bc ?_;refine aG ?_ ?_
    ·exact bZ (cH K rfl) (pv 1) (aU eC (aU jT (pv 0) aY) aY) (λ_ _=>rfl)
    ·refine aG ?_ aK;exact bZ (cH K rfl) (pv 1) (aU eC (aU jT (pv 0) aY) aY) (λ_ _=>rfl)
   ·exact aU eC (pv 0) aY
   ·exact λ_ _=>rfl
  obtain⟨q1,m1,e1⟩:=IU (c/2%4) (by lia) (by lia);obtain⟨q2,m2,e2⟩:=IU (c/2%25) (by lia) (by lia);refine⟨(by show 25≤sizeLine;decide),λl hl=>?_⟩;dsimp only[bo];refine⟨_,rfl,_,rfl,_,_,rfl,rfl,⟨by decide,by decide⟩,_,_,rfl,rfl,(show(0:Int)<4 by decide),l,_,_,_,rfl,rfl,.of aZ,e1,?_⟩;refine⟨_,rfl,_,rfl,_,_,rfl,rfl,⟨by decide,by decide⟩,_,_,rfl,rfl,(show(0:Int)<25 by decide),l,_,_,_,rfl,rfl,.of aZ,e2,?_⟩;refine⟨(by show 2≤sizeLine;decide),λl2 o9=>⟨_,rfl,_,_,rfl,rfl,(show(0:Int)<2 by decide),?_⟩⟩;have hc:c%2=0∨c%2=1:=by lia
  rcases hc with hc|hc
  ·exact⟨l2,_,_,.int q1,rfl,rfl,.of aZ,by rw[hc];exact cb (j:=0) rfl,q q1 _ m1 ((aJ.upd hl).trans (.upd o9))⟩
  ·exact⟨l2,_,_,.int q2,rfl,rfl,.of aZ,by rw[hc];exact cb (j:=1) rfl,q q2 _ m2 ((aJ.upd hl).trans (.upd o9))⟩
end S21
namespace PySem.SeqAt
open MeetsSeq AutoSeq1 SeqRoads2
def TZ(s:Shared)(l:Addr)(its:Array Value)(n:Nat):Prop:=s.heap.get? l=some { cls:=.type "list",data:=.seq its n }
def IX(l:Addr)(its:Array Value)(n:Nat)(x:Value)(e:Value→Bool)(j:Nat):Spec:=λA R s=>
 TZ s l its n∧(∀m (hm:m<its.size),m≤j→EqAt A.in1 s its[m] x (e its[m]))∧R (.ok (.ret .none)) { s with heap:=s.heap.update l (Obj.mapSeq λxs=>xs.eraseIdxIfInBounds j) }
theorem IY{l:Addr}{its:Array Value}{n:Nat}{x:Value}{e:Value→Bool}{j:Nat}(hj:j<its.size)(hit:e its[j]=true)(hs:its.size≤sizeLine) :
  ∀k i:Nat,i+k=j→(∀m (hm:m<its.size),i≤m→m<j→e its[m]=false)→Meets (Builtin.«list.remove.loop» ⟨[.ref l,x,rawInt i],[]⟩) (IX l its n x e j)
 |0,i,hk,_=>λprog w A R s z=>by
  obtain⟨h,gs,dn,tk,st⟩:=s;obtain⟨at_,eq,fin⟩:=z;obtain rfl:i=j:=by lia
  have at_:Heap.get? h l=some { cls:=.type "list",data:=.seq its n }:=at_
  (wp_walk using au at_)
  rw[show its[((i:Nat):Int).toNat]?=some its[i] by simp[hj]];refine aq (eq i hj (bH _) prog w _ _ ?_);have small:(its.eraseIdxIfInBounds i).size≤sizeLine+1:=eu (size_erased its _) (Nat.le_succ_of_le hs);rw[hit];wp_walk using(wpAny_updateSeq at_ rfl (hz:=hs) (_hz':=small)),au at_
  simpa using fin
 |k+1,i,hk,r9=>λprog w A R s z=>by
  obtain⟨h,gs,dn,tk,st⟩:=s;obtain⟨at_,eq,fin⟩:=z;have hm:i<its.size:=by lia
  have at':Heap.get? h l=some { cls:=.type "list",data:=.seq its n }:=at_
  (wp_walk using au at')
  rw[show its[((i:Nat):Int).toNat]?=some its[i] by simp[hm]];refine aq (eq i hm (by lia) prog w _ _ ?_);rw[r9 i hm (bH _) (by lia)];wp_walk
  rw[show((i:Int)+1)=((i+1:Nat):Int) by push_cast;rfl];have cQ:=IY (l:=l) (n:=n) (x:=x) hj hit hs k (i+1) (by lia) (λm hm a b=>r9 m hm (by lia) b) prog w A R _ ⟨at_,eq,fin⟩;refine⟨plainId_quiet plain_remove_loop _,codeAny_builtin entry_remove_loop ?_⟩;rw[Around.under_plainId plain_remove_loop _];exact cQ
theorem T1(l:Addr)(its:Array Value)(n:Nat)(x:Value)(e:Value→Bool){j:Nat}(hj:j<its.size)(hit:e its[j]=true)(r9:∀m (hm:m<its.size),m<j→e its[m]=false)(yQ:its.size≤sizeLine):Meets (Builtin.«list.remove» ⟨[.ref l,x],[]⟩) (IX l its n x e j):=λprog w A R s z=>by
 obtain⟨h,gs,dn,tk,st⟩:=s;obtain⟨at_,eq,fin⟩:=z;have at':Heap.get? h l=some { cls:=.type "list",data:=.seq its n }:=at_;have nV:=IY (l:=l) (n:=n) (x:=x) hj hit yQ j 0 (oM _) (λm hm _ b=>r9 m hm b) prog w A R _ ⟨at_,eq,fin⟩
 (wp_walk using au at')
 refine⟨plainId_quiet plain_remove_loop _,codeAny_builtin entry_remove_loop ?_⟩;rw[Around.under_plainId plain_remove_loop _];exact nV
end PySem.SeqAt
namespace L2
open PySem PySem.Spec PyProof.Rows Bw PySem.SeqAt
theorem T2{A:Around}{s:Shared}{a b:Addr}{xs ys:List Value}{r h:List Int}(hu:A.units<cLine)(ha:s.heap.IsList a xs.toArray)(hb:s.heap.IsList b ys.toArray)(ra:Vals (r.map V.int) xs)(rb:Vals (h.map V.int) ys)(hl:r.length=h.length)(fg:r≠h) :
  EqAt A s (.ref a) (.ref b) false:=by
 have l1:=ra.length;have l2:=rb.length;rw[br]at l1 l2;have T3:a≠b:=λz=>by
  subst z;have e:xs=ys:=by
   obtain⟨o,g,_,n,d⟩:=ha;obtain⟨o',g',_,n',d'⟩:=hb;rw[g]at g';cases g';rw[d]at d';injection d' with d1;simpa using d1
  subst e;refine fg (List.ext_getElem? λi=>?_);by_cases hi:i<r.length
  ·obtain⟨u,cT,lJ⟩:=ra.get (show(r.map V.int)[i]?=some (.int r[i]) by rw[fj,cg hi];rfl);obtain⟨v,tZ,nj⟩:=rb.get (show(h.map V.int)[i]?=some (.int (h[i]'(hl▸hi))) by rw[fj,cg (hl▸hi)];rfl);rw[cT]at tZ;cases tZ;obtain⟨t,rfl⟩:=lJ;obtain⟨t',e⟩:=nj;rw[cg hi,cg (hl▸hi)];injection e with e1;exact aj some e1
  ·rw[kc (by lia),kc (by lia)]
 have key:=RcAt.lists (A:=A) (s:=s) (e:=λj=>decide (r.getD j 0=h.getD j 0)) ha hb (by simp only[dC];lia) hu (λj h1 h2=>by
  simp only[dC]at h1 h2;obtain⟨u,cT,lJ⟩:=ra.get (show(r.map V.int)[j]?=some (.int (r.getD j 0)) by rw[fj,dP,cg (show j<r.length by lia)];rfl);obtain⟨v,tZ,nj⟩:=rb.get (show(h.map V.int)[j]?=some (.int (h.getD j 0)) by rw[fj,dP,cg (show j<h.length by lia)];rfl);obtain⟨t,rfl⟩:=lJ;obtain⟨t',rfl⟩:=nj;have e1:xs.toArray[j]=.int (r.getD j 0) t:=by
   have:=(dB.mp cT).2
   simpa using this
  have e2:ys.toArray[j]=.int (h.getD j 0) t':=by
   have:=(dB.mp tZ).2
   simpa using this
  rw[e1,e2];exact(MeetsSeq.EqGives.int _ _ _ _).at _ _)
 have z:((List.range xs.toArray.size).all λj=>decide (r.getD j 0=h.getD j 0))=false:=by
  cases hq:(List.range xs.toArray.size).all λj=>decide (r.getD j 0=h.getD j 0) with
  |false=>rfl
  |true=>
   refine absurd (List.ext_getElem? λi=>?_) fg;rw[iK]at hq;by_cases hi:i<r.length
   ·have:=az (hq i (List.mem_range.mpr (by simp only[dC];lia)))
    rw[dP,dP,cg hi,cg (hl▸hi)]at this;rw[cg hi,cg (hl▸hi)];exact aj some this
   ·rw[kc (by lia),kc (by lia)]
 rw[z]at key;exact .of_refs T3 key
def T4:V→List V→Hp→VK→Prop:=λx vs H Q=>∃l xs L j a h,x=.ref l∧vs=[.ref a]∧H l=some (.lst xs)∧LR (λ_=>True) H xs L∧xs[j]?=some (.ref a)∧H a=some (.lst (h.map V.int))∧
 (∀i r,i<j→L[i]?=some r→r.length=h.length∧r≠h)∧Q .cm (upd H l (.lst (xs.eraseIdx j)))
open Classical in
theorem T5{X:Cx}(hu:X.A.units+2<cLine):xK X "list.remove" T4:=by
 intro aF s σ H x vs v us Q I rx rv h;obtain⟨l,xs,L,j,a,hd,rfl,rfl,hH,hL,hj,ga,fg,q⟩:=h;cases rx;obtain⟨u,rfl,ru⟩:=rv.one;cases ru;obtain⟨z,its,n,r,hl,e⟩:=I.ql hH;obtain⟨u',cT,lJ⟩:=r.get hj;cases lJ;have T6:=(dB.mp cT).1;obtain⟨ys,rb,pb,_⟩:=I.list (.of ga);have at_:∀{m:Nat}(hm:m<its.toArray.size),its.toArray[m]=its[m]'(by simpa using hm):=λhm=>by simp
 refine call_meets F.slot_list_remove ⟨_,e,rfl⟩ F.entry_list_remove (F.args_list_remove_2 _ _)
  (T1 l its.toArray n (.ref a) (λw=>decide (w=.ref a)) (j:=j) (by simpa using T6) ?_ ?_ (by rw[dC];lia)) ⟨e,?_,?_⟩
 ·refine ax ?_;rw[at_];exact(dB.mp cT).2
 ·intro m hm Ci;have vO:m<its.length:=by simpa using hm
  have pL:m<xs.length:=by lia
  obtain⟨r',iW⟩:∃r',L[m]?=some r':=⟨_,cg (by rw[← hL.1];exact pL)⟩;obtain⟨b,eb,_,gb⟩:=hL.2 m _ r' (cg pL) iW;obtain⟨w',pJ,yR⟩:=r.get ((cg pL).trans (aj some eb));cases yR;refine ae ?_;rw[at_ hm,(dB.mp pJ).2];intro z;injection z with z;subst z;rw[ga]at gb
  have:=(fg m r' Ci iW).2
  injection gb with gb;injection gb with gb;exact this ((List.map_inj_right λx y e=>V.int.inj e).mp gb).symm
 ·intro m hm Ci;have vO:m<its.length:=by simpa using hm
  have pL:m<xs.length:=by lia
  obtain⟨r',iW⟩:∃r',L[m]?=some r':=⟨_,cg (by rw[← hL.1];exact pL)⟩;obtain⟨b,eb,_,gb⟩:=hL.2 m _ r' (cg pL) iW;obtain⟨w',pJ,yR⟩:=r.get ((cg pL).trans (aj some eb));cases yR;rw[at_ hm,(dB.mp pJ).2];by_cases Cj:b=a
  ·subst Cj;dsimp only;rw[ax rfl];exact EqAt.same _
  ·dsimp only;rw[ae λz=>Cj (by injection z)];have T7:m<j:=by
    rcases Nat.lt_or_eq_of_le Ci with h|rfl
    ·exact h
    ·rw[cg pL,eb]at hj;injection hj with hj;injection hj with hj;exact absurd hj Cj
   obtain⟨zs,rz,pz,_⟩:=I.list (.of gb);obtain⟨l1,l2⟩:=fg m r' T7 iW;exact T2 (by show X.A.units+1<cLine;lia) pz.isList pb.isList rz rb l1 l2
 ·refine⟨.cm,_,I.xM (its':=its.eraseIdx j) hH e ?_ (r.eraseIdx j) ?_,rfl,q⟩
  ·show its.toArray.eraseIdxIfInBounds j=(its.eraseIdx j).toArray;rw[List.eraseIdxIfInBounds_toArray]
  ·have:=Fo xs j
   lia
end L2
namespace D1
open Bw
variable{hi lo:Nat}
noncomputable def gQ(p:Int)(k:Nat)(h:List Int):List Int:=h.map λx=>x*cJ p (h.getD k 0%p)%p
noncomputable def ir(p:Int)(k:Nat)(s:LL×LL):LL×LL:=
 match s.2.findIdx? (λr=>r.getD k 0%p != 0) with
 |none=>s
 |some i=>(s.1.map (e7 p k (gQ p k (s.2.getD i [])))++[gQ p k (s.2.getD i [])],(s.2.eraseIdx i).map (e7 p k (gQ p k (s.2.getD i []))))
noncomputable def dS(p:Int)(lo:Nat)(L:LL):Nat→LL×LL
 |0=>([],L)
 |c+1=>ir p (lo+c) (dS p lo L c)
section
variable{p:Int}{n k:Nat}{h:List Int}{L T D:LL}
theorem qQ:(gQ p k h).length=h.length:=by simp[gQ]
theorem T8(p0:0<p)(hl:h.length=n):Rw p n (gQ p k h):=⟨by rw[qQ,hl],λx hx=>by
 obtain⟨y,_,rfl⟩:=dN.mp hx;exact⟨i6 _ (by lia),i7 _ p0⟩⟩
theorem Ck(hp:p∈cK){x:Int}(h0:x%p≠0):1≤cJ p (x%p)∧cJ p (x%p)<p∧cJ p (x%p)*x%p=1:=by
 have p0:0<p:=by have:=fK p hp;lia
 have a:=i6 x (show p≠0 by lia);have b:=i7 x p0;obtain⟨t1,t2,t3⟩:=sx hp (n:=x%p) (by lia) b;refine⟨t1,t2,?_⟩;rw[← t3,Int.mul_emod,Int.mul_emod (cJ p (x%p)) (x%p),Int.emod_emod]
theorem T9(hl:h.length=n)(j:Nat):p∣(gQ p k h).getD j 0-h.getD j 0*cJ p (h.getD k 0%p):=by
 by_cases hj:j<n
 ·rw[show gQ p k h=h.map λx=>x*cJ p (h.getD k 0%p)%p from rfl,G0 hl hj]
  exact lE _ _
 ·rw[dP,kc (by rw[qQ];lia),dP,kc (by lia)];exact⟨0,by simp⟩
theorem Ua(hp:p∈cK)(hh:Rw p n h)(h0:h.getD k 0≠0):gQ p k h=dG p n h k:=by
 have p0:0<p:=by have:=fK p hp;lia
 have b:=hh.at p0 k;have e:h.getD k 0%p=h.getD k 0:=Int.emod_eq_of_lt b.1 b.2;have t:=Ck hp (x:=h.getD k 0) (by rw[e];exact h0);exact Qs hp hh h0 t.1 t.2.1 t.2.2
theorem find_some{α:Type}{f:α→Bool}:∀{T:List α}{i:Nat},T.findIdx? f=some i→∃h,T[i]?=some h∧f h=true∧∀j q,j<i→T[j]?=some q→f q=false:=by
 intro T i e;rw[List.findIdx?_eq_some_iff_getElem]at e;obtain⟨hi,h1,h2⟩:=e;refine⟨T[i],cg hi,h1,λj q hj hq=>?_⟩;obtain⟨hl,rfl⟩:=dB.mp hq
 have:=h2 j hj
 simpa using this
theorem yS{α:Type}{T:List α}{i:Nat}{h d:α}(e:T[i]?=some h):T.getD i d=h:=by rw[dP,e];rfl
theorem vP(hp:p∈cK)(hL:Bw.d6 p n L):∀c,c≤n→ib p n L c (dS p 0 L c)
 |0,_=>.start hL
 |c+1,hc=>by
  have p0:0<p:=by have:=fK p hp;lia
  have I:=vP hp hL c (by lia);show ib p n L (c+1) (ir p (0+c) (dS p 0 L c));rw[oM];generalize dS p 0 L c=s at I;obtain⟨D,T⟩:=s;have Cm:∀r∈T,r.getD c 0%p=r.getD c 0:=λr hr=>Int.emod_eq_of_lt ((I.r r hr).at p0 c).1 ((I.r r hr).at p0 c).2;unfold ir;split
  ·rename_i e
   refine I.skip λr hr=>?_;rw[List.findIdx?_eq_none_iff]at e
   have:=e r hr
   rw[Cm r hr]at this;simpa using this
  ·rename_i i e
   obtain⟨h,hi,h1,h2⟩:=find_some e;have hm:=d8 hi;have IZ:h.getD c 0≠0:=by
    rw[Cm h hm]at h1;simpa using h1
   have S:=I.head hp (by lia) hi IZ (λj q hj hq=>by
    have:=h2 j q hj hq
    rw[Cm q (d8 hq)]at this;simpa using this)
   dsimp only at hi;dsimp only;rw[yS hi,Ua hp (I.r h hm) IZ];have iR:=x6 (place:=c) p0 (I.r h hm);have I0:∀{M:LL},Bw.d6 p n M→M.map (eD p (dG p n h c) c)=M.map (e7 p c (dG p n h c)):=λhM=>xj λr hr=>(Qr p0 iR (hM r hr)).symm;rw[I0 I.d,I0 (λr hr=>I.r r (uG hr))]at S;exact S
theorem yT(hp:p∈cK)(hL:Bw.d6 p n L):(dS p 0 L n).1=jh p L:=by
 have:=vP hp hL n (bH _)
 generalize dS p 0 L n=s at this;obtain⟨D,T⟩:=s;exact this.done hp hL
theorem Cn{j:Nat}{f:Fn}(hL:∀r∈L,p∣r.getD j 0)(h:Sp p (RS L) f):p∣f j:=by
 induction h with
 |zero=>exact⟨0,by simp⟩
 | @add v r c _ hr ih=>
  obtain⟨q,hq,rfl⟩:=hr;exact Int.dvd_add ih (Int.dvd_trans (hL q hq) ⟨c,by show c*q.getD j 0=_;rw[Int.mul_comm]⟩)
 | @iE u v _ e ih=>exact Qo ih (e j)
structure ku(p:Int)(n lo hi c:Nat)(L:LL)(T:LL):Prop where
 len:∀r∈T,r.length=n
 near:∀r∈T,∀x∈r,-p<x∧x<p
 pos:∀r∈T,∀j,(j<lo∨hi≤j)→0≤r.getD j 0
 sp:∀f:Fn,Sp p (RS T) f↔Sp p (RS L) f∧∀j,lo≤j→j<lo+c→p∣f j
theorem ku.start(h1:∀r∈L,r.length=n)(h2:∀r∈L,∀x∈r,-p<x∧x<p)(h3:∀r∈L,∀j,(j<lo∨hi≤j)→0≤r.getD j 0):ku p n lo hi 0 L L:=
 ⟨h1,h2,h3,λf=>⟨λh=>⟨h,λj a b=>absurd b (by lia)⟩,λh=>h.1⟩⟩
theorem yU(k:Nat){r h:List Int}(hr:r.length=n)(hh:h.length=n):kj p (λj=>fn r j + -(r.getD k 0)*fn h j) (fn (e7 p k h r)):=Gu _ hr hh
theorem ku.step(hp:p∈cK){c:Nat}(I:ku p n lo hi c L T){i:Nat}{h:List Int}(gM:T[i]?=some h)(h0:h.getD (lo+c) 0%p≠0) :
  ku p n lo hi (c+1) L ((T.eraseIdx i).map (e7 p (lo+c) (gQ p (lo+c) h))):=by
 have p0:0<p:=by have:=fK p hp;lia
 have hm:=d8 gM;have hl:=I.len h hm;have t:=Ck hp h0;have ea:=λj=>T9 (p:=p) (k:=lo+c) hl j;have sl:(gQ p (lo+c) h).length=n:=by rw[qQ,hl]
 generalize hk:lo+c=k at h0 t ea sl ⊢;generalize cJ p (h.getD k 0%p)=u at t ea;have one:p∣(gQ p k h).getD k 0-1:=by
  obtain⟨a,ha⟩:=ea k;obtain⟨b,hb⟩:=lE p (u*h.getD k 0);rw[t.2.2]at hb;exact⟨a-b,by grind⟩
 generalize gQ p k h=hd at ea sl one;have Co:∀r∈T.eraseIdx i,Rw p n (e7 p k hd r):=λr hr=>vg _ p0 (I.len r (uG hr)) sl;refine⟨λr hr=>?_,λr hr x hx=>?_,λr hr j _=>?_,λf=>?_⟩
 ·obtain⟨q,hq,rfl⟩:=dN.mp hr;exact(Co q hq).1
 ·obtain⟨q,hq,rfl⟩:=dN.mp hr
  have:=(Co q hq).2 x hx
  lia
 ·obtain⟨q,hq,rfl⟩:=dN.mp hr;exact((Co q hq).at p0 j).1
 ·have Ub:Sp p (RS T) (fn hd):=.iE (Sp.add u .zero ⟨h,hm,rfl⟩) λj=>by
   obtain⟨a,ha⟩:=ea j;refine⟨-a,?_⟩;show 0+u*h.getD j 0-hd.getD j 0=_
   grind
  constructor
  ·intro hf;have hT:Sp p (RS T) f:=hf.trans λg hg=>by
    obtain⟨q,hq,rfl⟩:=hg;obtain⟨r,hr,rfl⟩:=dN.mp hq;have uc:=uG hr;exact .iE (Sp.plus _ (.mem ⟨r,uc,rfl⟩) Ub) (yU k (I.len r uc) sl)
   obtain⟨z1,z2⟩:=(I.sp f).mp hT;refine⟨z1,λj h1 h2=>?_⟩;by_cases hj:j<lo+c
   ·exact z2 j h1 hj
   ·have:j=k:=by lia
    subst this;refine Cn (λq hq=>?_) hf;obtain⟨r,hr,rfl⟩:=dN.mp hq;have uc:=uG hr;obtain⟨a,ha⟩:=yU (p:=p) j (I.len r uc) sl j;obtain⟨b,hb⟩:=one;have ox:r.getD j 0 + -(r.getD j 0)*hd.getD j 0-(e7 p j hd r).getD j 0=p*a:=ha;exact⟨-a-b*r.getD j 0,by grind⟩
  ·rintro⟨z1,z2⟩;have hT:=(I.sp f).mpr ⟨z1,λj h1 h2=>z2 j h1 (by lia)⟩;have fk:p∣f k:=z2 k (by lia) (by lia);have key:∀{g:Fn},Sp p (RS T) g→∃(c:Int)(t:Fn),Sp p (RS ((T.eraseIdx i).map (e7 p k hd))) t∧kj p (λj=>t j+c*hd.getD j 0) g:=by
    intro g hg;induction hg with
    |zero=>exact⟨0,_,.zero,λj=>⟨0,by simp⟩⟩
    | @add v q c0 _ hq ih=>
     obtain⟨c1,t1,ht,e1⟩:=ih;obtain⟨r,hr,rfl⟩:=hq;by_cases Ja:r=h
     ·subst Ja;refine⟨c1+c0*r.getD k 0,t1,ht,λj=>?_⟩;obtain⟨a,ha⟩:=e1 j;obtain⟨b,hb⟩:=ea j;obtain⟨d,xm⟩:=lE p (u*r.getD k 0);rw[t.2.2]at xm;refine⟨a+c0*r.getD k 0*b-c0*r.getD j 0*d,?_⟩;show t1 j+(c1+c0*r.getD k 0)*hd.getD j 0-(v j+c0*r.getD j 0)=_;have ox:t1 j+c1*hd.getD j 0-v j=p*a:=ha
      grind
     ·have Uc:r∈T.eraseIdx i:=by
       obtain⟨m,vO⟩:=List.getElem?_of_mem hr;refine List.mem_eraseIdx_iff_getElem?.mpr ⟨m,?_,vO⟩;rintro rfl;rw[gM]at vO;exact Ja (eM vO).symm
      refine⟨c1+c0*r.getD k 0,λj=>t1 j+c0*(e7 p k hd r).getD j 0,Sp.add c0 ht ⟨_,dN.mpr ⟨r,Uc,rfl⟩,rfl⟩,λj=>?_⟩;obtain⟨a,ha⟩:=e1 j;obtain⟨b,hb⟩:=yU (p:=p) k (I.len r hr) sl j;have ox:t1 j+c1*hd.getD j 0-v j=p*a:=ha;have mO:r.getD j 0 + -(r.getD k 0)*hd.getD j 0-(e7 p k hd r).getD j 0=p*b:=hb;refine⟨a-c0*b,?_⟩;show t1 j+c0*(e7 p k hd r).getD j 0+(c1+c0*r.getD k 0)*hd.getD j 0-(v j+c0*r.getD j 0)=_
      grind
    | @iE u' v' _ e ih=>
     obtain⟨c1,t1,ht,e1⟩:=ih;exact⟨c1,t1,ht,e1.trans e⟩
   obtain⟨c1,t1,ht,e1⟩:=key hT;have tk:p∣t1 k:=Cn (λq hq=>by
    obtain⟨r,hr,rfl⟩:=dN.mp hq;have uc:=uG hr;obtain⟨a,ha⟩:=yU (p:=p) k (I.len r uc) sl k;obtain⟨b,hb⟩:=one;have ox:r.getD k 0 + -(r.getD k 0)*hd.getD k 0-(e7 p k hd r).getD k 0=p*a:=ha;exact⟨-a-b*r.getD k 0,by grind⟩) ht
   have Ud:p∣c1:=by
    obtain⟨a,ha⟩:=e1 k;obtain⟨b,hb⟩:=tk;obtain⟨d,xm⟩:=one;obtain⟨e,he⟩:=fk;have ox:t1 k+c1*hd.getD k 0-f k=p*a:=ha;exact⟨a+e-b-c1*d,by grind⟩
   refine .iE ht λj=>?_;obtain⟨a,ha⟩:=e1 j;obtain⟨b,hb⟩:=Ud;have ox:t1 j+c1*hd.getD j 0-f j=p*a:=ha;exact⟨a-b*hd.getD j 0,by grind⟩
theorem ku.skip{c:Nat}(I:ku p n lo hi c L T)(h0:∀r∈T,r.getD (lo+c) 0%p=0):ku p n lo hi (c+1) L T:=
 ⟨I.len,I.near,I.pos,λf=>⟨λhf=>by
  obtain⟨z1,z2⟩:=(I.sp f).mp hf;refine⟨z1,λj h1 h2=>?_⟩;by_cases hj:j<lo+c
  ·exact z2 j h1 hj
  ·obtain rfl:j=lo+c:=by lia
   exact Cn (λr hr=>Int.dvd_of_emod_eq_zero (h0 r hr)) hf,λh=>(I.sp f).mpr ⟨h.1,λj a b=>h.2 j a (by lia)⟩⟩⟩
theorem yV(hp:p∈cK){lo hi:Nat}(h:ku p n lo hi 0 L L):∀c,ku p n lo hi c L (dS p lo L c).2
 |0=>h
 |c+1=>by
  have I:=yV hp h c;show ku p n lo hi (c+1) L (ir p (lo+c) (dS p lo L c)).2;generalize dS p lo L c=s at I;obtain⟨D,T⟩:=s;unfold ir;split
  ·rename_i e
   refine I.skip λr hr=>?_;rw[List.findIdx?_eq_none_iff]at e
   have:=e r hr
   simpa using this
  ·rename_i i e
   obtain⟨h,hi,h1,h2⟩:=find_some e;dsimp only at hi;dsimp only;rw[yS hi];exact I.step hp hi (by simpa using h1)
end
end D1
namespace S21
open PySem L2 Bw
variable{H:Hp}{L:LL}{LS:List V}{N:Addr→Prop}{n:Nat}{p:Int}
theorem Jb:(["row"]:List Str).Nodup:=by decide +kernel
theorem Ue:(["row","p","place"]:List Str).Nodup:=by decide +kernel
theorem Ug:(["number","by","p"]:List Str).Nodup:=by decide +kernel
theorem Jc:(["row","head","p","place"]:List Str).Nodup:=by decide +kernel
def Rn(p:Int)(n:Nat)(r:List Int):Prop:=r.length=n∧∀x∈r,-p<x∧x<p
theorem Rn.at{r:List Int}(p0:0<p)(h:Rn p n r)(j:Nat):-p<r.getD j 0∧r.getD j 0<p:=by
 rw[dP];cases e:r[j]? with
 |none=>exact⟨by show -p<0;lia,by show 0<p;lia⟩
 |some x=>exact h.2 x (d8 e)
theorem Rn.of{r:List Int}(h:Rw p n r):Rn p n r:=⟨h.1,λx hx=>by have:=h.2 x hx;lia⟩
theorem _root_.L2.LR.weak{N':Addr→Prop}(h:LR N H LS L)(k:∀a,N a→N' a):LR N' H LS L:=⟨h.1,λi v r e1 e2=>by
 obtain⟨a,e,n,g⟩:=h.2 i v r e1 e2;exact⟨a,e,k a n,g⟩⟩
theorem _root_.L2.LR.get'{i:Nat}{v:V}(h:LR N H LS L)(e:LS[i]?=some v):∃a r,v=.ref a∧L[i]?=some r∧N a∧H a=some (.lst (r.map V.int)):=by
 have hi:i<L.length:=by rw[← h.1];exact(dB.mp e).1
 obtain⟨a,e2,n,g⟩:=h.2 i v _ e (cg hi);exact⟨a,_,e2,cg hi,n,g⟩
theorem _root_.L2.LR.del(h:LR N H LS L)(i:Nat):LR N H (LS.eraseIdx i) (L.eraseIdx i):=⟨by rw[List.length_eraseIdx,List.length_eraseIdx,h.1],λj v r e1 e2=>by
 rw[List.getElem?_eraseIdx]at e1 e2;split at e1
 ·rename_i hj
  rw[af hj]at e2;exact h.2 j v r e1 e2
 ·rename_i hj
  rw[ag hj]at e2;exact h.2 (j+1) v r e1 e2⟩
theorem Jd{la lh:Addr}{k:Nat}{h:List Int}{Q:VK}{te:TE}(p2:2≤p)(gi:p≤97)(hn:n≤900)(hk:k<n)(g:H la=some (.lst LS))(hL:LR N H LS L)(hR:∀r∈L,Rn p n r)(gh:H lh=some (.lst (h.map V.int)))(hh:h.length=n)(hz:LS.length≤1000)
  (Cp:∀(x:Addr)(H1:Hp)(R:VK),yN K [.int p,.ref x,.ref lh,.int (k:Int)] H1 R (λ_ _ _=>False)→te [some (.ref x),some (.ref lh),some (.int p),some (.int (k:Int))] H1 R)
  (done:∀H' MS,aJ H H'→LR (λa=>H a=none) H' MS (L.map (e7 p k h))→∀l,H' l=none→Q (.ref l) (upd H' l (.lst MS))) :
  ∃W:Nat→Nat→St→Hp→List V→Prop,(∃m,W 0 m (List.replicate 1 none++[some (.ref lh),some (.int p),some (.int (k:Int))]) H [])∧ph (oV K la) (bo 0) mK te Q W:=by
 have ub:(1000:Nat)≤sizeLine:=by decide
 refine mX (xs:=LS) (cp:=[some (.ref lh),some (.int p),some (.int (k:Int))]) (λi H' zs=>LR (λa=>H a=none) H' zs ((L.take i).map (e7 p k h))) (.of g) (by lia) LR.nil
  (λi H' zs h=>by rw[h.1,br];exact nP _ _) ?_ ?_
 ·rintro i x H' zs gF sm h';obtain⟨a,r,rfl,hr,_,ga⟩:=hL.get' gF;have Je:=hR r (d8 hr);have hb:=Je.at (show 0<p by lia) k;refine ki (Cp a H' _ ⟨p,a,lh,r,h,n,k,(k:Int),rfl,rfl,p2,gi,hn,hk,sm _ _ ga,sm _ _ gh,Je.1,hh,by lia,by lia,λl H2 s2 Cq gl=>?_⟩);refine⟨⟨[_],rfl,rfl⟩,sm.trans s2,?_⟩;rw[jN,hr];show LR _ H2 _ ((L.take i++[r]).map (e7 p k h));rw[fe];exact(h'.mono s2).snoc (eE sm Cq) gl
 ·rintro H' zs sm h' l hl;rw[hL.1,mh]at h';exact done H' zs sm h' l hl
theorem Uh{lo c k:Nat}{x:V}(h:((List.range c).map λ(i:Nat)=>V.int ((lo+i:Nat):Int))[k]?=some x):k<c∧x=V.int ((lo+k:Nat):Int):=by
 rw[fj]at h;by_cases hk:k<c
 ·rw[List.getElem?_range hk]at h;exact⟨hk,(eM h).symm⟩
 ·rw[kc (by rw[List.length_range];lia)]at h;cases h
def LA(K:Frag)(H:Hp)(XS:List V)(rs:LL):Prop:=XS.length=rs.length∧∀(i:Nat)(v:V)(r:List Int),XS[i]?=some v→rs[i]?=some r→∃a,v=.ref a∧(cR K H a (r.map V.int)∨bQ K H a (r.map V.int))
theorem LA.get{K:Frag}{XS:List V}{rs:LL}{i:Nat}{v:V}(h:LA K H XS rs)(e:XS[i]?=some v):∃a r,v=.ref a∧rs[i]?=some r∧(cR K H a (r.map V.int)∨bQ K H a (r.map V.int)):=by
 have hi:i<rs.length:=by rw[← h.1];exact(dB.mp e).1
 obtain⟨a,e2,g⟩:=h.2 i v _ e (cg hi);exact⟨a,_,e2,cg hi,g⟩
theorem LA.of{K:Frag}{N:Addr→Prop}{H:Hp}{XS:List V}{rs:LL}(h:LR N H XS rs):LA K H XS rs:=⟨h.1,λi v r e1 e2=>by
 obtain⟨a,e,_,g⟩:=h.2 i v r e1 e2;exact⟨a,e,.inl (.of g)⟩⟩
def Ui(K:Frag):Sp:=λvs H Q _=>∃(p:Int)(a b:Addr)(XS:List V)(rs:LL)(n lo c:Nat),vs=[.int p,.ref a,.ref b]∧p∈cK∧H a=some (.lst XS)∧LA K H XS rs∧rs.length≤900∧n≤900∧(∀r∈rs,Rn p n r)∧lo+c≤n∧H b=some (.lst ((List.range c).map λ(i:Nat)=>V.int ((lo+i:Nat):Int)))∧
 ∀l f g FS GS H',aJ H H'→H l=none→H' l=some (.lst [.ref f,.ref g])→H f=none→H' f=some (.lst FS)→LR (λa=>H a=none) H' FS (D1.dS p lo rs c).1→H g=none→H' g=some (.lst GS)→LR (λa=>H a=none) H' GS (D1.dS p lo rs c).2→Q (.ref l) H'
def Cr(_K:Frag):Sp:=λvs H Q _=>∃(p:Int)(a b:Addr)(XS:List V)(rs:LL)(n lo c:Nat),vs=[.int p,.ref a,.ref b]∧p∈cK∧H a=some (.lst XS)∧LR (λ_=>True) H XS rs∧rs.length≤900∧n≤900∧(∀r∈rs,Rn p n r)∧lo+c≤n∧H b=some (.lst ((List.range c).map λ(i:Nat)=>V.int ((lo+i:Nat):Int)))∧
 ∀l f g FS GS H',aJ H H'→H l=none→H' l=some (.lst [.ref f,.ref g])→H f=none→H' f=some (.lst FS)→LR (λa=>H a=none) H' FS (D1.dS p lo rs c).1→H g=none→H' g=some (.lst GS)→LR (λa=>H a=none) H' GS (D1.dS p lo rs c).2→Q (.ref l) H'
noncomputable abbrev vQ:List Str:=["p","rows","places","left","found","place","some","head","by"]
theorem lQ:cY ["p","rows","places","left","found","place","some","head","by"] ["p","rows","places"] (bp kl):=dE rfl rfl rfl (by decide +kernel) rfl
theorem Cs{p:Int}(pp:p∈cK){n lo:Nat}{rs:LL}(h:∀r∈rs,Rn p n r):∀c,(∀r∈(D1.dS p lo rs c).1,Rn p n r)∧(∀r∈(D1.dS p lo rs c).2,Rn p n r)∧(D1.dS p lo rs c).1.length≤c∧(D1.dS p lo rs c).2.length≤rs.length
 |0=>⟨λr hr=>(nomatch hr),h,bH _,bH _⟩
 |c+1=>by
  have p0:0<p:=by have:=fK p pp;lia
  obtain⟨i1,i2,i3,i4⟩:=Cs pp (lo:=lo) h c;show(∀r∈(D1.ir p (lo+c) (D1.dS p lo rs c)).1,_)∧(∀r∈(D1.ir p (lo+c) (D1.dS p lo rs c)).2,_)∧(D1.ir p (lo+c) (D1.dS p lo rs c)).1.length≤_∧(D1.ir p (lo+c) (D1.dS p lo rs c)).2.length≤_;generalize D1.dS p lo rs c=s at i1 i2 i3 i4;obtain⟨D,T⟩:=s;unfold D1.ir;split
  ·exact⟨i1,i2,by lia,i4⟩
  ·rename_i i e
   obtain⟨hd,hi,h1,h2⟩:=D1.find_some e;dsimp only at hi i1 i2 i3 i4;dsimp only;rw[D1.yS hi];have sl:(D1.gQ p (lo+c) hd).length=n:=by rw[D1.qQ];exact(i2 hd (d8 hi)).1
   refine⟨λr hr=>?_,λr hr=>?_,by simp;lia,?_⟩
   ·rcases(dM.mp hr)with(hr|hr)
    ·obtain⟨q,hq,rfl⟩:=dN.mp hr;exact .of (vg _ p0 (i1 q hq).1 sl)
    ·rw[cX.mp hr];exact .of (D1.T8 p0 ((D1.qQ (p:=p) (k:=lo+c)).symm.trans sl))
   ·obtain⟨q,hq,rfl⟩:=dN.mp hr;exact .of (vg _ p0 (i2 q (uG hq)).1 sl)
   ·have:=D1.qQ (p:=p) (k:=0) (h:=[])
    rw[br,List.length_eraseIdx];split<;>lia
theorem Uj{f fL:Addr}{fd lO:FuncData}(F:cL K "_law_cleared" "_law_cleared" kl f fd)(T:Txt mg)
  (GL:bN P w K mg base bO 1 fL lO ["p","row","head","place"] (yN K)) (kL:Kp K fL) (bL:Binds K lO ["p","row","head","place"] []) (mL:Mg mg "_law_less" fL) :
  bN P w K mg base bO 2 f fd ["p","rows","places"] (Ui K):=by
 refine F.ok lQ (λvs H Q E h=>?_) (λcj A outer s H vs Q E hr h=>?_)
 ·obtain⟨p,a,b,XS,rs,n,lo,c,rfl,_⟩:=h;rfl
 ·obtain⟨p,a,b,XS,rs,n,lo,c,rfl,pp,ga,hX,hz,hn,hR,Ct,gb,q⟩:=h;obtain⟨p2,gi⟩:=fK p pp;have p0:0<p:=by lia
  have ub:(1000:Nat)≤sizeLine:=by decide
  have hu:=hr.units;have lJ:=Nat.lt_of_le_of_lt (Nat.add_le_add_left (show 2≤64 by decide) _) hu;have Uk:=hX.1;refine⟨_,ba (qp (i:=3) (N:=["row"]) (own:=1) (caps:=[]) rfl lQ.nd rfl rfl (gg K rfl (pv 1)) (show eZ vQ (bp kl) ["row"] 1 [] _ from .mk' (by decide +kernel)) (λ_ _ _ _ _=>cB (i:=0) Jb rfl (.inl rfl)) (λ_ _ _ _ _=>jw) (λ_ _ _ _ _=>jc (O6 K rfl) rfl T.list vd (aG (pv 0) aK))) (ba (bw (i:=4) lQ.nd rfl (.inl rfl) (bc aK)) (ba (ja jq rfl (gg K rfl (pv 2)) (cB (i:=5) lQ.nd rfl (Or.inr rfl)) (ba (qp (i:=6) (N:=["row","p","place"]) (own:=1) (caps:=[0,5]) rfl lQ.nd rfl rfl (gg K rfl (pv 3)) (show eZ vQ (bp kl) ["row","p","place"] 1 [0,5] _ from .mk' (by decide +kernel)) (λ_ _ _ _ _=>cB (i:=0) Ue rfl (.inl rfl)) (λ_ _ _ _ _=>A7 (cE xD (aU eC (bZ (cH K rfl) (pv 0) (pv 2) (λ_ _=>rfl)) (pv 1)) aY (cD _))) (λ_ _ _ _ _=>pv 0)) (bj (cS (cE (qq K rfl hu) (pv 6) (bc aK) (cD _)) (ba (bw (i:=7) lQ.nd rfl (Or.inr rfl) (bZ (cH K rfl) (pv 6) aY (λ_ _=>rfl))) (ba (jS (iP ke PySem.F.slot_list_remove PySem.F.type_list_remove (T5 lJ) (pv 3) (aG (pv 7) aK))) (ba (bw (i:=8) lQ.nd rfl (Or.inr rfl) aY) (ba (M0 jq (cE xD (aU eC (aU qe (pv 8) (bZ (cH K rfl) (pv 7) (pv 5) (λ_ _=>rfl))) (pv 0)) aY (cD _)) (bj (bw (i:=8) lQ.nd rfl (Or.inr rfl) (aU fu (pv 8) aY)))) (ba (bw (i:=7) lQ.nd rfl (Or.inr rfl) (mV (N:=["number","by","p"]) (own:=1) (caps:=[8,0]) rfl (gg K rfl (pv 7)) (show eZ vQ (bp kl) ["number","by","p"] 1 [8,0] _ from .mk' (by decide +kernel)) (λ_ _ _ _ _=>cB (i:=0) Ug rfl (.inl rfl)) (λ_ _ _ _ _=>jw) (λ_ _ _ _ _=>aU eC (aU qe (pv 0) (pv 1)) (pv 2)))) (ba (qp (i:=3) (N:=["row","head","p","place"]) (own:=1) (caps:=[7,0,5]) rfl lQ.nd rfl rfl (gg K rfl (pv 3)) (show eZ vQ (bp kl) ["row","head","p","place"] 1 [7,0,5] _ from .mk' (by decide +kernel)) (λ_ _ _ _ _=>cB (i:=0) Jc rfl (.inl rfl)) (λ_ _ _ _ _=>jw) (λ_ _ _ _ _=>cO GL hr rfl mL kL bL .nil cP (aG (pv 2) (aG (pv 0) (aG (pv 1) (aG (pv 3) aK)))))) (bj (bw (i:=4) lQ.nd rfl (.inl rfl) (aU bV (mV (N:=["row","head","p","place"]) (own:=1) (caps:=[7,0,5]) rfl (gg K rfl (pv 4)) (show eZ vQ (bp kl) ["row","head","p","place"] 1 [7,0,5] _ from .mk' (by decide +kernel)) (λ_ _ _ _ _=>cB (i:=0) Jc rfl (.inl rfl)) (λ_ _ _ _ _=>jw) (λ_ _ _ _ _=>cO GL hr rfl mL kL bL .nil cP (aG (pv 2) (aG (pv 0) (aG (pv 1) (aG (pv 3) aK)))))) (bc (aG (pv 7) aK)))))))))))
     dW)))) (bj (cA (bc (aG (pv 4) (aG (pv 3) aK))))))),?_⟩
  refine⟨_,rfl,a,rfl,⟨_,.of ga⟩,mX (cp:=[]) (λi H' zs=>LR (λa=>H a=none) H' zs (rs.take i)) (.of ga) (by lia) LR.nil (λi H' zs h=>by rw[h.1];exact nP _ _) ?_ ?_⟩
  ·rintro i x H1 zs hx sm h1;obtain⟨ra,r,rfl,nv,gr⟩:=hX.get hx;refine ki ⟨_,rfl,ra,_,rfl,gr.elim (λz=>.inl (sm.seq z)) (λz=>.inr (sm.cG z)),λl hl=>⟨⟨[_],rfl,rfl⟩,sm.trans (.upd hl),?_⟩⟩;rw[jN,nv];exact(h1.mono (.upd hl)).snoc (eE sm hl) aZ
  rintro H1 LS vq sI ll oz;rw[Uk,mh]at sI;refine⟨by decide,λld kx=>?_⟩;have vR:ld≠ll:=λz=>by rw[z,aZ]at kx;cases kx
  have vt:aJ H (upd (upd H1 ll (.lst LS)) ld (.lst [])):=(vq.trans (.upd oz)).trans (.upd kx);have vS:H ld=none:=eE (vq.trans (.upd oz)) kx;refine⟨_,rfl,b,rfl,⟨_,.of (vt _ _ gb)⟩,oY (xs:=(List.range c).map λ(i:Nat)=>V.int ((lo+i:Nat):Int)) (λk σ H'=>aJ H H'∧∃(ll ld:Addr)(LS DS:List V)(s5 s6 s7 s8:Option V),σ=[some (.int p),some (.ref a),some (.ref b),some (.ref ll),some (.ref ld),s5,s6,s7,s8]∧H ll=none∧H ld=none∧ld≠ll∧H' ll=some (.lst LS)∧LR (λa=>a≠ll∧H a=none) H' LS (D1.dS p lo rs k).2∧H' ld=some (.lst DS)∧LR (λa=>a≠ll∧H a=none) H' DS (D1.dS p lo rs k).1) ⟨vt,ll,ld,LS,[],_,_,_,_,rfl,eE vq oz,vS,vR,aJ.upd kx _ _ aZ,?_,aZ,LR.nil⟩ (λi σ H' _ ⟨sm,_⟩=>.of (sm _ _ gb)) ?_ ?_⟩
  ·refine((?_:LR (λa=>a≠ll∧H a=none) H1 LS rs).mono (.upd oz)).mono (.upd kx);exact⟨sI.1,λi v r e1 e2=>by
    obtain⟨x,e,hx,gx⟩:=sI.2 i v r e1 e2;exact⟨x,e,⟨λz=>(by rw[z,oz]at gx;cases gx),hx⟩,gx⟩⟩
  ·rintro k x σ H2 hx ⟨sm,ll,ld,LS,DS,s5,s6,s7,s8,rfl,yX,vS,vR,gL,hL,gD,hD⟩;obtain⟨hk,rfl⟩:=Uh hx;obtain⟨n1,n2,n3,n4⟩:=Cs pp (lo:=lo) hR k;have Ul:D1.dS p lo rs (k+1)=D1.ir p (lo+k) (D1.dS p lo rs k):=rfl;rw[Ul];generalize D1.dS p lo rs k=st at hL hD n1 n2 n3 n4;obtain⟨D,L⟩:=st;dsimp only at hL hD n1 n2 n3 n4;have Um:=hL.1;have Uo:=hD.1;have vT:lo+k<n:=by lia
   generalize hkk:lo+k=kk at vT ⊢;refine⟨_,rfl,ll,rfl,⟨_,.of gL⟩,mX (cp:=[some (.int p),some (.int (kk:Int))]) (λj H' zs=>zs.length≤j∧((zs=[]∧∀m q,m<j→L[m]?=some q→(q.getD kk 0%p != 0)=false)∨∃i h v t M,i<j∧L[i]?=some h∧(h.getD kk 0%p != 0)=true∧(∀m q,m<i→L[m]?=some q→(q.getD kk 0%p != 0)=false)∧LS[i]?=some v∧zs=v::t∧LR (λ_=>True) H' zs M)) (.of gL) (by lia) ⟨bH _,.inl ⟨rfl,λm q hm=>absurd hm (by lia)⟩⟩ (λj H' zs h=>h.1) ?_ ?_⟩
   ·rintro j x H' zs hx fN ⟨hzl,hP⟩;obtain⟨ra,r,rfl,iW,_,gr⟩:=hL.get' hx;have Up:kk<r.length:=by rw[(n2 r (d8 iW)).1];exact vT
    refine⟨_,rfl,_,rfl,ra,_,(kk:Int),_,rfl,rfl,.of (fN _ _ gr),cb (vw Up),_,rfl,_,_,rfl,rfl,p0,rfl,_,rfl,vx (λfg=>?_) (λheq=>?_)⟩
    ·have hf:(r.getD kk 0%p != 0)=true:=by
      have:¬r.getD kk 0%p=0:=λz=>fg (aj V.int z)
      simpa using this
     refine⟨_,rfl,⟨[_],rfl,rfl⟩,fN,by rw[bh];show zs.length+1≤_;lia,.inr ?_⟩;rcases hP with⟨rfl,h0⟩|⟨i,h,v,t,M,hi,e1,e2,e3,e4,rfl,e6⟩
     ·exact⟨j,r,.ref ra,[],[r],by lia,iW,hf,h0,hx,rfl,LR.nil.snoc trivial (fN _ _ gr)⟩
     ·exact⟨i,h,v,t++[.ref ra],M++[r],by lia,e1,e2,e3,e4,rfl,e6.snoc trivial (fN _ _ gr)⟩
    ·have hf:(r.getD kk 0%p != 0)=false:=by
      have:r.getD kk 0%p=0:=V.int.inj heq
      simpa using this
     refine⟨⟨[_],rfl,rfl⟩,fN,by lia,?_⟩;rcases hP with⟨rfl,h0⟩|⟨i,h,v,t,M,hi,e1,e2,e3,e4,rfl,e6⟩
     ·refine .inl ⟨rfl,λm q hm hq=>?_⟩;by_cases e:m=j
      ·subst e;rw[iW]at hq;cases hq;exact hf
      ·exact h0 m q (by lia) hq
     ·exact .inr ⟨i,h,v,t,M,by lia,e1,e2,e3,e4,rfl,e6⟩
   rintro H3 zs qR ⟨_,hP⟩ ls fb;have yY:aJ H2 (upd H3 ls (.lst zs)):=qR.trans (.upd fb);have g4:(upd H3 ls (.lst zs)) ls=some (.lst zs):=aZ;have Jf:H2 ls=none:=eE qR fb;have acm:ls≠ll:=λz=>by rw[z,gL]at Jf;cases Jf
   rcases hP with⟨rfl,h0⟩|⟨i,h,v,t,M,hi,e1,e2,e3,e4,rfl,e6⟩
   ·
    generalize upd H3 ls (.lst [])=H4 at yY g4 ⊢;have ef:L.findIdx? (λr=>r.getD kk 0%p != 0)=none:=by
     rw[List.findIdx?_eq_none_iff];intro r hr;obtain⟨m,hm⟩:=List.getElem?_of_mem hr;exact h0 m r (by rw[Um];exact(dB.mp hm).1) hm
    have vU:D1.ir p kk (D,L)=(D,L):=by
     unfold D1.ir;dsimp only;rw[ef]
    rw[vU];refine⟨_,rfl,by decide,λle jZ=>⟨.list [],.list [],.list (.of (aJ.upd jZ _ _ g4)) .nil,.list (.of aZ) .nil,rfl,rfl,_,rfl,Gf rfl ?_⟩⟩;have iX:=yY.trans (aJ.upd jZ (o:=.lst []));exact⟨sm.trans iX,ll,ld,LS,DS,_,_,_,_,rfl,yX,vS,vR,iX _ _ gL,hL.mono iX,iX _ _ gD,hD.mono iX⟩
   ·
    have Jg:LR (λ_=>True) (upd H3 ls (.lst (v::t))) (v::t) M:=e6.mono (.upd fb);generalize upd H3 ls (.lst (v::t))=H4 at yY g4 Jg ⊢;have ef:L.findIdx? (λr=>r.getD kk 0%p != 0)=some i:=by
     rw[List.findIdx?_eq_some_iff_getElem];obtain⟨Uq,rfl⟩:=dB.mp e1;exact⟨Uq,e2,λj hj=>by rw[e3 j _ hj (cg (by lia))];decide⟩
    have vU:D1.ir p kk (D,L)=(D.map (e7 p kk (D1.gQ p kk h))++[D1.gQ p kk h],(L.eraseIdx i).map (e7 p kk (D1.gQ p kk h))):=by
     unfold D1.ir;dsimp only;rw[ef];dsimp only;rw[D1.yS e1]
    rw[vU];refine⟨_,rfl,by decide,λle jZ=>⟨.list (M.map yf),.list [],.list (.of (aJ.upd jZ _ _ g4)) (Jg.mono (.upd jZ)).has,.list (.of aZ) .nil,Pz M,rfl,_,rfl,Hr ?_ ?_⟩⟩
    ·intro z;injection z with z
     have:=e6.1
     rw[List.length_eq_zero_iff.mpr (List.map_eq_nil_iff.mp z)]at this;cases this
    have iX:=yY.trans (aJ.upd jZ (o:=.lst []));have g5:=aJ.upd jZ (o:=.lst []) _ _ g4;generalize upd H4 le (.lst [])=H5 at iX g5 ⊢;obtain⟨ha,h',rfl,Jh,⟨Ur,nhH⟩,Ji⟩:=hL.get' e4;rw[e1]at Jh;cases Jh;have vV:=n2 h (d8 e1);have Us:kk<h.length:=by rw[vV.1];exact vT
    refine⟨_,rfl,ls,_,0,.ref ha,rfl,rfl,.of g5,cb (j:=0) rfl,?_⟩;refine⟨_,rfl,.inl ⟨rfl,_,cR.of (iX _ _ gL)⟩,_,rfl,ll,LS,L,i,ha,h,rfl,rfl,iX _ _ gL,(hL.mono iX).weak λ_ _=>trivial,e4,iX _ _ Ji,λm r hm iW=>⟨?_,?_⟩,?_⟩
    ·rw[vV.1,(n2 r (d8 iW)).1]
    ·rintro rfl
     have:=e3 m _ hm iW
     rw[e2]at this;cases this
    have ny:aJ H (upd H5 ll (.lst (LS.eraseIdx i))):=(sm.trans iX).write yX;have gA:(upd H5 ll (.lst (LS.eraseIdx i))) ll=some (.lst (LS.eraseIdx i)):=aZ;have yZ:(upd H5 ll (.lst (LS.eraseIdx i))) ha=some (.lst (h.map V.int)):=by rw[cC Ur];exact iX _ _ Ji
    have Jj:LR (λa=>a≠ll∧H a=none) (upd H5 ll (.lst (LS.eraseIdx i))) (LS.eraseIdx i) (L.eraseIdx i):=⟨(hL.del i).1,λj v r z1 z2=>by
     obtain⟨x,e,nx,gx⟩:=(hL.del i).2 j v r z1 z2;exact⟨x,e,nx,by rw[cC nx.1];exact iX _ _ gx⟩⟩
    have Jk:LR (λa=>a≠ll∧H a=none) (upd H5 ll (.lst (LS.eraseIdx i))) DS D:=⟨Uo,λj v r z1 z2=>by
     obtain⟨x,e,nx,gx⟩:=hD.2 j v r z1 z2;exact⟨x,e,nx,by rw[cC nx.1];exact iX _ _ gx⟩⟩
    have Cu:(upd H5 ll (.lst (LS.eraseIdx i))) ld=some (.lst DS):=by rw[cC vR];exact iX _ _ gD
    generalize upd H5 ll (.lst (LS.eraseIdx i))=H6 at ny gA yZ Jj Jk Cu ⊢;have h0:h.getD kk 0%p≠0:=by simpa using e2
    have qf:=D1.Ck pp h0;have Jl:D1.gQ p kk h=h.map λx=>x*cJ p (h.getD kk 0%p)%p:=rfl;have hbx:=vV.at p0 kk;have Cv:(D1.gQ p kk h).length=n:=by rw[D1.qQ];exact vV.1
    generalize cJ p (h.getD kk 0%p)=u at qf Jl;refine⟨λm σ H'=>∃bb:Int,H'=H6∧σ=[some (.int p),some (.ref a),some (.ref b),some (.ref ll),some (.ref ld),some (.int (kk:Int)),some (.ref ls),some (.ref ha),some (.int bb)]∧1≤bb∧bb≤u∧m=(u-bb).toNat,⟨_,1,rfl,rfl,by lia,by lia,rfl⟩,?_⟩;rintro m σ H' ⟨bb,rfl,rfl,b1,b2,rfl⟩;refine⟨_,rfl,_,rfl,_,rfl,ha,_,(kk:Int),_,rfl,rfl,.of yZ,cb (vw Us),_,_,rfl,rfl,.inl ⟨by lia,by lia⟩,_,rfl,_,_,rfl,rfl,p0,rfl,_,rfl,vx (λfg=>?_) (λheq=>?_)⟩
    ·have hbu:bb≠u:=λz=>fg (aj V.int (by rw[z];exact qf.2.2));refine⟨λσ' di=>di=H'∧σ'=[some (.int p),some (.ref a),some (.ref b),some (.ref ll),some (.ref ld),some (.int (kk:Int)),some (.ref ls),some (.ref ha),some (.int (bb+1))],?_,?_⟩
     ·rintro σ' di ⟨rfl,rfl⟩;exact⟨(u-(bb+1)).toNat,by lia,bb+1,rfl,rfl,by lia,by lia,rfl⟩
     ·exact⟨_,rfl,_,_,rfl,rfl,rfl,rfl⟩
    obtain rfl:bb=u:=Hs p0 (V.int.inj heq) qf.2.2 (by lia) (by lia) (by lia) qf.2.1;refine⟨_,rfl,ha,rfl,⟨_,.of yZ⟩,mX (cp:=[some (.int bb),some (.int p)]) (λj H' zs=>zs=((h.take j).map λy=>y*bb%p).map V.int) (.of yZ) (by rw[br,vV.1];lia) rfl (λj H' zs e=>by rw[e,br,br];exact nP _ _) ?_ ?_⟩
    ·rintro j y di zs hy fN rfl;rw[fj]at hy;cases f1:h[j]? with
     |none=>rw[f1]at hy;cases hy
     |some y'=>
      rw[f1]at hy;cases hy;refine ki ⟨_,rfl,_,rfl,_,_,rfl,rfl,.inr ⟨by lia,by lia⟩,_,rfl,_,_,rfl,rfl,p0,⟨[_],rfl,rfl⟩,fN,?_⟩;rw[jN,f1];simp
    rintro HA zs Jm rfl lh vW;rw[br,mh,← Jl];generalize D1.gQ p kk h=hd at Cv ⊢;have qS:aJ H' (upd HA lh (.lst (hd.map V.int))):=Jm.trans (.upd vW);have gC:(upd HA lh (.lst (hd.map V.int))) lh=some (.lst (hd.map V.int)):=aZ;have Ut:H lh=none:=eE (ny.trans Jm) vW;generalize upd HA lh (.lst (hd.map V.int))=HC at qS gC ⊢;have Uu:∀r∈L.eraseIdx i,Rn p n r:=λr hr=>n2 r (uG hr);refine⟨_,rfl,ll,rfl,⟨_,.of (qS _ _ gA)⟩,Jd p2 gi hn vT (qS _ _ gA) (Jj.mono qS) Uu gC Cv (by rw[List.length_eraseIdx];split<;>lia) (λx H1 R z=>⟨_,rfl,_,rfl,_,rfl,_,rfl,z⟩) ?_⟩
    rintro HD MS y0 hM lm om;have qT:aJ H' (upd HD lm (.lst MS)):=(qS.trans y0).trans (.upd om);have gE:(upd HD lm (.lst MS)) lm=some (.lst MS):=aZ;have Cw:(upd HD lm (.lst MS)) lh=some (.lst (hd.map V.int)):=aJ.upd om _ _ (y0 _ _ gC);have Jn:LR (λa=>a≠lm∧H a=none) (upd HD lm (.lst MS)) MS ((L.eraseIdx i).map (e7 p kk hd)):=⟨hM.1,λj v r z1 z2=>by
     obtain⟨x,e,nx,gx⟩:=hM.2 j v r z1 z2
     have:x≠lm:=λz=>by rw[z,om]at gx;cases gx
     exact⟨x,e,⟨this,eE (ny.trans qS) nx⟩,by rw[cC this];exact gx⟩⟩
    have Uv:H lm=none:=eE ((ny.trans qS).trans y0) om;have Uw:lh≠lm:=λz=>by
     have:=y0 _ _ gC
     rw[z,om]at this;cases this
    generalize upd HD lm (.lst MS)=HE at qT gE Cw Jn ⊢;refine⟨_,rfl,ld,rfl,⟨_,.of (qT _ _ Cu)⟩,Jd p2 gi hn vT (qT _ _ Cu) (Jk.mono qT) n1 Cw Cv (by lia) (λx H1 R z=>⟨_,rfl,_,rfl,_,rfl,_,rfl,z⟩) ?_⟩;rintro HF NS Jo hN l1 h1;have Ux:=hN.1;rw[br]at Ux;refine⟨_,rfl,(by show 1≤sizeLine;lia),λl2 h2=>⟨l1,l2,NS,[.ref lh],rfl,rfl,aJ.upd h2 _ _ aZ,aZ,by show NS.length+1≤sizeLine;lia,λl3 h3=>?_⟩⟩;have y3:aJ HE (upd (upd (upd HF l1 (.lst NS)) l2 (.lst [.ref lh])) l3 (.lst (NS++[.ref lh]))):=(Jo.trans (.upd h1)).trans ((aJ.upd h2).trans (.upd h3));have Uy:=qT.trans y3;have Cy:HE l3=none:=eE (Jo.trans ((aJ.upd h1).trans (aJ.upd h2))) h3;have Uz:l3≠lm:=λz=>by rw[z,gE]at Cy;cases Cy
    have UA:LR (λa=>a≠lm∧H a=none) HF NS (D.map (e7 p kk hd)):=⟨hN.1,λi v r e1 e2=>by
     obtain⟨x,e,hx,gx⟩:=hN.2 i v r e1 e2;have nx:x≠lm:=λz=>by rw[z,gE]at hx;cases hx
     exact⟨x,e,⟨nx,eE (ny.trans qT) hx⟩,gx⟩⟩
    refine⟨ny.trans Uy,lm,l3,MS,NS++[.ref lh],_,_,_,_,rfl,Uv,eE (ny.trans qT) Cy,Uz,y3 _ _ gE,Jn.mono y3,aZ,?_⟩;exact(UA.mono ((aJ.upd h1).trans ((aJ.upd h2).trans (.upd h3)))).snoc ⟨Uw,Ut⟩ (y3 _ _ Cw)
  ·rintro σ H2 ⟨sm,ll,ld,LS,DS,s5,s6,s7,s8,rfl,yX,vS,vR,gL,hL,gD,hD⟩;rw[br,List.length_range]at hL hD;refine⟨_,rfl,_,rfl,by show 2≤sizeLine;decide,λl hl=>?_⟩;exact q l ld ll DS LS _ (sm.trans (.upd hl)) (eE sm hl) aZ vS (aJ.upd hl _ _ gD) ((hD.mono (.upd hl)).weak λ_ z=>z.2) yX (aJ.upd hl _ _ gL) ((hL.mono (.upd hl)).weak λ_ z=>z.2)
theorem y4{f fL:Addr}{fd lO:FuncData}(F:cL K "_law_cleared" "_law_cleared" kl f fd)(T:Txt mg)
  (GL:bN P w K mg base bO 1 fL lO ["p","row","head","place"] (yN K)) (kL:Kp K fL) (bL:Binds K lO ["p","row","head","place"] []) (mL:Mg mg "_law_less" fL) :
  bN P w K mg base bO 2 f fd ["p","rows","places"] (Cr K):=(Uj F T GL kL bL mL).imp λvs H Q E h=>by
 obtain⟨p,a,b,XS,rs,n,lo,c,e,pp,ga,hX,r⟩:=h;exact⟨p,a,b,XS,rs,n,lo,c,e,pp,ga,.of hX,r⟩
end S21
namespace D1
open Bw
variable{A B:LL}{a:List Int}{g:List Int→List Int}{j m:Nat}
noncomputable def cs(A:LL)(j:Nat)(z:Fn):Int:=dI (A.map λr=>r.getD j 0) z
def ky(p:Int)(A:LL)(l r:Nat)(x y:Fn):Prop:=∃z:Fn,(∀j,j<l→eq p (x j) (cs A j z))∧∀j,j<r→eq p (y j) (cs A (l+j) z)
noncomputable def oA(l r:Nat)(x y:Fn):Fn:=λj=>if j<l then x j else if j<l+r then y (j-l)else 0
theorem UB{n:Nat}(h:∀r∈A,r.length=n)(hj:n≤j)(z:Fn):cs A j z=0:=Cg _ _ λa ha=>by
 obtain⟨r,hr,rfl⟩:=dN.mp ha;rw[dP,kc (by rw[h r hr];exact hj)];rfl
theorem lR{j':Nat}(h:∀r∈A,(g r).getD j 0=r.getD j' 0)(z:Fn):cs (A.map g) j z=cs A j' z:=by
 unfold cs;rw[List.map_map];exact aj (λl=>dI l z) (xj h)
theorem ud(h:∀r∈A,(g r).getD j 0=0)(z:Fn):cs (A.map g) j z=0:=Cg _ _ λa ha=>by
 obtain⟨q,hq,rfl⟩:=dN.mp ha;obtain⟨r,hr,rfl⟩:=dN.mp hq;exact h r hr
theorem Jp:∀(l:List Int)(z:Fn),dI (l.map λa=>-a) z=-dI l z
 | [],_=>rfl
 |a::l,z=>by
  show -a*z 0+dI (l.map λa=>-a) (sh 1 z)=-(a*z 0+dI l (sh 1 z));rw[Jp l,Int.neg_mul];lia
theorem UC{j':Nat}(h:∀r∈A,(g r).getD j 0=-(r.getD j' 0))(z:Fn):cs (A.map g) j z=-cs A j' z:=by
 unfold cs;rw[← Jp,List.map_map,List.map_map];exact aj (λl=>dI l z) (xj h)
theorem jB(A B:LL)(j:Nat)(z:Fn):cs (A++B) j z=cs A j z+cs B j (sh A.length z):=by
 unfold cs;rw[fe,IM,br]
theorem UD{p:Int}(h:∀r∈A,p∣r.getD j 0)(z:Fn):p∣cs A j z:=by
 have key:∀(l:List Int)(z:Fn),(∀a∈l,p∣a)→p∣dI l z:=λl=>by
  induction l with
  |nil=>intro z _;exact⟨0,by show(0:Int)=_;simp⟩
  |cons a l ih=>intro z hl;exact Int.dvd_add (Int.dvd_trans (hl a dv) ⟨z 0,rfl⟩) (ih _ λb hb=>hl b (eR _ hb))
 exact key _ z λa ha=>by
  obtain⟨r,hr,rfl⟩:=dN.mp ha;exact h r hr
noncomputable def iw(n:Nat)(u v:Fn):Fn:=λk=>if k<n then u k else v (k-n)
theorem y6(u v:Fn):cs A j (iw A.length u v)=cs A j u:=by
 have key:∀(l:List Int)(z z':Fn),(∀k,k<l.length→z k=z' k)→dI l z=dI l z':=λl=>by
  induction l with
  |nil=>intros;rfl
  |cons a l ih=>
   intro z z' h;show a*z 0+dI l (sh 1 z)=a*z' 0+dI l (sh 1 z');rw[h 0 (by simp),ih (sh 1 z) (sh 1 z') λk hk=>h (1+k) (by simp;lia)]
 exact key _ _ _ λk hk=>by
  rw[br]at hk;unfold iw;rw[af hk]
theorem y8(n:Nat)(u v:Fn):sh n (iw n u v)=v:=funext λk=>by
 unfold sh iw;rw[ag (by lia),show n+k-n=k by lia]
theorem y9{p:Int}{l r:Nat}(h:∀q∈A,q.length=l+r)(x y:Fn):Sp p (RS A) (oA l r x y)↔ky p A l r x y:=by
 rw[TR];constructor
 ·rintro⟨z,hz⟩;refine⟨z,λj hj=>?_,λj hj=>?_⟩
  ·have:=hz j
   unfold oA at this;rwa[af hj]at this
  ·have:=hz (l+j)
   unfold oA at this;rwa[ag (by lia),af (by lia),show l+j-l=j by lia]at this
 ·rintro⟨z,h1,h2⟩;refine⟨z,λj=>?_⟩;unfold oA;by_cases hj:j<l
  ·rw[af hj];exact h1 j hj
  ·rw[ag hj];by_cases Jq:j<l+r
   ·rw[af Jq]
    have:=h2 (j-l) (by lia)
    rwa[show l+(j-l)=j by lia]at this
   ·rw[ag Jq]
    have:=UB h (show l+r≤j by lia) z
    unfold cs at this;rw[this];exact .refl _ _
noncomputable def oB(l:Nat)(q:List Int):List Int:=q.drop l++q.take l
noncomputable def iH(l l' r':Nat)(q:List Int):List Int:=q.take l++List.replicate l' 0++q.drop l++List.replicate r' 0
noncomputable def iY(l r l':Nat)(q:List Int):List Int:=List.replicate l 0++q.take l'++List.replicate r 0++q.drop l'
noncomputable def j0(r:Nat)(q:List Int):List Int:=q++List.replicate r 0
noncomputable def kz(l m:Nat)(q:List Int):List Int:=List.replicate l 0++(q.take m).map (λx=>0-x)++q.drop m
noncomputable def ue(l m:Nat)(q:List Int):List Int:=q.take l++q.drop (l+m)
noncomputable def iy(l m r:Nat)(A B:LL):LL:=A.map (j0 r)++B.map (kz l m)
noncomputable def j4(p:Int)(l m r:Nat)(A B:LL):LL:=(dS p l (iy l m r A B) m).2.map (ue l m)
noncomputable def vX(p:Int)(l m r:Nat)(A B:LL):LL:=(dS p 0 (j4 p l m r A B) (l+r)).1
namespace Dr
noncomputable def cq(p:Int):Dr→LL
 |id=>[[1,1]] | swap=>[[1,0,0,1],[0,1,1,0]] | copy=>[[1,1,1]] | fin=>[[1]] | add=>[[1,0,1],[0,1,1]] | none=>[] | ig=>[[1,1]] | empty=>[]
 |times n=>[[1,n]]
 |back d=>(d.cq p).map (oB d.l)
 |bf a b=>(a.cq p).map (iH a.l b.l b.r)++(b.cq p).map (iY a.l a.r b.l)
 |aM a b=>vX p a.l a.r b.r (a.cq p) (b.cq p)
end Dr
section
variable{p:Int}
theorem gR{b:List Int}:(a++b).getD j 0=if j<a.length then a.getD j 0 else b.getD (j-a.length) 0:=by
 rw[dP,List.getElem?_append];split<;>rw[dP]
theorem vY{k:Nat}:(a.take k).getD j 0=if j<k then a.getD j 0 else 0:=by
 rw[dP,List.getElem?_take];split
 ·rw[dP]
 ·rfl
theorem qU{k:Nat}:(a.drop k).getD j 0=a.getD (k+j) 0:=by
 rw[dP,List.getElem?_drop,dP]
theorem kD{k:Nat}:(List.replicate k (0:Int)).getD j 0=0:=by
 rw[dP,List.getElem?_replicate];split<;>rfl
theorem UE{l r:Nat}(h:∀q∈A,q.length=l+r)(x y:Fn):ky p (A.map (oB l)) r l x y↔ky p A l r y x:=by
 have c1:∀j,j<r→∀z,cs (A.map (oB l)) j z=cs A (l+j) z:=λj hj z=>lR (λq hq=>by
  unfold oB;rw[gR,af (by rw[eF,h q hq];lia),qU]) z
 have c2:∀j,j<l→∀z,cs (A.map (oB l)) (r+j) z=cs A j z:=λj hj z=>lR (λq hq=>by
  unfold oB;rw[gR,ag (by rw[eF,h q hq];lia),vY,eF,h q hq,show r+j-(l+r-l)=j by lia,af hj]) z
 constructor
 ·rintro⟨z,h1,h2⟩;exact⟨z,λj hj=>c2 j hj z▸h2 j hj,λj hj=>c1 j hj z▸h1 j hj⟩
 ·rintro⟨z,h1,h2⟩;exact⟨z,λj hj=>(c1 j hj z).symm▸h2 j hj,λj hj=>(c2 j hj z).symm▸h1 j hj⟩
theorem UG{l r l' r':Nat}(h:∀q∈A,q.length=l+r)(h':∀q∈B,q.length=l'+r')(x y:Fn) :
  ky p (A.map (iH l l' r')++B.map (iY l r l')) (l+l') (r+r') x y↔ky p A l r x y∧ky p B l' r' (sh l x) (sh r y):=by
 have a1:∀j,j<l→∀z,cs (A.map (iH l l' r')) j z=cs A j z:=λj hj z=>lR (λq hq=>by
  have:=h q hq
  unfold iH;simp only[gR,vY,bh,dD,eA,eF];rw[af (by lia),af (by lia),af (by lia),af hj]) z
 have a2:∀j,j<l'→∀z,cs (A.map (iH l l' r')) (l+j) z=0:=λj hj z=>ud (λq hq=>by
  have:=h q hq
  unfold iH;simp only[gR,kD,bh,dD,eA,eF];rw[af (by lia),af (by lia),ag (by lia)]) z
 have a3:∀j,j<r→∀z,cs (A.map (iH l l' r')) (l+l'+j) z=cs A (l+j) z:=λj hj z=>lR (λq hq=>by
  have:=h q hq
  unfold iH;simp only[gR,kD,qU,bh,dD,eA,eF];rw[af (by lia),ag (by lia)]
  congr 1
  lia) z
 have a4:∀j,j<r'→∀z,cs (A.map (iH l l' r')) (l+l'+(r+j)) z=0:=λj hj z=>ud (λq hq=>by
  have:=h q hq
  unfold iH;simp only[gR,kD,qU,bh,dD,eA,eF];rw[ag (by lia)]) z
 have b1:∀j,j<l→∀z,cs (B.map (iY l r l')) j z=0:=λj hj z=>ud (λq hq=>by
  have:=h' q hq
  unfold iY;simp only[gR,kD,bh,dD,eA,eF];rw[af (by lia),af (by lia),af (by lia)]) z
 have b2:∀j,j<l'→∀z,cs (B.map (iY l r l')) (l+j) z=cs B j z:=λj hj z=>lR (λq hq=>by
  have:=h' q hq
  unfold iY;simp only[gR,kD,vY,bh,dD,eA,eF];rw[af (by lia),af (by lia),ag (by lia),show l+j-l=j by lia,af hj]) z
 have b3:∀j,j<r→∀z,cs (B.map (iY l r l')) (l+l'+j) z=0:=λj hj z=>ud (λq hq=>by
  have:=h' q hq
  unfold iY;simp only[gR,kD,vY,bh,dD,eA,eF];rw[af (by lia),ag (by lia)]) z
 have b4:∀j,j<r'→∀z,cs (B.map (iY l r l')) (l+l'+(r+j)) z=cs B (l'+j) z:=λj hj z=>lR (λq hq=>by
  have:=h' q hq
  unfold iY;simp only[gR,kD,qU,bh,dD,eA,eF];rw[ag (by lia)]
  congr 1
  lia) z
 constructor
 ·rintro⟨z,h1,h2⟩;refine⟨⟨z,λj hj=>?_,λj hj=>?_⟩,⟨sh A.length z,λj hj=>?_,λj hj=>?_⟩⟩
  ·have:=h1 j (by lia)
   rwa[jB,a1 j hj,b1 j hj,pY]at this
  ·have:=h2 j (by lia)
   rwa[jB,a3 j hj,b3 j hj,pY]at this
  ·have:=h1 (l+j) (by lia)
   rwa[jB,a2 j hj,b2 j hj,jO,br]at this
  ·have:=h2 (r+j) (by lia)
   rwa[jB,a4 j hj,b4 j hj,jO,br]at this
 ·rintro⟨⟨z,h1,h2⟩,⟨z',h3,h4⟩⟩;refine⟨iw A.length z z',λj hj=>?_,λj hj=>?_⟩
  ·by_cases qV:j<l
   ·rw[jB,a1 j qV,b1 j qV,pY,y6];exact h1 j qV
   ·have:=h3 (j-l) (by lia)
    rw[show j=l+(j-l) by lia,jB,a2 _ (by lia),b2 _ (by lia),jO,br,y8];exact this
  ·by_cases qV:j<r
   ·rw[jB,a3 j qV,b3 j qV,pY,y6];exact h2 j qV
   ·have:=h4 (j-r) (by lia)
    rw[show j=r+(j-r) by lia,jB,a4 _ (by lia),b4 _ (by lia),jO,br,y8];exact this
theorem za{l r:Nat}(p0:0<p)(h:Bw.d6 p (l+m) A)(h':Bw.d6 p (m+r) B):ku p (l+m+r) l (l+m) 0 (iy l m r A B) (iy l m r A B):=by
 refine .start (λq hq=>?_) (λq hq x hx=>?_) (λq hq j hj=>?_);all_goals rcases(dM.mp hq)with(nz|nz)
 all_goals clear hq
 all_goals obtain⟨q,hq,rfl⟩:=dN.mp nz
 all_goals clear nz
 ·have:=(h q hq).1
  simp only[j0,bh,eA];lia
 ·have:=(h' q hq).1
  simp only[kz,bh,eA,br,dD,eF];lia
 ·unfold j0 at hx;rcases(dM.mp hx)with(hx|hx)
  ·have:=(h q hq).2 x hx
   lia
  ·have:=(List.mem_replicate.mp hx).2
   lia
 ·unfold kz at hx;rcases(dM.mp hx)with(hx|hx)
  ·rcases(dM.mp hx)with(hx|hx)
   ·have:=(List.mem_replicate.mp hx).2
    lia
   ·obtain⟨u,hu,rfl⟩:=dN.mp hx
    have:=(h' q hq).2 u (List.mem_of_mem_take hu)
    lia
  ·have:=(h' q hq).2 x (List.mem_of_mem_drop hx)
   lia
 ·unfold j0;rw[gR,kD];split
  ·exact((h q hq).at p0 j).1
  ·lia
 ·have hl:=(h' q hq).1;unfold kz;simp only[gR,kD,qU,bh,br,dD,eA];rcases hj with hj|hj
  ·rw[af (by lia),af (by lia)];lia
  ·rw[ag (by lia)];exact((h' q hq).at p0 _).1
theorem uf{l r:Nat}(pp:p∈cK)(h:Bw.d6 p (l+m) A)(h':Bw.d6 p (m+r) B):Bw.d6 p (l+r) (j4 p l m r A B):=by
 have p0:0<p:=by have:=fK p pp;lia
 have S:=yV pp (za p0 h h') m;intro q0 nz;obtain⟨q,hq,rfl⟩:=dN.mp nz;clear nz;have hl:=S.len q hq;refine⟨by simp only[ue,bh,dD,eF];lia,λx hx=>?_⟩;unfold ue at hx;rcases(dM.mp hx)with(hx|hx)
 ·obtain⟨i,hi,rfl⟩:=rC.mp hx;rw[dD]at hi;rw[List.getElem_take];have h1:=S.near q hq _ (kQ (show i<q.length by lia));have h2:=S.pos q hq i (.inl (by lia));rw[dP,cg (show i<q.length by lia)]at h2;exact⟨h2,h1.2⟩
 ·obtain⟨i,hi,rfl⟩:=rC.mp hx;rw[eF]at hi;rw[List.getElem_drop];have h1:=S.near q hq _ (kQ (show l+m+i<q.length by lia));have h2:=S.pos q hq (l+m+i) (.inr (by lia));rw[dP,cg (show l+m+i<q.length by lia)]at h2;exact⟨h2,h1.2⟩
theorem Jr{l r:Nat}(pp:p∈cK)(h:Bw.d6 p (l+m) A)(h':Bw.d6 p (m+r) B):vX p l m r A B=jh p (j4 p l m r A B):=yT pp (uf pp h h')
theorem UH{l r:Nat}(pp:p∈cK)(h:Bw.d6 p (l+m) A)(h':Bw.d6 p (m+r) B)(x y:Fn) :
  ky p (vX p l m r A B) l r x y↔∃z,ky p A l m x z∧ky p B m r z y:=by
 have p0:0<p:=by have:=fK p pp;lia
 have hT:=uf pp h h';have R:=Bq pp hT;have S:=yV pp (za p0 h h') m;rw[Jr pp h h',← y9 (λq hq=>(R.rws q hq).1),(⟨yl R.sub,yl R.sup⟩:Sp p (RS (jh p (j4 p l m r A B))) (oA l r x y)↔Sp p (RS (j4 p l m r A B)) (oA l r x y)),y9 (λq hq=>(hT q hq).1)];have t1:∀j,j<l→∀z,cs (j4 p l m r A B) j z=cs (dS p l (iy l m r A B) m).2 j z:=λj hj z=>lR (λq hq=>by
  have:=S.len q hq
  unfold ue;rw[gR,vY,af (by rw[dD];lia),af hj]) z
 have t2:∀j,j<r→∀z,cs (j4 p l m r A B) (l+j) z=cs (dS p l (iy l m r A B) m).2 (l+m+j) z:=λj hj z=>lR (λq hq=>by
  have:=S.len q hq
  unfold ue;rw[gR,qU,ag (by rw[dD];lia),dD]
  congr 1
  lia) z
 have t3:∀j,j<m→∀z,p∣cs (dS p l (iy l m r A B) m).2 (l+j) z:=λj hj z=>UD (λq hq=>((S.sp (fn q)).mp (.mem ⟨q,hq,rfl⟩)).2 (l+j) (by lia) (by lia)) z;have a1:∀j,j<l→∀z,cs (A.map (j0 r)) j z=cs A j z:=λj hj z=>lR (λq hq=>by
  have:=(h q hq).1
  unfold j0;rw[gR,af (by lia)]) z
 have a2:∀j,j<m→∀z,cs (A.map (j0 r)) (l+j) z=cs A (l+j) z:=λj hj z=>lR (λq hq=>by
  have:=(h q hq).1
  unfold j0;rw[gR,af (by lia)]) z
 have a3:∀j,j<r→∀z,cs (A.map (j0 r)) (l+m+j) z=0:=λj hj z=>ud (λq hq=>by
  have:=(h q hq).1
  unfold j0;rw[gR,ag (by lia),kD]) z
 have b1:∀j,j<l→∀z,cs (B.map (kz l m)) j z=0:=λj hj z=>ud (λq hq=>by
  unfold kz;simp only[gR,kD,bh,br,dD,eA];rw[af (by lia),af (by lia)]) z
 have b2:∀j,j<m→∀z,cs (B.map (kz l m)) (l+j) z=-cs B j z:=λj hj z=>UC (λq hq=>by
  have hl:=(h' q hq).1;unfold kz;simp only[gR,kD,bh,br,dD,eA];rw[af (by lia),ag (by lia),show l+j-l=j by lia,dP,fj,List.getElem?_take,af hj,cg (by lia),dP,cg (by lia)];exact Int.zero_sub _) z
 have b3:∀j,j<r→∀z,cs (B.map (kz l m)) (l+m+j) z=cs B (m+j) z:=λj hj z=>lR (λq hq=>by
  have hl:=(h' q hq).1;unfold kz;simp only[gR,qU,bh,br,dD,eA];rw[ag (by lia)]
  congr 1
  lia) z
 have UI:∀q∈iy l m r A B,q.length=l+m+r:=(za p0 h h').len
 let f:Fn:=oA l (m+r) x (iw m (λ_=>0) y)
 have fz:∀j,l≤j→j<l+m→p∣f j:=λj h1 h2=>⟨0,by
  show oA l (m+r) x (iw m (λ_=>0) y) j=_;unfold oA iw;rw[ag (by lia),af (by lia),af (by lia)];simp⟩
 have e1:ky p (j4 p l m r A B) l r x y↔Sp p (RS (dS p l (iy l m r A B) m).2) f:=by
  rw[y9 (λq hq=>by rw[S.len q hq];lia)];constructor
  ·rintro⟨z,h1,h2⟩;refine⟨z,λj hj=>t1 j hj z▸h1 j hj,λj hj=>?_⟩;unfold iw;by_cases hm:j<m
   ·rw[af hm];exact eq.symm (show p∣_-0 by rw[Int.sub_zero];exact t3 j hm z)
   ·rw[ag hm]
    have:=h2 (j-m) (by lia)
    rwa[t2 _ (by lia),show l+m+(j-m)=l+j by lia]at this
  ·rintro⟨z,h1,h2⟩;refine⟨z,λj hj=>(t1 j hj z).symm▸h1 j hj,λj hj=>?_⟩
   have:=h2 (m+j) (by lia)
   unfold iw at this;rw[ag (by lia),show m+j-m=j by lia,show l+(m+j)=l+m+j by lia]at this;rw[t2 j hj];exact this
 rw[e1,S.sp f,y9 (λq hq=>by rw[UI q hq];lia)];constructor
 ·rintro⟨⟨z,h1,h2⟩,_⟩;have two:∀j,j<m→eq p (cs A (l+j) z) (cs B j (sh A.length z)):=λj hj=>by
   have:=h2 j (by lia)
   unfold iw at this;rw[af hj,show cs (iy l m r A B) (l+j) z=_ from jB _ _ _ _,a2 j hj,b2 j hj,br]at this
   obtain⟨c,hc⟩:=this;have iL:(0:Int)-(cs A (l+j) z + -cs B j (sh A.length z))=p*c:=hc;exact⟨-c,by rw[Int.mul_neg,← iL];lia⟩
  refine⟨λj=>cs A (l+j) z,⟨z,λj hj=>?_,λj hj=>.refl _ _⟩,⟨sh A.length z,λj hj=>two j hj,λj hj=>?_⟩⟩
  ·have:=h1 j hj
   rwa[show cs (iy l m r A B) j z=_ from jB _ _ _ _,a1 j hj,b1 j hj,pY]at this
  ·have:=h2 (m+j) (by lia)
   unfold iw at this;rwa[ag (by lia),show m+j-m=j by lia,show l+(m+j)=l+m+j by lia,show cs (iy l m r A B) (l+m+j) z=_ from jB _ _ _ _,a3 j hj,b3 j hj,jO,br]at this
 ·rintro⟨w,⟨z,h1,h2⟩,⟨z',h3,h4⟩⟩;refine⟨⟨iw A.length z z',λj hj=>?_,λj hj=>?_⟩,fz⟩
  ·rw[show cs (iy l m r A B) j (iw A.length z z')=_ from jB _ _ _ _,a1 j hj,b1 j hj,pY,y6]
   exact h1 j hj
  ·by_cases hm:j<m
   ·rw[show cs (iy l m r A B) (l+j) (iw A.length z z')=_ from jB _ _ _ _,a2 j hm,b2 j hm,y6,br,y8]
    unfold iw;rw[af hm];obtain⟨c,hc⟩:=(h2 j hm).symm.trans (h3 j hm);refine⟨-c,?_⟩;show(0:Int)-(cs A (l+j) z + -cs B j z')=_;rw[Int.mul_neg,← hc];lia
   ·have:=h4 (j-m) (by lia)
    rw[show l+j=l+m+(j-m) by lia,show cs (iy l m r A B) (l+m+(j-m)) (iw A.length z z')=_ from jB _ _ _ _,a3 _ (by lia),b3 _ (by lia),jO,br,y8]
    unfold iw;rw[ag hm];exact this
theorem Js{n:Int}{x y:Fn}:ky p [[1,n]] 1 1 x y↔eq p (y 0) (n*x 0):=by
 constructor
 ·rintro⟨z,h1,h2⟩;obtain⟨a,ha⟩:=h1 0 (by lia);obtain⟨b,hb⟩:=h2 0 (by lia);have ox:x 0-(1*z 0+0)=p*a:=ha;have mO:y 0-(n*z 0+0)=p*b:=hb;exact⟨b-n*a,by grind⟩
 ·rintro⟨a,ha⟩;refine⟨x,λj hj=>?_,λj hj=>?_⟩
  ·obtain rfl:j=0:=by lia
   exact⟨0,by show x 0-(1*x 0+0)=_;lia⟩
  ·obtain rfl:j=0:=by lia
   exact⟨a,by show y 0-(n*x 0+0)=_;lia⟩
theorem vZ(h:j<2):j=0∨j=1:=by lia
theorem UJ(pp:p∈cK):∀{d:Dr},d.wf p→Bw.d6 p (d.l+d.r) (d.cq p)∧(d.cq p).length≤d.l+d.r∧∀x y:Fn,nu p d x y↔ky p (d.cq p) d.l d.r x y:=by
 have p2:2≤p:=(fK p pp).1;have box:∀{q:List Int},(∀x∈q,x=0∨x=1)→∀x∈q,0≤x∧x<p:=λh x hx=>by rcases h x hx with h|h<;>lia
 intro d;induction d with
 |id=>
  intro _;refine⟨λq hq=>?_,(by show 1≤2;decide),λx y=>(Iff.trans ?_ Js.symm)⟩
  ·obtain rfl:=cX.mp hq;exact⟨rfl,box (by simp)⟩
  ·show eq p (y 0) (x 0)↔_;rw[Int.one_mul]
 |times n=>
  intro h;refine⟨λq hq=>?_,(by show 1≤2;decide),λx y=>Js.symm⟩;obtain rfl:=cX.mp hq;refine⟨rfl,λx hx=>?_⟩;have h0:0≤n∧n<p:=h;rcases(e9.mp hx)with(rfl|hx)
  ·lia
  ·obtain rfl:=cX.mp hx;exact h0
 |swap=>
  intro _;refine⟨λq hq=>?_,by show 2≤4;decide,λx y=>⟨?_,?_⟩⟩
  ·rcases(e9.mp hq)with(rfl|hq)
   ·exact⟨rfl,box (by simp)⟩
   ·obtain rfl:=cX.mp hq;exact⟨rfl,box (by simp)⟩
  ·rintro⟨⟨a,ha⟩,⟨b,hb⟩⟩;refine⟨x,λj hj=>?_,λj hj=>?_⟩
   ·rcases vZ hj with rfl|rfl
    ·exact⟨0,by show x 0-(1*x 0+(0*x (1+0)+0))=_;simp⟩
    ·exact⟨0,by show x 1-(0*x 0+(1*x (1+0)+0))=_;simp⟩
   ·rcases vZ hj with rfl|rfl
    ·exact⟨a,by show y 0-(0*x 0+(1*x (1+0)+0))=_;rw[show(1+0)=1 from rfl];lia⟩
    ·exact⟨b,by show y 1-(1*x 0+(0*x (1+0)+0))=_;lia⟩
  ·rintro⟨z,h1,h2⟩;obtain⟨a,ha⟩:=h1 0 (by decide);obtain⟨b,hb⟩:=h1 1 (by decide);obtain⟨c,hc⟩:=h2 0 (by decide);obtain⟨e,he⟩:=h2 1 (by decide);have ox:x 0-(1*z 0+(0*z (1+0)+0))=p*a:=ha;have mO:x 1-(0*z 0+(1*z (1+0)+0))=p*b:=hb;have iL:y 0-(0*z 0+(1*z (1+0)+0))=p*c:=hc;have Jt:y 1-(1*z 0+(0*z (1+0)+0))=p*e:=he;exact⟨⟨c-b,by rw[oK];lia⟩,⟨e-a,by rw[oK];lia⟩⟩
 |copy=>
  intro _;refine⟨λq hq=>?_,by show 1≤3;decide,λx y=>⟨?_,?_⟩⟩
  ·obtain rfl:=cX.mp hq;exact⟨rfl,box (by simp)⟩
  ·rintro⟨⟨a,ha⟩,⟨b,hb⟩⟩;refine⟨x,λj hj=>?_,λj hj=>?_⟩
   ·obtain rfl:j=0:=by have:j<1:=hj;lia
    exact⟨0,by show x 0-(1*x 0+0)=_;lia⟩
   ·rcases vZ hj with rfl|rfl
    ·exact⟨a,by show y 0-(1*x 0+0)=_;lia⟩
    ·exact⟨b,by show y 1-(1*x 0+0)=_;lia⟩
  ·rintro⟨z,h1,h2⟩;obtain⟨a,ha⟩:=h1 0 (by decide);obtain⟨c,hc⟩:=h2 0 (by decide);obtain⟨e,he⟩:=h2 1 (by decide);have ox:x 0-(1*z 0+0)=p*a:=ha;have iL:y 0-(1*z 0+0)=p*c:=hc;have Jt:y 1-(1*z 0+0)=p*e:=he;exact⟨⟨c-a,by rw[oK];lia⟩,⟨e-a,by rw[oK];lia⟩⟩
 |fin=>
  intro _;refine⟨λq hq=>?_,by show 1≤1;decide,λx y=>⟨λ_=>⟨x,λj hj=>?_,λj hj=>absurd hj (by show ¬j<0;lia)⟩,λ_=>trivial⟩⟩
  ·obtain rfl:=cX.mp hq;exact⟨rfl,box (by simp)⟩
  ·obtain rfl:j=0:=by have:j<1:=hj;lia
   exact⟨0,by show x 0-(1*x 0+0)=_;lia⟩
 |add=>
  intro _;refine⟨λq hq=>?_,by show 2≤3;decide,λx y=>⟨?_,?_⟩⟩
  ·rcases(e9.mp hq)with(rfl|hq)
   ·exact⟨rfl,box (by simp)⟩
   ·obtain rfl:=cX.mp hq;exact⟨rfl,box (by simp)⟩
  ·rintro⟨a,ha⟩;refine⟨x,λj hj=>?_,λj hj=>?_⟩
   ·rcases vZ hj with rfl|rfl
    ·exact⟨0,by show x 0-(1*x 0+(0*x (1+0)+0))=_;simp⟩
    ·exact⟨0,by show x 1-(0*x 0+(1*x (1+0)+0))=_;simp⟩
   ·obtain rfl:j=0:=by have:j<1:=hj;lia
    exact⟨a,by show y 0-(1*x 0+(1*x (1+0)+0))=_;rw[show(1+0)=1 from rfl];lia⟩
  ·rintro⟨z,h1,h2⟩;obtain⟨a,ha⟩:=h1 0 (by decide);obtain⟨b,hb⟩:=h1 1 (by decide);obtain⟨c,hc⟩:=h2 0 (by decide);have ox:x 0-(1*z 0+(0*z (1+0)+0))=p*a:=ha;have mO:x 1-(0*z 0+(1*z (1+0)+0))=p*b:=hb;have iL:y 0-(1*z 0+(1*z (1+0)+0))=p*c:=hc;exact⟨c-a-b,by rw[oK,oK];lia⟩
 |none=>
  intro _;refine⟨λq hq=>(nomatch hq),by show 0≤1;decide,λx y=>⟨λh=>⟨x,λj hj=>absurd hj (by show ¬j<0;lia),λj hj=>?_⟩,λ⟨z,_,h2⟩=>h2 0 (by decide)⟩⟩;obtain rfl:j=0:=by have:j<1:=hj;lia
  exact h
 |ig=>
  intro _;refine⟨λq hq=>?_,by show 1≤2;decide,λx y=>⟨?_,?_⟩⟩
  ·obtain rfl:=cX.mp hq;exact⟨rfl,box (by simp)⟩
  ·rintro⟨a,ha⟩;refine⟨y,λj hj=>absurd hj (by show ¬j<0;lia),λj hj=>?_⟩;rcases vZ hj with rfl|rfl
   ·exact⟨0,by show y 0-(1*y 0+0)=_;lia⟩
   ·exact⟨a,by show y 1-(1*y 0+0)=_;lia⟩
  ·rintro⟨z,_,h2⟩;obtain⟨c,hc⟩:=h2 0 (by decide);obtain⟨e,he⟩:=h2 1 (by decide);have iL:y 0-(1*z 0+0)=p*c:=hc;have Jt:y 1-(1*z 0+0)=p*e:=he;exact⟨e-c,by rw[oK];lia⟩
 |empty=>
  intro _;exact⟨λq hq=>(nomatch hq),by show 0≤0;decide,λx y=>⟨λh=>⟨x,λj hj=>absurd hj (by show ¬j<0;lia),λj hj=>absurd hj (by show ¬j<0;lia)⟩,λ_=>trivial⟩⟩
 |back d ih=>
  intro h;obtain⟨i1,i2,i3⟩:=ih h;refine⟨λq0 nz=>?_,?_,λx y=>?_⟩
  ·obtain⟨q,hq,rfl⟩:=dN.mp nz;obtain⟨j1,j2⟩:=i1 q hq;refine⟨?_,λx hx=>?_⟩
   ·show(oB d.l q).length=d.r+d.l;simp only[oB,bh,eF,dD];lia
   ·rcases(dM.mp hx)with(hx|hx)
    ·exact j2 x (List.mem_of_mem_drop hx)
    ·exact j2 x (List.mem_of_mem_take hx)
  ·show((d.cq p).map _).length≤d.r+d.l;rw[br];lia
  ·exact(i3 y x).trans (UE (λq hq=>(i1 q hq).1) x y).symm
 |bf a b qW qX=>
  intro h;obtain⟨i1,i2,i3⟩:=qW h.1;obtain⟨j1,j2,j3⟩:=qX h.2;refine⟨λq0 nz=>?_,?_,λx y=>?_⟩
  ·rcases(dM.mp nz)with(Cz|Cz)
   ·obtain⟨q,hq,rfl⟩:=dN.mp Cz;obtain⟨k1,k2⟩:=i1 q hq;refine⟨?_,λx hx=>?_⟩
    ·show(iH a.l b.l b.r q).length=a.l+b.l+(a.r+b.r);simp only[iH,bh,eF,dD,eA];lia
    ·unfold iH at hx;simp only[dM,List.mem_replicate]at hx;rcases hx with((hx|hx)|hx)|hx
     ·exact k2 x (List.mem_of_mem_take hx)
     ·lia
     ·exact k2 x (List.mem_of_mem_drop hx)
     ·lia
   ·obtain⟨q,hq,rfl⟩:=dN.mp Cz;obtain⟨k1,k2⟩:=j1 q hq;refine⟨?_,λx hx=>?_⟩
    ·show(iY a.l a.r b.l q).length=a.l+b.l+(a.r+b.r);simp only[iY,bh,eF,dD,eA];lia
    ·unfold iY at hx;simp only[dM,List.mem_replicate]at hx;rcases hx with((hx|hx)|hx)|hx
     ·lia
     ·exact k2 x (List.mem_of_mem_take hx)
     ·lia
     ·exact k2 x (List.mem_of_mem_drop hx)
  ·show(((a.cq p).map _)++((b.cq p).map _)).length≤a.l+b.l+(a.r+b.r);rw[bh,br,br];lia
  ·show nu p a x y∧nu p b (sh a.l x) (sh a.r y)↔_;rw[i3,j3];exact(UG (λq hq=>(i1 q hq).1) (λq hq=>(j1 q hq).1) x y).symm
 |aM a b qW qX=>
  intro h;obtain⟨i1,i2,i3⟩:=qW h.1;obtain⟨j1,j2,j3⟩:=qX h.2.1;have e:b.l=a.r:=h.2.2.symm;rw[e]at j1 j3;have R:=Bq pp (uf pp i1 j1);have er:Dr.cq p (.aM a b)=jh p (j4 p a.l a.r b.r (a.cq p) (b.cq p)):=Jr pp i1 j1;refine⟨?_,?_,λx y=>?_⟩
  ·rw[er];exact R.rws
  ·rw[er,← yT pp (uf pp i1 j1)];exact(vP pp (uf pp i1 j1) (a.l+b.r) (bH _)).len (bH _)
  ·show(∃z,nu p a x z∧nu p b z y)↔_;simp only[i3,j3];exact(UH pp i1 j1 x y).symm
end
end D1
namespace D1
open Bw
namespace Dr
def bD(B:Nat):Dr→Prop
 |back d=>d.bD B
 |bf a b=>a.bD B∧b.bD B∧a.l+b.l+(a.r+b.r)≤B
 |aM a b=>a.bD B∧b.bD B∧a.l+b.r≤B
 |_=>True
end Dr
theorem Ju{B:Nat}(h4:4≤B):∀{d:Dr},d.bD B→d.l+d.r≤B
 | .id,_=>by show 1+1≤B;lia
 | .swap,_=>by show 2+2≤B;lia
 | .copy,_=>by show 1+2≤B;lia
 | .fin,_=>by show 1+0≤B;lia
 | .add,_=>by show 2+1≤B;lia
 | .none,_=>by show 0+1≤B;lia
 | .ig,_=>by show 0+2≤B;lia
 | .empty,_=>by show 0+0≤B;lia
 | .times _,_=>by show 1+1≤B;lia
 | .back d,h=>by have:d.l+d.r≤B:=Ju h4 (d:=d) h;show d.r+d.l≤B;lia
 | .bf _ _,h=>h.2.2
 | .aM _ _,h=>h.2.2
section
variable{B:Nat}
end
abbrev lS:=Option Int×List Dr
noncomputable def zb:Option Int→List Wd
 |some m=>[.n m]
 |none=>[]
noncomputable def jC(s:lS):List Wd:=zb s.1++s.2.flatMap Dr.aE
noncomputable def qY:lS→lS
 |(some _,ds)=>(none,ds)
 |(none,[])=>(none,[])
 |(none,.times n::ds)=>(some n,ds)
 |(none,.back d::ds)=>(none,d::ds)
 |(none,.bf a b::ds)=>(none,a::b::ds)
 |(none,.aM a b::ds)=>(none,a::b::ds)
 |(none,_::ds)=>(none,ds)
noncomputable def fX(s:lS):Nat→lS
 |0=>s
 |i+1=>qY (fX s i)
theorem UK:∀s:lS,jC (qY s)=(jC s).drop 1
 |(some m,ds)=>rfl
 |(none,[])=>rfl
 |(none,.times n::ds)=>rfl
 |(none,.back d::ds)=>rfl
 |(none,.bf a b::ds)=>by simp[qY,jC,zb,Dr.aE]
 |(none,.aM a b::ds)=>by simp[qY,jC,zb,Dr.aE]
 |(none,.id::ds)=>rfl
 |(none,.swap::ds)=>rfl
 |(none,.copy::ds)=>rfl
 |(none,.fin::ds)=>rfl
 |(none,.add::ds)=>rfl
 |(none,.none::ds)=>rfl
 |(none,.ig::ds)=>rfl
 |(none,.empty::ds)=>rfl
theorem zd(s:lS):∀i,jC (fX s i)=(jC s).drop i
 |0=>by rw[List.drop_zero];rfl
 |i+1=>by
  show jC (qY (fX s i))=_;rw[UK,zd s i,List.drop_drop]
theorem UL:∀d:Dr,1≤d.aE.length:=λd=>by cases d<;>simp[Dr.aE]
theorem tV:∀ds:List Dr,ds.length≤(ds.flatMap Dr.aE).length
 | []=>bH 0
 |d::ds=>by
  have:=tV ds
  have:=UL d
  rw[nQ,bh,cu];lia
theorem UM{s:lS}(h:jC s=[]):s=(none,[]):=by
 obtain⟨m,ds⟩:=s;unfold jC at h;obtain⟨h1,h2⟩:=List.append_eq_nil_iff.mp h;cases m with
 |some m=>cases h1
 |none=>
  have:=tV ds
  dsimp only at h2;rw[h2]at this;rw[List.length_eq_zero_iff.mp (Nat.le_zero.mp this)]
def jx(p:Int)(B:Nat)(s:lS):Prop:=(∀m,s.1=some m→0≤m∧m<p)∧∀d∈s.2,d.wf p∧d.bD B
theorem UN{p:Int}{B:Nat}:∀s:lS,jx p B s→jx p B (qY s):=by
 intro s h;obtain⟨m,ds⟩:=s;have tl:∀{d:Dr}{ds:List Dr},jx p B (none,d::ds)→jx p B (none,ds):=λh=>⟨λm e=>(nomatch e),λd hd=>h.2 d (eR _ hd)⟩;have hd:∀{d:Dr}{ds:List Dr},jx p B (none,d::ds)→d.wf p∧d.bD B:=λh=>h.2 _ dv;have cn:∀{d:Dr}{ds:List Dr},d.wf p∧d.bD B→jx p B (none,ds)→jx p B (none,d::ds):=λa h=>⟨λm e=>(nomatch e),λd hd=>by
  rcases(e9.mp hd)with(rfl|hd)
  ·exact a
  ·exact h.2 d hd⟩
 cases m with
 |some m=>exact⟨λm e=>(nomatch e),h.2⟩
 |none=>
  cases ds with
  |nil=>exact h
  |cons d ds=>
   cases d with
   |times n=>exact⟨λm e=>by cases e;exact(hd h).1,(tl h).2⟩
   |back d=>exact cn (d:=d) ⟨(hd h).1,(hd h).2⟩ (tl h)
   |bf a b=>exact cn ⟨(hd h).1.1,(hd h).2.1⟩ (cn ⟨(hd h).1.2,(hd h).2.2.1⟩ (tl h))
   |aM a b=>exact cn ⟨(hd h).1.1,(hd h).2.1⟩ (cn ⟨(hd h).1.2.1,(hd h).2.2.1⟩ (tl h))
   |_=>exact tl h
theorem Jv{p:Int}{B:Nat}{s:lS}(h:jx p B s):∀i,jx p B (fX s i)
 |0=>h
 |i+1=>UN _ (Jv h i)
theorem CA(d:Dr):jC (none,[d])=d.aE:=by simp[jC,zb]
theorem UO{d:Dr}{i:Nat}:d.aE[i]?=(jC (fX (none,[d]) i))[0]?:=by
 rw[zd,CA,List.getElem?_drop,Nat.add_zero]
theorem Jw(d:Dr):fX (none,[d]) d.aE.length=(none,[]):=UM (by rw[zd,CA,List.drop_length])
theorem UP(d:Dr)(i:Nat):(fX (none,[d]) i).2.length≤d.aE.length:=by
 have h:=zd (none,[d]) i;rw[CA]at h;have e:=aj List.length h;have f:=tV (fX (none,[d]) i).2;unfold jC at e;rw[bh,eF]at e;lia
end D1
namespace L2
open PySem PySem.Spec PyProof.Rows
namespace Rv
end Rv
section
variable{prog:Program}{w:World}{A:Around}{E:QV}{s:Shared}
end
section
variable{prog:Program}{w:World}{A:Around}{E:QV}{s:Shared}{R:Result→Shared→Prop}
end
end L2
namespace L2
open PySem PySem.Spec PyProof.Rows
end L2
namespace S21
open PySem L2 Bw
variable{H:Hp}{Q:VK}{a b f:Addr}{fd:FuncData}{i:Nat}{ns:List Int}{tb tk:TE}
theorem Jx{X:Cx}:eI X (.type "range") (λxs H Q=>∃j:Int,xs=[.int j]∧∀p,H p=none→Q (.ref p) (upd H p (.kX 0 j))):=by
 intro aF s σ H vs us Q I r h;obtain⟨j,rfl,q⟩:=h;obtain⟨u,rfl,ru⟩:=vals1 r;obtain⟨t,rfl⟩:=ru;refine call_range_1 ?_;exact⟨.ref _,_,I.laid (t':=_) (o:=.kX 0 j) (λb o e=>fc _ e) (bH _) ⟨_,_,_,jL _ rfl⟩,rfl,q _ I.fresh⟩
theorem CB(lo c:Nat):((List.range (((lo+c:Nat):Int)-(lo:Int)).toNat).map λ(k:Nat)=>V.int ((lo:Int)+k))=(List.range c).map λ(i:Nat)=>V.int ((lo+i:Nat):Int):=by
 rw[show(((lo+c:Nat):Int)-(lo:Int)).toNat=c by lia];exact xj λk _=>by rw[pZ]
def Jy(K:Frag):Sp:=λvs H Q _=>∃(p:Int)(a:Addr)(XS:List V)(rs:LL)(n:Nat),vs=[.int p,.ref a,.int (n:Int)]∧p∈cK∧H a=some (.lst XS)∧LR (λ_=>True) H XS rs∧rs.length≤900∧n≤900∧Bw.d6 p n rs∧
 ∀t H' DS,aJ H H'→bQ K H' t DS→du K H' DS ((jh p rs).map jg)→Q (.ref t) H'
theorem UQ:cY ["p","rows","size"] ["p","rows","size"] (bp qC):=dE rfl rfl rfl (by decide +kernel) rfl
theorem Jz{fC:Addr}{v3:FuncData}(F:cL K "_law_reduced" "_law_reduced" qC f fd)(T:Txt mg)
  (GC:bN P w K mg base bO 2 fC v3 ["p","rows","places"] (Cr K)) (kC:Kp K fC) (bC:Binds K v3 ["p","rows","places"] []) (mC:Mg mg "_law_cleared" fC) :
  bN P w K mg base bO 3 f fd ["p","rows","size"] (Jy K):=by
 refine F.ok UQ (λvs H Q E h=>?_) (λcj A outer s H vs Q E hr h=>?_)
 ·obtain⟨p,a,XS,rs,n,rfl,_⟩:=h;rfl
 ·obtain⟨p,a,XS,rs,n,rfl,pp,ga,hX,hz,hn,hR,q⟩:=h;have ub:(1000:Nat)≤sizeLine:=by decide
  refine⟨_,bj (cA (jc (su K rfl) rfl T.tuple qr (aG (mV (N:=["row"]) (own:=1) (caps:=[]) rfl (gg K rfl (bZ (cH K rfl) (cO GC hr rfl mC kC bC .nil cP (aG (pv 0) (aG (pv 1) (aG (jc (Bf rfl) rfl T.list vd (aG (jc Jx rfl T.range Bl (aG (pv 2) aK)) aK)) aK)))) aY (λ_ _=>rfl))) (show eZ ["p","rows","size"] (bp qC) ["row"] 1 [] _ from .mk' (by decide +kernel)) (λ_ _ _ _ _=>cB (i:=0) Jb rfl (.inl rfl)) (λ_ _ _ _ _=>jw) (λ_ _ _ _ _=>jc (su K rfl) rfl T.tuple qr (aG (pv 0) aK))) aK))),?_⟩
  refine⟨_,rfl,_,rfl,_,rfl,(n:Int),rfl,λpr ug=>⟨pr,0,(n:Int),rfl,aZ,⟨by decide,by decide,by lia,by lia⟩,by lia,λll oz=>?_⟩⟩;have sm:=(aJ.upd ug (o:=.kX 0 (n:Int))).trans (aJ.upd oz (o:=.lst ((List.range ((n:Int)-0).toNat).map λ(k:Nat)=>V.int (0+k))));refine⟨p,a,ll,XS,rs,n,0,n,rfl,pp,sm _ _ ga,hX.mono sm,hz,hn,λr hr=>.of (hR r hr),by lia,?_,?_⟩
  ·rw[aZ]
   have:=CB 0 n
   rw[oM]at this;exact aj (λz=>some (HO.lst z)) this
  intro l fa ga' FS GS H1 s1 hl gl hf gf hF _ _ _;rw[D1.yT pp hR]at hF;have UR:=hF.1;have acn:(jh p rs).length≤n:=by
   rw[← D1.yT pp hR];exact(D1.vP pp hR n (bH _)).len (bH _)
  refine⟨l,_,0,.ref fa,rfl,rfl,.of gl,cb (j:=0) rfl,fa,rfl,⟨_,.of gf⟩,mX (cp:=[]) (λi H' zs=>du K H' zs (((jh p rs).take i).map jg)) (.of gf) (by lia) .nil (λi H' zs h=>by rw[Qp h];exact nP _ _) ?_ ?_⟩
  ·rintro i x H3 zs hx qR h3;obtain⟨ra,r,rfl,iW,_,gr⟩:=hF.get' hx;refine ki ⟨_,rfl,ra,_,rfl,.inl ⟨.of (qR _ _ gr),λt ht=>⟨⟨[_],rfl,rfl⟩,qR.trans (.upd ht),?_⟩⟩⟩;rw[jN,iW];show du K _ _ (((jh p rs).take i++[r]).map jg);rw[fe];exact(h3.mono (.upd ht)).append (.cons (Bj (.of aZ)) .nil)
  ·rintro H3 TS qR h3 lt dt;rw[UR,mh]at h3;refine⟨lt,_,rfl,.inl ⟨.of aZ,λt ht=>q t _ TS (((sm.trans s1).trans qR).trans ((aJ.upd dt).trans (.upd ht))) (.of aZ) (h3.mono ((aJ.upd dt).trans (.upd ht)))⟩⟩
def eQ(N:Addr→Prop)(H:Hp)(a:Addr)(l r:Nat)(cq:LL):Prop:=N a∧∃(b:Addr)(XS:List V),H a=some (.lst [.int (l:Int),.int (r:Int),.ref b])∧N b∧H b=some (.lst XS)∧LR N H XS cq
theorem eQ.mono{N:Addr→Prop}{H H':Hp}{a:Addr}{l r:Nat}{cq:LL}(h:eQ N H a l r cq)(e:aJ H H'):eQ N H' a l r cq:=by
 obtain⟨n,b,XS,g,nb,gb,hL⟩:=h;exact⟨n,b,XS,e _ _ g,nb,e _ _ gb,hL.mono e⟩
theorem eQ.weak{N N':Addr→Prop}{H:Hp}{a:Addr}{l r:Nat}{cq:LL}(h:eQ N H a l r cq)(k:∀x,N x→N' x):eQ N' H a l r cq:=by
 obtain⟨n,b,XS,g,nb,gb,hL⟩:=h;exact⟨k _ n,b,XS,g,k _ nb,gb,hL.weak k⟩
theorem eQ.wr{H:Hp}{a x:Addr}{l r:Nat}{cq:LL}{o:HO}(h:eQ (·≠x) H a l r cq):eQ (·≠x) (upd H x o) a l r cq:=by
 obtain⟨n,b,XS,g,nb,gb,hL⟩:=h;exact⟨n,b,XS,by rw[cC n];exact g,nb,by rw[cC nb];exact gb,hL.wr⟩
theorem eQ.new{H1:Hp}{XS:List V}{l r:Nat}{cq:LL}(s:aJ H H1)(hL:LR (λx=>H x=none) H1 XS cq)(hb:H1 b=none)(ha:(upd H1 b (.lst XS)) a=none) :
  aJ H (upd (upd H1 b (.lst XS)) a (.lst [.int (l:Int),.int (r:Int),.ref b]))∧eQ (λx=>H x=none) (upd (upd H1 b (.lst XS)) a (.lst [.int (l:Int),.int (r:Int),.ref b])) a l r cq:=
 ⟨s.trans ((aJ.upd hb).trans (.upd ha)),eE (s.trans (.upd hb)) ha,b,XS,aZ,eE s hb,aJ.upd ha _ _ aZ,hL.mono ((aJ.upd hb).trans (.upd ha))⟩
def uh(H:Hp)(l r:Nat)(cq:LL)(Q:VK):Prop:=∀a H',aJ H H'→eQ (λx=>H x=none) H' a l r cq→Q (.ref a) H'
noncomputable def v5(w:Str)(n:Int):Nat×Nat×LL:=
 if w="id"∨w="times" then(1,1,[[1,n]])else if w="swap" then(2,2,[[1,0,0,1],[0,1,1,0]])else if w="copy" then(1,2,[[1,1,1]])else if w="end" then(1,0,[[1]])
 else if w="add" then(2,1,[[1,0,1],[0,1,1]])else if w="none" then(0,1,[])else if w="cup" then(0,2,[[1,1]])else(0,0,[])
def ze:Sp:=λvs H Q _=>∃(p:Int)(w:Str)(n:Int),vs=[.int p,.str w,.int n]∧uh H (v5 w n).1 (v5 w n).2.1 (v5 w n).2.2 Q
theorem US:cY ["p","word","number"] ["p","word","number"] (bp tE):=dE rfl rfl rfl (by decide +kernel) rfl
theorem JA{l r:Nat}(q:uh H l r [] Q)(hb:H b=none)(ha:(upd H b (.lst [])) a=none):Q (.ref a) (upd (upd H b (.lst [])) a (.lst [.int (l:Int),.int (r:Int),.ref b])):=by
 obtain⟨s,t⟩:=eQ.new (l:=l) (r:=r) (.refl H) LR.nil hb ha;exact q a _ s t
theorem zf{l r:Nat}{r1:List Int}(q:uh H l r [r1] Q){x:Addr}(hx:H x=none)(hb:(upd H x (.lst (r1.map V.int))) b=none)(ha:(upd (upd H x (.lst (r1.map V.int))) b (.lst [.ref x])) a=none) :
  Q (.ref a) (upd (upd (upd H x (.lst (r1.map V.int))) b (.lst [.ref x])) a (.lst [.int (l:Int),.int (r:Int),.ref b])):=by
 obtain⟨s,t⟩:=eQ.new (l:=l) (r:=r) (aJ.upd hx) (LR.nil.snoc (r:=r1) hx aZ) hb ha;exact q a _ s t
theorem JB{l r:Nat}{r1 r2:List Int}(q:uh H l r [r1,r2] Q){x:Addr}(hx:H x=none){y:Addr}(hy:(upd H x (.lst (r1.map V.int))) y=none)(hb:(upd (upd H x (.lst (r1.map V.int))) y (.lst (r2.map V.int))) b=none)
  {a:Addr} (ha:(upd (upd (upd H x (.lst (r1.map V.int))) y (.lst (r2.map V.int))) b (.lst [.ref x,.ref y])) a=none) :
  Q (.ref a) (upd (upd (upd (upd H x (.lst (r1.map V.int))) y (.lst (r2.map V.int))) b (.lst [.ref x,.ref y])) a (.lst [.int (l:Int),.int (r:Int),.ref b])):=by
 obtain⟨s,t⟩:=eQ.new (l:=l) (r:=r) ((aJ.upd hx).trans (aJ.upd hy)) (((LR.nil.snoc (r:=r1) hx aZ).mono (.upd hy)).snoc (r:=r2) (eE (.upd hx) hy) aZ) hb ha;exact q a _ s t
noncomputable def zg:List Expr→Option (LL)
 | []=>some []
 | .List es _::cQ=>match sr es,zg cQ with
  |some ns,some R=>some (ns::R)
  |_,_=>none
 |_=>none
noncomputable def JC:Expr→Option (Int×Int×LL)
 | .List [.Constant (.int l) _ _,.Constant (.int r) _ _,.List cq _] _=>match zg cq with
  |some R=>some (l,r,R)
  |none=>none
 |_=>none
def nC:LL→TA
 | []=>aV
 |ns::R=>aI (Bm ns) (nC R)
def pM(l r:Int)(t:TE):TE:=bg (aI (tC (.int l)) (aI (tC (.int r)) (aI t aV)))
theorem JD{X:Cx}:∀(es:List Expr)(R:LL),zg es=some R→PA X es (nC R)
 | [],R,h=>by cases h;exact aK
 |e::cQ,R,h=>by
  unfold zg at h;split at h
  case h_1=>exact absurd h (by rename_i h1;cases h1)
  case h_3=>exact nomatch h
  case h_2 es pos rest' heq=>
   cases heq;split at h
   case h_2=>exact nomatch h
   case h_1 ns R' h1 h2=>
    cases h;exact aG (Gm (Gk h1)) (JD cQ R' h2)
theorem qZ{X:Cx}{e:Expr}{l r:Int}{R:LL}(h:JC e=some (l,r,R)):PE X e (pM l r (bg (nC R))):=by
 unfold JC at h;split at h
 case h_2=>exact nomatch h
 case h_1 l' i1 p1 r' i2 p2 cq p3 pos=>
  split at h
  case h_2=>exact nomatch h
  case h_1 R' h1=>
   cases h;exact bc (aG aY (aG aY (aG (bc (JD cq _ h1)) aK)))
def oC(x:String):TT:=eU (aT iN (aL 1) (tC (.str x)))
def UT:TS:=ft (pM 0 0 (bg (nC [])))
def UU:TS:=bu (dQ (oC "cup") (ft (pM 0 2 (bg (nC [[1,1]])))) gk) UT
def UW:TS:=bu (dQ (oC "none") (ft (pM 0 1 (bg (nC [])))) gk) UU
def UX:TS:=bu (dQ (oC "add") (ft (pM 2 1 (bg (nC [[1,0,1],[0,1,1]])))) gk) UW
def UY:TS:=bu (dQ (oC "end") (ft (pM 1 0 (bg (nC [[1]])))) gk) UX
def UZ:TS:=bu (dQ (oC "copy") (ft (pM 1 2 (bg (nC [[1,1,1]])))) gk) UY
def JE:TS:=bu (dQ (oC "swap") (ft (pM 2 2 (bg (nC [[1,0,0,1],[0,1,1,0]])))) gk) UZ
def JF:TS:=ft (bg (aI (tC (.int 1)) (aI (tC (.int 1)) (aI (bg (aI (bg (aI (tC (.int 1)) (aI (aL 2) aV))) aV)) aV))))
def JG:TS:=bu (dQ (xt (oC "id") (oC "times")) JF gk) JE
theorem JH(F:cL K "_law_box" "_law_box" tE f fd):bN P w K mg base bO 1 f fd ["p","word","number"] ze:=by
 refine F.ok US (λvs H Q E h=>?_) (λcj A outer s H vs Q E hr h=>?_)
 ·obtain⟨p,x,n,rfl,_⟩:=h;rfl
 ·obtain⟨p,x,n,rfl,q⟩:=h;refine⟨JG,?_,?_⟩
  ·unfold JG;refine ba ?_ ?_
   ·refine cS ?_ ?_ dW
    ·refine PW.pt (rP ?_ (xu ?_))
     ·exact cE dZ (pv 1) aW (cD _)
     ·exact cE dZ (pv 1) aW (cD _)
    ·exact bj (cA (bc (aG aY (aG aY (aG (bc (aG (bc (aG aY (aG (pv 2) aK))) aK)) aK)))))
   refine ba ?_ ?_
   ·refine cS ?_ ?_ dW
    ·exact cE dZ (pv 1) aW (cD _)
    ·refine bj ?_;refine cA ?_;refine qZ ?_
     kernel_rfl
   refine ba ?_ ?_
   ·refine cS ?_ ?_ dW
    ·exact cE dZ (pv 1) aW (cD _)
    ·refine bj ?_;refine cA ?_;refine qZ ?_
     kernel_rfl
   refine ba ?_ ?_
   ·refine cS ?_ ?_ dW
    ·exact cE dZ (pv 1) aW (cD _)
    ·refine bj ?_;refine cA ?_;refine qZ ?_
     kernel_rfl
   refine ba ?_ ?_
   ·refine cS ?_ ?_ dW
    ·exact cE dZ (pv 1) aW (cD _)
    ·refine bj ?_;refine cA ?_;refine qZ ?_
     kernel_rfl
   refine ba ?_ ?_
   ·refine cS ?_ ?_ dW
    ·exact cE dZ (pv 1) aW (cD _)
    ·refine bj ?_;refine cA ?_;refine qZ ?_
     kernel_rfl
   refine ba ?_ ?_
   ·refine cS ?_ ?_ dW
    ·exact cE dZ (pv 1) aW (cD _)
    ·refine bj ?_;refine cA ?_;refine qZ ?_
     kernel_rfl
   refine bj ?_;refine cA ?_;refine qZ ?_
   kernel_rfl
  have CC:∀{y:String},decide (V.str x=V.str (Str.ofString y))=decide (x=Str.ofString y):=λ{y}=>by
   by_cases h:x=Str.ofString y
   ·rw[ax h,ax (aj V.str h)]
   ·rw[ae h,ae λz=>h (V.str.inj z)]
  have step:∀{y:String}{t u:TS}{D:Ends},(x=Str.ofString y→t { D with nx:=u D } [some (.int p),some (.str x),some (.int n)] H)→(x≠Str.ofString y→u D [some (.int p),some (.str x),some (.int n)] H)→bu (dQ (oC y) t gk) u D [some (.int p),some (.str x),some (.int n)] H:=λ{y t u D} h1 h2=>by
   refine⟨_,rfl,rfl,_,rfl,?_⟩;rw[CC];exact xR (λc=>h1 (az c)) (λc=>h2 λz=>c (ax z))
  have z:∀n:Nat,n≤10→n≤sizeLine:=λn h=>eu h (by decide);unfold v5 at q;refine⟨_,rfl,rfl,_,rfl,?_⟩;rw[CC];have JI:x=Str.ofString "id"∨x=Str.ofString "times"→JF { nx:=λ_ H'=>Q .cm H',rt:=Q } [some (.int p),some (.str x),some (.int n)] H:=λc=>by
   rw[af c]at q;refine⟨_,rfl,z _ (by simp),λr1 h1=>⟨z _ (by simp),λb hb=>⟨z _ (by simp),λa ha=>?_⟩⟩⟩;exact zf (r1:=[1,n]) q h1 hb ha
  have cQ:¬(x=Str.ofString "id"∨x=Str.ofString "times")→JE { nx:=λ_ H'=>Q .cm H',rt:=Q } [some (.int p),some (.str x),some (.int n)] H:=λc0=>by
   rw[ag c0]at q;refine step (λc=>?_) (λc=>?_)
   ·rw[af c]at q;exact⟨z _ (by simp),λx hx=>⟨z _ (by simp),λy hy=>⟨z _ (by simp),λb hb=>⟨z _ (by simp),λa ha=>JB (r1:=[1,0,0,1]) (r2:=[0,1,1,0]) q hx hy hb ha⟩⟩⟩⟩
   rw[ag c]at q;refine step (λc=>?_) (λc=>?_)
   ·rw[af c]at q;exact⟨z _ (by simp),λx hx=>⟨z _ (by simp),λb hb=>⟨z _ (by simp),λa ha=>zf (r1:=[1,1,1]) q hx hb ha⟩⟩⟩
   rw[ag c]at q;refine step (λc=>?_) (λc=>?_)
   ·rw[af c]at q;exact⟨z _ (by simp),λx hx=>⟨z _ (by simp),λb hb=>⟨z _ (by simp),λa ha=>zf (r1:=[1]) q hx hb ha⟩⟩⟩
   rw[ag c]at q;refine step (λc=>?_) (λc=>?_)
   ·rw[af c]at q;exact⟨z _ (by simp),λx hx=>⟨z _ (by simp),λy hy=>⟨z _ (by simp),λb hb=>⟨z _ (by simp),λa ha=>JB (r1:=[1,0,1]) (r2:=[0,1,1]) q hx hy hb ha⟩⟩⟩⟩
   rw[ag c]at q;refine step (λc=>?_) (λc=>?_)
   ·rw[af c]at q;exact⟨z _ (by simp),λb hb=>⟨z _ (by simp),λa ha=>JA q hb ha⟩⟩
   rw[ag c]at q;refine step (λc=>?_) (λc=>?_)
   ·rw[af c]at q;exact⟨z _ (by simp),λx hx=>⟨z _ (by simp),λb hb=>⟨z _ (by simp),λa ha=>zf (r1:=[1,1]) q hx hb ha⟩⟩⟩
   rw[ag c]at q;exact⟨z _ (by simp),λb hb=>⟨z _ (by simp),λa ha=>JA q hb ha⟩⟩
  refine xR (λc=>eP (JI (.inl (az c)))) (λc=>?_);refine⟨_,rfl,rfl,_,rfl,?_⟩;rw[CC];exact xR (λc2=>JI (.inr (az c2))) (λc2=>cQ λz=>z.elim (λy=>c (ax y)) λy=>c2 (ax y))
def kH(te:TE)(σ:St)(H:Hp)(ns:List Int):Prop:=∀H',aJ H H'→∀R:VK,(∀a di,aJ H' di→H' a=none→di a=some (.lst (ns.map V.int))→R (.ref a) di)→te σ H' R
theorem oD{K:Frag}{j k:Nat}{v:Addr}{x y z:V}{σ:St}{R:St→Hp→Prop}(h:cR K H v [x,y,z])(q:R (((σ.set i (some x)).set j (some y)).set k (some z)) H):sv K 3 (ip (bo i) (ip (bo j) (ip (bo k) qb))) (.ref v) σ H R:=
 ⟨v,_,rfl,h,rfl,_,_,rfl,_,_,rfl,_,_,rfl,rfl,q⟩
theorem U0{xs:List V}{k:Nat}(h:k≤xs.length):eV xs none (some (k:Int))=xs.take k:=by
 unfold eV;rw[HT.r8,HT.rZ,List.drop_zero,Nat.sub_zero,Nat.min_eq_left h]
theorem U1{xs:List V}{k:Nat}(h:k≤xs.length):eV xs (some (k:Int)) none=xs.drop k:=by
 unfold eV;rw[HT.r8,HT.rZ,Nat.min_eq_left h,rB (by simp)]
section
variable{K:Frag}{σ:St}{H:Hp}
theorem U2{ta:TE}{i j:Int}(h1:IE ta σ H i)(h2:IE tb σ H j):IE (aT (dX λi j=>.int (i+j)) ta tb) σ H (i+j):=λH' s _ q=>h1 H' s _ (h2 H' s _ ⟨i,j,rfl,rfl,q⟩)
theorem nE{ta:TE}{ms:List Int}(h1:kH ta σ H ns)(h2:kH tb σ H ms)(hl:ns.length+ms.length≤10000):kH (aT cc ta tb) σ H (ns++ms):=λH' s R q=>by
 have z:(10000:Nat)≤sizeLine:=by decide
 refine h1 H' s _ λa H1 s1 ha ga=>h2 H1 (s.trans s1) _ λb H2 s2 hb gb=>?_;refine⟨a,b,_,_,rfl,rfl,s2 _ _ ga,gb,by simp only[br];lia,λc hc=>?_⟩;refine q c _ (s1.trans (s2.trans (.upd hc))) (eE (s1.trans s2) hc) ?_;rw[aZ,fe]
theorem ui{k:Nat}(h:IE tk σ H (k:Int))(hk:k≤10000):kH (aT xN (bg (aI (tC (.int 0)) aV)) tk) σ H (List.replicate k 0):=λH' s R q=>by
 have z:(10000:Nat)≤sizeLine:=by decide
 refine⟨by show 1≤sizeLine;decide,λa ha=>?_⟩;have sa:=aJ.upd (o:=.lst [.int 0]) ha;refine h _ (s.trans sa) _ ⟨a,(k:Int),[.int 0],rfl,rfl,aZ,by lia,by lia,by show 1*(k:Int).toNat≤sizeLine;lia,λc hc=>q c _ (sa.trans (.upd hc)) (eE sa hc) ?_⟩;rw[aZ,show(k:Int).toNat=k by lia,yM,List.map_replicate]
theorem v7{k:Nat}(h:σ[i]?=some (some (.ref a)))(g:H a=some (.lst (ns.map V.int)))(hk:IE tk σ H (k:Int))(hl:k≤ns.length):kH (jv (jd K) (aL i) o4 (iO tk)) σ H (ns.take k):=λH' s R q=>by
 refine⟨_,h,hk _ s _ ⟨(k:Int),rfl,a,_,rfl,.of (s _ _ g),λp hp=>q p _ (.upd hp) hp ?_⟩⟩;rw[aZ,U0 (by rw[br];exact hl),List.map_take]
theorem v8{k:Nat}(h:σ[i]?=some (some (.ref a)))(g:H a=some (.lst (ns.map V.int)))(hk:IE tk σ H (k:Int))(hl:k≤ns.length):kH (jv (jd K) (aL i) (iO tk) o4) σ H (ns.drop k):=λH' s R q=>by
 refine⟨_,h,hk _ s _ ⟨(k:Int),rfl,a,_,rfl,.of (s _ _ g),λp hp=>q p _ (.upd hp) hp ?_⟩⟩;rw[aZ,U1 (by rw[br];exact hl),List.map_drop]
end
theorem CF{te:TE}{D:Ends}{σ:St}{H0:Hp}{ll:Addr}{ZS:List V}{R:LL}(hi:σ[i]?=some (some (.ref ll)))(gl:H ll=some (.lst ZS))(oz:H0 ll=none)(s:aJ H0 H)(hR:LR (λx=>x≠ll∧H0 x=none) H ZS R)(hz:R.length≤10000)(h:kH te σ H ns)
  (k:∀H' lT,aJ H0 H'→H' ll=some (.lst lT)→LR (λx=>x≠ll∧H0 x=none) H' lT (R++[ns])→D.nx σ H'):rS (qi K "list" u0 (aL i) (aI te aV)) D σ H:=by
 have z:(10000:Nat)<sizeLine:=by decide
 refine⟨_,hi,.inl ⟨rfl,_,cR.of gl⟩,h H (.refl _) _ λa H1 s1 ha ga=>⟨ll,ZS,.ref a,rfl,rfl,s1 _ _ gl,by rw[hR.1];lia,?_⟩⟩;have ne:a≠ll:=λe=>by rw[e,gl]at ha;cases ha
 refine k _ _ ((s.trans s1).write oz) aZ ?_;refine⟨by simp[hR.1],λj v r e1 e2=>?_⟩;obtain⟨x,e,nx,gx⟩:=((hR.mono s1).snoc (a:=a) (r:=ns) ⟨ne,eE s ha⟩ ga).2 j v r e1 e2;exact⟨x,e,nx,by rw[cC nx.1];exact gx⟩
def CG:Sp:=λvs H Q _=>∃(a b:Addr)(l r l' r':Nat)(A B:LL),vs=[.ref a,.ref b]∧eQ (λ_=>True) H a l r A∧eQ (λ_=>True) H b l' r' B∧(∀q∈A,q.length=l+r)∧(∀q∈B,q.length=l'+r')∧A.length≤400∧B.length≤400∧l+r≤400∧l'+r'≤400∧
 uh H (l+l') (r+r') (A.map (D1.iH l l' r')++B.map (D1.iY l r l')) Q
theorem nF:cY ["one","other","rows","left","right","some","into","out","more","row"] ["one","other"] (bp tF):=dE rfl rfl rfl (by decide +kernel) rfl
theorem JJ(F:cL K "_law_beside" "_law_beside" tF f fd):bN P w K mg base bO 1 f fd ["one","other"] CG:=by
 refine F.ok nF (λvs H Q E h=>?_) (λcj A outer s H vs Q E hr h=>?_)
 ·obtain⟨a,b,l,r,l',r',A,B,rfl,_⟩:=h;rfl
 ·obtain⟨a,b,l,r,l',r',RA,RB,rfl,⟨_,a1,AS,ga,_,v9,hA⟩,⟨_,b1,BS,gb,_,lU,hB⟩,lA,lB,nA,nB,wA,wB,q⟩:=h;have ub:(1000:Nat)≤sizeLine:=by decide
  refine⟨_,ba (bw (i:=2) nF.nd rfl (.inl rfl) (bc aK)) (ba (nX (pv 0) (oi rfl (eh (cB (i:=3) nF.nd rfl (.inl rfl)) (eh (cB (i:=4) nF.nd rfl (.inl rfl)) (eh (cB (i:=5) nF.nd rfl (.inl rfl)) kZ))))) (ba (nX (pv 1) (oi rfl (eh (cB (i:=6) nF.nd rfl (.inl rfl)) (eh (cB (i:=7) nF.nd rfl (.inl rfl)) (eh (cB (i:=8) nF.nd rfl (.inl rfl)) kZ))))) (ba (ja jq rfl (gg K rfl (pv 5)) (cB (i:=9) nF.nd rfl (.inl rfl)) (bj (jS (iP ke nN nO lC (pv 2) (aG (aU bV (aU bV (aU bV (eX (gu K rfl) (pv 9) gq (dy (pv 3))) (aU lD (bc (aG aY aK)) (pv 6))) (eX (gu K rfl) (pv 9) (dy (pv 3)) gq)) (aU lD (bc (aG aY aK)) (pv 7))) aK))))) (ba (ja jq rfl (gg K rfl (pv 8)) (cB (i:=9) nF.nd rfl (.inl rfl)) (bj (jS (iP ke nN nO lC (pv 2) (aG (aU bV (aU bV (aU bV (aU lD (bc (aG aY aK)) (pv 3)) (eX (gu K rfl) (pv 9) gq (dy (pv 6)))) (aU lD (bc (aG aY aK)) (pv 4))) (eX (gu K rfl) (pv 9) (dy (pv 6)) gq)) aK))))) (bj (cA (bc (aG (aU fu (pv 3) (pv 6)) (aG (aU fu (pv 4) (pv 7)) (aG (pv 2) aK)))))))))),?_⟩;refine⟨by decide,λlr zh=>?_⟩;have s0:aJ H (upd H lr (.lst [])):=.upd zh;have g0:(upd H lr (.lst [])) lr=some (.lst []):=aZ;generalize upd H lr (.lst [])=H0 at s0 g0 ⊢;refine⟨_,rfl,oD (.of (s0 _ _ ga)) ⟨_,rfl,oD (.of (s0 _ _ gb)) ?_⟩⟩;refine⟨_,rfl,a1,rfl,⟨_,.of (s0 _ _ v9)⟩,oY (xs:=AS) (λi σ H'=>aJ H H'∧∃ZS s9,σ=[some (.ref a),some (.ref b),some (.ref lr),some (.int (l:Int)),some (.int (r:Int)),some (.ref a1),some (.int (l':Int)),some (.int (r':Int)),some (.ref b1),s9]∧H' lr=some (.lst ZS)∧LR (λx=>x≠lr∧H x=none) H' ZS ((RA.take i).map (D1.iH l l' r'))) ⟨s0,[],none,rfl,g0,LR.nil⟩ (λi σ H' _ ⟨sm,_⟩=>.of (sm _ _ v9)) ?_ ?_⟩
  ·rintro i x σ H1 hx ⟨sm,ZS,s9,rfl,g,hZ⟩;obtain⟨ra,row,rfl,nv,_,gr⟩:=hA.get' hx;have hw:=lA row (d8 nv);have pN:=sm _ _ gr;dsimp only[bo];refine CF (i:=2) (ns:=D1.iH l l' r' row) rfl g zh sm hZ (by rw[br,dD];lia) ?_ ?_
   ·refine nE (nE (nE (v7 (a:=ra) (ns:=row) rfl pN (iG rfl) (by lia)) (ui (iG rfl) (by lia)) ?_) (v8 (a:=ra) (ns:=row) rfl pN (iG rfl) (by lia)) ?_) (ui (iG rfl) (by lia)) ?_;all_goals simp only[bh,dD,eF,eA]
    all_goals lia
   ·intro H' lT fN g' wg;refine⟨fN,lT,_,rfl,g',?_⟩;rw[jN,nv];show LR _ H' lT ((RA.take i++[row]).map _);rw[fe];exact wg
  rintro σ H1 ⟨sm,ZS,s9,rfl,g,hZ⟩;rw[hA.1,mh]at hZ;refine⟨_,rfl,b1,rfl,⟨_,.of (sm _ _ lU)⟩,oY (xs:=BS) (λi σ H'=>aJ H H'∧∃ZS s9,σ=[some (.ref a),some (.ref b),some (.ref lr),some (.int (l:Int)),some (.int (r:Int)),some (.ref a1),some (.int (l':Int)),some (.int (r':Int)),some (.ref b1),s9]∧H' lr=some (.lst ZS)∧LR (λx=>x≠lr∧H x=none) H' ZS (RA.map (D1.iH l l' r')++(RB.take i).map (D1.iY l r l'))) ⟨sm,ZS,s9,rfl,g,by rw[List.take_zero,List.map_nil,gJ];exact hZ⟩ (λi σ H' _ ⟨sm,_⟩=>.of (sm _ _ lU)) ?_ ?_⟩
  ·clear hZ g ZS s9 sm H1;rintro i x σ H1 hx ⟨sm,ZS,s9,rfl,g,hZ⟩;obtain⟨ra,row,rfl,nv,_,gr⟩:=hB.get' hx;have hw:=lB row (d8 nv);have pN:=sm _ _ gr;dsimp only[bo];refine CF (i:=2) (ns:=D1.iY l r l' row) rfl g zh sm hZ (by rw[bh,br,br,dD];lia) ?_ ?_
   ·refine nE (nE (nE (ui (iG rfl) (by lia)) (v7 (a:=ra) (ns:=row) rfl pN (iG rfl) (by lia)) ?_) (ui (iG rfl) (by lia)) ?_) (v8 (a:=ra) (ns:=row) rfl pN (iG rfl) (by lia)) ?_;all_goals simp only[bh,dD,eF,eA]
    all_goals lia
   ·intro H' lT fN g' wg;refine⟨fN,lT,_,rfl,g',?_⟩;rw[jN,nv];show LR _ H' lT (_++(RB.take i++[row]).map _);rw[fe,← pX];exact wg
  clear hZ g ZS s9 sm H1;rintro σ H1 ⟨sm,ZS,s9,rfl,g,hZ⟩;rw[hB.1,mh]at hZ;refine⟨_,rfl,_,rfl,_,_,rfl,rfl,_,rfl,_,rfl,_,_,rfl,rfl,_,rfl,by show 3≤sizeLine;decide,λt ht=>?_⟩;refine q t _ (sm.trans (.upd ht)) ⟨eE sm ht,lr,ZS,?_,zh,aJ.upd ht _ _ g,(hZ.mono (.upd ht)).weak λ_ z=>z.2⟩;rw[aZ,pZ,pZ]
theorem U3:(["row","right"]:List Str).Nodup:=by decide +kernel
theorem U4:(["number"]:List Str).Nodup:=by decide +kernel
theorem U5:(["row","amid","left"]:List Str).Nodup:=by decide +kernel
section
variable{K:Frag}{σ:St}{H:Hp}
theorem U6{ms:List Int}(h:σ[i]?=some (some (.ref a)))(g:H a=some (.lst (ns.map V.int)))(h2:kH tb σ H ms)(hl:ns.length+ms.length≤10000):kH (aT cc (aL i) tb) σ H (ns++ms):=λH' s R q=>by
 have z:(10000:Nat)≤sizeLine:=by decide
 refine⟨_,h,h2 H' s _ λb H2 s2 hb gb=>?_⟩;refine⟨a,b,_,_,rfl,rfl,s2 _ _ (s _ _ g),gb,by simp only[br];lia,λc hc=>?_⟩;refine q c _ (s2.trans (.upd hc)) (eE s2 hc) ?_;rw[aZ,fe]
theorem U7{tl:TE}(h:kH tl σ H ns)(hl:ns.length≤10000):kH (n9 (qc K tl) 1 [] (bo 0) mK (aT (dX λi j=>.int (i-j)) (tC (.int 0)) (aL 0))) σ H (ns.map λx=>0-x):=λH' s R q=>by
 have z:(10000:Nat)≤sizeLine:=by decide
 refine h H' s _ λa H1 s1 ha ga=>⟨a,rfl,⟨_,.of ga⟩,mX (cp:=[]) (λj H' zs=>zs=((ns.take j).map λx=>0-x).map V.int) (.of ga) (by rw[br];lia) rfl (λj H' zs e=>by rw[e,br,br];exact nP _ _) ?_ ?_⟩
 ·rintro j y di zs hy fN rfl;rw[fj]at hy;cases f1:ns[j]? with
  |none=>rw[f1]at hy;cases hy
  |some y'=>
   rw[f1]at hy;cases hy;refine ki ⟨_,rfl,_,_,rfl,rfl,⟨[_],rfl,rfl⟩,fN,?_⟩;rw[jN,f1];simp
 ·rintro H2 zs sm rfl lh vW;rw[br,mh];exact q lh _ (s1.trans (sm.trans (.upd vW))) (eE (s1.trans sm) vW) aZ
end
theorem CH{la:Addr}{LS:List V}{L:LL}{g:List Int→List Int}{N:Addr→Prop}{te:TE}{cp:St}(gl:H la=some (.lst LS))(hL:LR N H LS L)(hz:L.length≤1000)
  (Cp:∀(x:Addr)(r:List Int)(H1:Hp),r∈L→aJ H H1→H1 x=some (.lst (r.map V.int))→kH te (some (.ref x)::cp) H1 (g r))
  (done:∀H' MS,aJ H H'→LR (λa=>H a=none) H' MS (L.map g)→∀l,H' l=none→Q (.ref l) (upd H' l (.lst MS))) :
  ∃W:Nat→Nat→St→Hp→List V→Prop,(∃m,W 0 m (List.replicate 1 none++cp) H [])∧ph (oV K la) (bo 0) mK te Q W:=by
 have ub:(1000:Nat)≤sizeLine:=by decide
 have eL:=hL.1;refine mX (xs:=LS) (cp:=cp) (λi H' zs=>LR (λa=>H a=none) H' zs ((L.take i).map g)) (.of gl) (by lia) LR.nil
  (λi H' zs h=>by rw[h.1,br];exact nP _ _) ?_ ?_
 ·rintro i x H' zs gF sm h';obtain⟨a,r,rfl,hr,_,ga⟩:=hL.get' gF;refine ki (Cp a r H' (d8 hr) sm (sm _ _ ga) H' (.refl _) _ λl H2 s2 Cq zi=>⟨⟨[_],rfl,rfl⟩,sm.trans s2,?_⟩);rw[jN,hr];show LR _ H2 _ ((L.take i++[r]).map g);rw[fe];exact(h'.mono s2).snoc (eE sm Cq) zi
 ·rintro H' zs sm h' l hl;rw[hL.1,mh]at h';exact done H' zs sm h' l hl
def CI:Sp:=λvs H Q _=>∃(p:Int)(a b:Addr)(l m r:Nat)(A B:LL),vs=[.int p,.ref a,.ref b]∧p∈cK∧eQ (λ_=>True) H a l m A∧eQ (λ_=>True) H b m r B∧Bw.d6 p (l+m) A∧Bw.d6 p (m+r) B∧A.length≤400∧B.length≤400∧l+m≤400∧m+r≤400∧
 uh H l r (D1.vX p l m r A B) Q
noncomputable abbrev CJ:List Str:=["p","one","other","left","amid","rows","right","row","some","spare","thin"]
theorem oE:cY ["p","one","other","left","amid","rows","right","row","some","spare","thin"] ["p","one","other"] (bp ot):=dE rfl rfl rfl (by decide +kernel) rfl
theorem JK{fC:Addr}{v3:FuncData}(F:cL K "_law_then" "_law_then" ot f fd)(T:Txt mg)
  (GC:bN P w K mg base bO 2 fC v3 ["p","rows","places"] (Cr K)) (kC:Kp K fC) (bC:Binds K v3 ["p","rows","places"] []) (mC:Mg mg "_law_cleared" fC) :
  bN P w K mg base bO 3 f fd ["p","one","other"] CI:=by
 refine F.ok oE (λvs H Q E h=>?_) (λcj A outer s H vs Q E hr h=>?_)
 ·obtain⟨p,a,b,l,m,r,A,B,rfl,_⟩:=h;rfl
 ·obtain⟨p,a,b,l,m,r,RA,RB,rfl,pp,⟨_,a1,AS,ga,_,v9,hA⟩,⟨_,b1,BS,gb,_,lU,hB⟩,lA,lB,nA,nB,wA,wB,q⟩:=h;have ub:(1000:Nat)≤sizeLine:=by decide
  have p0:0<p:=by have:=fK p pp;lia
  refine⟨_,ba (nX (pv 1) (oi rfl (eh (cB (i:=3) oE.nd rfl (Or.inr rfl)) (eh (cB (i:=4) oE.nd rfl (Or.inr rfl)) (eh (cB (i:=5) oE.nd rfl (.inl rfl)) kZ))))) (ba (bw (i:=6) oE.nd rfl (Or.inr rfl) (bZ (cH K rfl) (pv 2) aY (λ_ _=>rfl))) (ba (qp (i:=8) (N:=["row","right"]) (own:=1) (caps:=[6]) rfl oE.nd rfl rfl (gg K rfl (pv 5)) (show eZ CJ (bp ot) ["row","right"] 1 [6] _ from .mk' (by decide +kernel)) (λ_ _ _ _ _=>cB (i:=0) U3 rfl (.inl rfl)) (λ_ _ _ _ _=>jw) (λ_ _ _ _ _=>aU bV (pv 0) (aU lD (bc (aG aY aK)) (pv 1)))) (ba (ja jq rfl (gg K rfl (bZ (cH K rfl) (pv 2) aY (λ_ _=>rfl))) (cB (i:=7) oE.nd rfl (.inl rfl)) (bj (jS (iP ke nN nO lC (pv 8) (aG (aU bV (aU bV (aU lD (bc (aG aY aK)) (pv 3)) (mV (N:=["number"]) (own:=1) (caps:=[]) rfl (gg K rfl (eX (gu K rfl) (pv 7) gq (dy (pv 4)))) (show eZ CJ (bp ot) ["number"] 1 [] _ from .mk' (by decide +kernel)) (λ_ _ _ _ _=>cB (i:=0) U4 rfl (.inl rfl)) (λ_ _ _ _ _=>jw) (λ_ _ _ _ _=>aU iM aY (pv 0)))) (eX (gu K rfl) (pv 7) (dy (pv 4)) gq)) aK))))) (ba (bw (i:=9) oE.nd rfl (.inl rfl) (bZ (cH K rfl) (cO GC hr rfl mC kC bC .nil cP (aG (pv 0) (aG (pv 8) (aG (jc (Bf rfl) rfl T.list vd (aG (jc OS rfl T.range Bl (aG (pv 3) (aG (aU fu (pv 3) (pv 4)) aK))) aK)) aK)))) aY (λ_ _=>rfl))) (ba (qp (i:=10) (N:=["row","amid","left"]) (own:=1) (caps:=[4,3]) rfl oE.nd rfl rfl (gg K rfl (pv 9)) (show eZ CJ (bp ot) ["row","amid","left"] 1 [4,3] _ from .mk' (by decide +kernel)) (λ_ _ _ _ _=>cB (i:=0) U5 rfl (.inl rfl)) (λ_ _ _ _ _=>jw) (λ_ _ _ _ _=>aU bV (eX (gu K rfl) (pv 0) gq (dy (pv 2))) (eX (gu K rfl) (pv 0) (dy (aU fu (pv 2) (pv 1))) gq))) (bj (cA (bc (aG (pv 3) (aG (pv 6) (aG (bZ (cH K rfl) (cO GC hr rfl mC kC bC .nil cP (aG (pv 0) (aG (pv 10) (aG (jc (Bf rfl) rfl T.list vd (aG (jc Jx rfl T.range Bl (aG (aU fu (pv 3) (pv 6)) aK)) aK)) aK)))) aY (λ_ _=>rfl)) aK))))))))))),?_⟩
  refine⟨_,rfl,oD (.of ga) ⟨_,rfl,b,_,1,.int (r:Int),rfl,rfl,.of gb,cb (j:=1) rfl,?_⟩⟩;refine⟨_,rfl,a1,rfl,⟨_,.of v9⟩,CH (g:=D1.j0 r) (cp:=[some (.int (r:Int))]) v9 hA (by lia) (λx row H1 wj s1 gx=>?_) ?_⟩
  ·have:=(lA row wj).1
   refine U6 (a:=x) (ns:=row) (ms:=List.replicate r 0) rfl gx (ui (iG rfl) (by lia)) ?_;rw[eA];lia
  rintro H1 MS s1 hM ls fb;have s2:aJ H (upd H1 ls (.lst MS)):=s1.trans (.upd fb);have g2:(upd H1 ls (.lst MS)) ls=some (.lst MS):=aZ;have U8:H ls=none:=eE s1 fb;have zj:LR (λx=>x≠ls∧H x=none) (upd H1 ls (.lst MS)) MS (RA.map (D1.j0 r)):=⟨hM.1,λi v q e1 e2=>by
   obtain⟨x,e,hx,gx⟩:=hM.2 i v q e1 e2;have ne:x≠ls:=λz=>by rw[z,fb]at gx;cases gx
   exact⟨x,e,⟨ne,hx⟩,by rw[cC ne];exact gx⟩⟩
  generalize upd H1 ls (.lst MS)=H2 at s2 g2 zj ⊢;refine⟨_,rfl,b,_,2,.ref b1,rfl,rfl,.of (s2 _ _ gb),cb (j:=2) rfl,b1,rfl,⟨_,.of (s2 _ _ lU)⟩,oY (xs:=BS) (λi σ H'=>aJ H H'∧∃ZS s7,σ=[some (.int p),some (.ref a),some (.ref b),some (.int (l:Int)),some (.int (m:Int)),some (.ref a1),some (.int (r:Int)),s7,some (.ref ls),none,none]∧H' ls=some (.lst ZS)∧LR (λx=>x≠ls∧H x=none) H' ZS (RA.map (D1.j0 r)++(RB.take i).map (D1.kz l m))) ⟨s2,MS,none,rfl,g2,by rw[List.take_zero,List.map_nil,gJ];exact zj⟩ (λi σ H' _ ⟨sm,_⟩=>.of (sm _ _ lU)) ?_ ?_⟩
  ·clear hM zj g2 s2 s1 fb;rintro i x σ H1 hx ⟨sm,ZS,s9,rfl,g,hZ⟩;obtain⟨ra,row,rfl,nv,_,gr⟩:=hB.get' hx;have hw:=(lB row (d8 nv)).1;have pN:=sm _ _ gr;dsimp only[bo];refine CF (i:=8) (ns:=D1.kz l m row) rfl g U8 sm hZ (by rw[bh,br,br,dD];lia) ?_ ?_
   ·refine nE (nE (ui (iG rfl) (by lia)) (U7 (v7 (a:=ra) (ns:=row) rfl pN (iG rfl) (by lia)) ?_) ?_) (v8 (a:=ra) (ns:=row) rfl pN (iG rfl) (by lia)) ?_;all_goals simp only[bh,dD,eF,eA,br]
    all_goals lia
   ·intro H' lT fN g' wg;refine⟨fN,lT,_,rfl,g',?_⟩;rw[jN,nv];show LR _ H' lT (_++(RB.take i++[row]).map _);rw[fe,← pX];exact wg
  clear hM zj g2 s2 s1 fb;rintro σ H3 ⟨sm,ZS,s7,rfl,g,hZ⟩;rw[hB.1,mh]at hZ;have hZ:LR (λx=>x≠ls∧H x=none) H3 ZS (D1.iy l m r RA RB):=hZ;have S0:=D1.za p0 lA lB;have S1:=D1.yV pp S0 m;have sl:(D1.iy l m r RA RB).length≤800:=by
   unfold D1.iy;rw[bh,br,br];lia
  have nr:=(Cs pp (lo:=l) (λq hq=>(⟨S0.len q hq,S0.near q hq⟩:Rn p (l+m+r) q)) m).2.2.2;have JL:=D1.uf pp lA lB;have aco:(D1.vX p l m r RA RB).length≤l+r:=(D1.vP pp JL (l+r) (bH _)).len (bH _);refine⟨_,rfl,_,rfl,_,rfl,_,rfl,_,rfl,_,_,rfl,rfl,_,_,rfl,λpr ug=>⟨pr,_,_,rfl,aZ,⟨by lia,by lia,by lia,by lia⟩,by lia,λlp CK=>?_⟩⟩;have s4:=(aJ.upd ug (o:=.kX (l:Int) ((l:Int)+(m:Int)))).trans (aJ.upd CK (o:=.lst ((List.range ((l:Int)+(m:Int)-(l:Int)).toNat).map λ(k:Nat)=>V.int ((l:Int)+k))));refine⟨p,ls,lp,ZS,D1.iy l m r RA RB,l+m+r,l,m,rfl,pp,s4 _ _ g,(hZ.mono s4).weak λ_ _=>trivial,by lia,by lia,λq hq=>⟨S0.len q hq,S0.near q hq⟩,by lia,?_,?_⟩
  ·rw[aZ]
   have:=CB l m
   rw[pZ]at this;exact aj (λz=>some (HO.lst z)) this
  intro t1 f1 sp FS GS H4 s5 ht1 U9 _ _ _ kf JM hG;refine⟨t1,_,1,.ref sp,rfl,rfl,.of U9,cb (j:=1) rfl,?_⟩;have s6:=(sm.trans s4).trans s5;refine⟨_,rfl,sp,rfl,⟨_,.of JM⟩,CH (g:=D1.ue l m) (cp:=[some (.int (m:Int)),some (.int (l:Int))]) JM hG (by lia) (λx row H1 wj s1 gx=>?_) ?_⟩
  ·have hw:=S1.len row wj;refine nE (v7 (a:=x) (ns:=row) rfl gx (iG rfl) (by lia)) (v8 (a:=x) (ns:=row) (k:=l+m) rfl gx ?_ (by lia)) ?_
   ·rw[pZ];exact U2 (iG rfl) (iG rfl)
   ·simp only[dD,eF];lia
  rintro H5 TS s7 hT lt dt;have s8:aJ H (upd H5 lt (.lst TS)):=(s6.trans s7).trans (.upd dt);have g8:(upd H5 lt (.lst TS)) lt=some (.lst TS):=aZ;have zk:=hT.mono (aJ.upd dt (o:=.lst TS));generalize upd H5 lt (.lst TS)=H6 at s8 g8 zk ⊢;have zk:LR (λa=>H4 a=none) H6 TS (D1.j4 p l m r RA RB):=zk;have thl:(D1.j4 p l m r RA RB).length≤800:=by
   unfold D1.j4;rw[br];lia
  refine⟨_,rfl,_,rfl,_,rfl,_,rfl,_,rfl,_,rfl,_,_,rfl,rfl,_,rfl,λpr ug=>⟨pr,_,_,rfl,aZ,⟨by decide,by decide,by lia,by lia⟩,by lia,λlp CK=>?_⟩⟩;have s9:=(aJ.upd ug (o:=.kX 0 ((l:Int)+(r:Int)))).trans (aJ.upd CK (o:=.lst ((List.range ((l:Int)+(r:Int)-0).toNat).map λ(k:Nat)=>V.int (0+k))));refine⟨p,lt,lp,TS,D1.j4 p l m r RA RB,l+r,0,l+r,rfl,pp,s9 _ _ g8,(zk.mono s9).weak λ_ _=>trivial,by lia,by lia,λq hq=>.of (JL q hq),by lia,?_,?_⟩
  ·rw[aZ]
   have:=CB 0 (l+r)
   rw[oM,pZ]at this;exact aj (λz=>some (HO.lst z)) this
  intro t2 f2 sp2 Va GS2 H7 mQ qN Vb pI uj Vc _ _ _;have uk:=s8.trans s9;refine⟨t2,_,0,.ref f2,rfl,rfl,.of Vb,cb (j:=0) rfl,by show 3≤sizeLine;decide,λt ht=>?_⟩;have s12:=uk.trans mQ;exact q t _ (s12.trans (.upd ht)) ⟨eE s12 ht,f2,Va,aZ,eE uk pI,aJ.upd ht _ _ uj,(Vc.mono (.upd ht)).weak λx z=>eE uk z⟩
end S21
namespace L2
open PySem PySem.Spec PyProof.Rows
section
variable{P:Program}{w:World}{fs Em:List Addr}{H H1:Hp}{h h1 h2 B:Heap}
end
section
variable{P:Program}{w:World}{K:Frag}{mg:Str→Option Value}{base:Heap}{N:List Str}{qual:Str}{scope:Scope}{f C:Addr}{cd:Value}{A:Around}{outer:List Env}{s:Shared}{H:Hp}{E:XK}
end
section
variable{P:Program}{w:World}{K:Frag}{mg:Str→Option Value}{base:Heap}
end
section
variable{X:Cx}{x:Str}{np eY pos:Pos}{C:Addr}{bmB:List Value}{B acp acq:String}{e₀:Expr}{cQ:List Expr}{t:TA}{E:XK}
end
open PySem.W (Looks)
open PySem.Builtin PySem.Builtin.ObjectAttr PySem.Builtin.Getset_descriptor
section
variable{X:Cx}{C W ea:Addr}{aF:List (Addr×Obj)}{σ:St}{H1 H':Hp}{s1 s':Shared}{B:Heap}{a0:Value}
end
section
variable{X:Cx}{C W f:Addr}{k:Nat}{fd:FuncData}{ps:List Str}{sp:Sp}{x wn n y:Str}{p cp ep wp np yp ap hp pos:Pos}{e:Expr}{es:List Expr}{t:TA}{ix ie:Nat}
end
section
variable{prog:Program}{w:World}{A:Around}{E:QV}{K:Frag}{C a:Addr}
end
section
variable{X:Cx}(K:Frag)(hK:X.K=K)
include hK
theorem Vd{T:String}:eI X (.builtin "isinstance") (λxs H Q=>∃x b,xs=[.str x,.ty T]∧kitOne K (.type "str") (.type T)=some b∧Q (.bl b) H):=by
 subst hK;intro aF s σ H vs us Q I r ⟨x,b,e,k,q⟩;exact Bg aF s σ H vs us Q I r ⟨_,_,b,e,.str x,k,q⟩
end
end L2
namespace S21
open PySem L2 Bw
variable{D:Ends}{H H0:Hp}{HS vs:List V}{R:VK}{a hl wl:Addr}{d d0:D1.Dr}{ds:List D1.Dr}{i:Nat}{p:Int}{s4 s6 s7 s8 s9:Option V}{t u:TS}{te:TE}{x:Str}{σ:St}
theorem JN{X:Cx}(K:Frag)(hK:X.K=K){T:String}:eI X (.builtin "isinstance") (λxs H Q=>∃(x:V)(b:Bool),xs=[x,.ty T]∧((∃i,x=.int i∧kitOne K (.type "int") (.type T)=some b)∨∃s,x=.str s∧kitOne K (.type "str") (.type T)=some b)∧Q (.bl b) H):=by
 rintro aF s σ H vs us Q I r ⟨x,b,e,h|h,q⟩
 ·obtain⟨i,rfl,k⟩:=h;exact O8 K hK aF s σ H vs us Q I r ⟨i,b,e,k,q⟩
 ·obtain⟨y,rfl,k⟩:=h;exact Vd K hK aF s σ H vs us Q I r ⟨y,b,e,k,q⟩
inductive e8(p:Int)(hl:Addr)(H:Hp):List D1.Dr→List V→Prop where
 |nil:e8 p hl H [] []
 |cons {a:Addr} {d:D1.Dr} {ds:List D1.Dr} {HS:List V} (h:eQ (·≠hl) H a d.l d.r (d.cq p)) (r:e8 p hl H ds HS):e8 p hl H (d::ds) (HS++[.ref a])
section
variable{p:Int}{hl:Addr}{H H':Hp}{ds:List D1.Dr}{HS:List V}
theorem e8.mono(h:e8 p hl H ds HS)(s:aJ H H'):e8 p hl H' ds HS:=by
 induction h with
 |nil=>exact .nil
 |cons h _ ih=>exact .cons (h.mono s) ih
theorem e8.wr{o:HO}(h:e8 p hl H ds HS):e8 p hl (upd H hl o) ds HS:=by
 induction h with
 |nil=>exact .nil
 |cons h _ ih=>exact .cons h.wr ih
theorem e8.len(h:e8 p hl H ds HS):HS.length=ds.length:=by
 induction h with
 |nil=>rfl
 |cons _ _ ih=>rw[bh,ih];rfl
theorem e8.pop(h:e8 p hl H (d::ds) HS):∃a gG,HS=gG++[.ref a]∧eQ (·≠hl) H a d.l d.r (d.cq p)∧e8 p hl H ds gG:=by
 cases h with
 |cons h r=>exact⟨_,_,rfl,h,r⟩
theorem Ve:(HS++[V.ref a])[(HS++[V.ref a]).length-1]?=some (.ref a):=by simp
theorem Vf:(HS++[V.ref a]).dropLast=HS:=by simp
end
def wk(K:Frag):Sp:=λvs H Q _=>∃(p:Int)(a:Addr)(d:D1.Dr),vs=[.int p,.ref a]∧p∈cK∧H a=some (.lst (d.aE.map bY))∧d.wf p∧d.bD 64∧d.aE.length≤9000000∧
 ∀t H' b TS,aJ H H'→H' t=some (.lst [.int (d.l:Int),.int (d.r:Int),.ref b])→bQ K H' b TS→du K H' TS ((jh p (d.cq p)).map jg)→Q (.ref t) H'
noncomputable abbrev Vg:List Str:=["p","words","held","number","back","word","left","right","rows","one"]
theorem jD:cY ["p","words","held","number","back","word","left","right","rows","one"] ["p","words"] (bp qD):=dE rfl rfl rfl (by decide +kernel) rfl
theorem Vh:(["row","left"]:List Str).Nodup:=by decide +kernel
def wm(K:Frag)(te:TE):TS:=rS (qi K "list" u0 (aL 2) (aI te aV))
def um(K:Frag):TE:=xJ K "list" AV (aL 2)
def CL(K:Frag):TT:=eU (jV (λxs H Q=>∃(x:V)(b:Bool),xs=[x,.ty "int"]∧((∃i,x=.int i∧kitOne K (.type "int") (.type "int")=some b)∨∃s,x=.str s∧kitOne K (.type "str") (.type "int")=some b)∧Q (.bl b) H) (aI (aL 5) (aI (tC (.ty "int")) aV)))
def wo(x:String):TT:=eU (aT iN (aL 5) (tC (.str x)))
def Vi(K:Frag):TS:=bu (cx (um K) (sv K 3 (ip (bo 6) (ip (bo 7) (ip (bo 8) qb)))))
 (wm K (bg (aI (aL 7) (aI (aL 6) (aI (n9 (qc K (aL 8)) 1 [6] (bo 0) mK (aT cc (jv (jd K) (aL 0) (iO (aL 1)) o4) (jv (jd K) (aL 0) o4 (iO (aL 1))))) aV)))))
def Vj(K:Frag):TS:=bu (cx (um K) (bo 9)) (wm K (fw CI [] E0 (aI (aL 0) (aI (aL 9) (aI (um K) aV)))))
def Vk(K:Frag):TS:=bu (cx (um K) (bo 9)) (wm K (fw CG [] E0 (aI (aL 9) (aI (um K) aV))))
def Vl(K:Frag):TS:=wm K (fw ze [] E0 (aI (aL 0) (aI (aL 5) (aI (aT (ff K) (bg (aI (tC (.int 1)) (aI (aL 3) aV))) (jV (λxs H Q=>(∃i,xs=[.int i]∧Q (.int i) H)∨∃k,xs=[.bl k]∧Q (.int (if k then 1 else 0)) H) (aI (aT iN (aL 5) (tC (.str "times"))) aV))) aV))))
theorem zl(hi:σ[2]?=some (some (.ref hl)))
  (gl:H hl=some (.lst HS))
  (h:∀R:VK,(∀a H1 j5,aJ H0 H1→H1 hl=some (.lst j5)→j5.length≤9000000→e8 p hl H1 ds j5→eQ (·≠hl) H1 a d.l d.r (d.cq p)→R (.ref a) H1)→te σ H R) (j6:H0 hl=none)
  (k:∀H' gG,aJ H0 H'→H' hl=some (.lst gG)→e8 p hl H' (d::ds) gG→D.nx σ H'):wm K te D σ H:=by
 have z:(9000000:Nat)<sizeLine:=by decide
 refine⟨_,hi,.inl ⟨rfl,_,cR.of gl⟩,h _ λa H1 j5 s1 g1 z1 h1 t1=>⟨hl,j5,.ref a,rfl,rfl,g1,by lia,?_⟩⟩;exact k _ _ (s1.write j6) aZ (.cons t1.wr h1.wr)
theorem zo{H1:Hp}{o:HO}{l r:Nat}{cq:LL}(g:H hl=some o)(t:eQ (λx=>H x=none) H1 a l r cq):eQ (·≠hl) H1 a l r cq:=t.weak λx hx e=>by
 rw[e,g]at hx;cases hx
def wq(K:Frag):TS:=dQ (CL K) (cx (aL 5) (bo 3)) (dQ (wo "back") (Vi K) (dQ (wo "then") (Vj K) (dQ (wo "beside") (Vk K) (Vl K))))
theorem JO{y:Str}:decide (V.str x=V.str y)=decide (x=y):=by
 by_cases h:x=y
 ·rw[ax h,ax (aj V.str h)]
 ·rw[ae h,ae λz=>h (V.str.inj z)]
theorem uo{y:String}(h5:σ[5]?=some (some (.str x)))(fg:x≠Str.ofString y)(h:u D σ H):dQ (wo y) t u D σ H:=by
 refine⟨_,h5,rfl,_,rfl,?_⟩;rw[JO,ae fg];exact cW h
theorem CM{y:String}(h5:σ[5]?=some (some (.str (Str.ofString y))))(h:t D σ H):dQ (wo y) t u D σ H:=by
 refine⟨_,h5,rfl,_,rfl,?_⟩;rw[ax rfl];exact eP h
theorem zp(h5:σ[5]?=some (some (.str x)))(h:u D σ H):dQ (CL K) t u D σ H:=
 ⟨_,h5,_,false,rfl,.inr ⟨x,rfl,Gd K⟩,_,rfl,cW h⟩
theorem Vm{i:Int}(h5:σ[5]?=some (some (.int i)))(h:t D σ H):dQ (CL K) t u D σ H:=
 ⟨_,h5,_,true,rfl,.inl ⟨i,rfl,Gb K⟩,_,rfl,eP h⟩
structure uq(p:Int)(d0:D1.Dr)(wl hl:Addr)(H0:Hp)(D:Ends)(i:Nat):Prop where
 j6:H0 hl=none
 nx:∀num s4 s5 s6 s7 s8 s9 gG H',aJ H0 H'→H' hl=some (.lst gG)→e8 p hl H' (D1.fX (none,[d0]) i).2 gG→(∀m,(D1.fX (none,[d0]) i).1=some m→num=m)→D.nx [some (.int p),some (.ref wl),some (.ref hl),some (.int num),s4,s5,s6,s7,s8,s9] H'
theorem oF{x:String}{num n':Int}(C:uq p d0 wl hl H0 D i)(e:D1.fX (none,[d0]) i=(none,d::ds))
  (sm:aJ H0 H) (g:H hl=some (.lst HS)) (hz:HS.length≤9000000) (h:e8 p hl H ds HS) (hn:n'=if x="times" then num else 1) (hb:v5 (Str.ofString x) n'=(d.l,d.r,d.cq p)) (hx:decide (Str.ofString x=Str.ofString "times")=decide (x="times"))
  (n1:Str.ofString x≠Str.ofString "back") (n2:Str.ofString x≠Str.ofString "then") (n3:Str.ofString x≠Str.ofString "beside") :
  wq K D [some (.int p),some (.ref wl),some (.ref hl),some (.int num),s4,some (.str (Str.ofString x)),s6,s7,s8,s9] H:=by
 refine zp rfl (uo rfl n1 (uo rfl n2 (uo rfl n3 ?_)));refine zl (d:=d) (ds:=ds) rfl g (λR k=>?_) C.j6 λH' gG s' g' h'=>C.nx _ _ _ _ _ _ _ gG H' s' g' (by rw[e];exact h') (λm hm=>by rw[e]at hm;cases hm);refine⟨_,rfl,_,rfl,_,rfl,by show 2≤sizeLine;decide,λl vc=>⟨_,rfl,rfl,.inr ⟨_,rfl,?_⟩⟩⟩;have s1:aJ H (upd H l (.lst [.int 1,.int num])):=.upd vc;have fin:∀idx v,idx=(if decide (x="times")=true then(1:Int)else 0)→mz [V.int 1,V.int num] idx=some v→v=.int n'→(ff K) (.ref l) (.int idx) (upd H l (.lst [.int 1,.int num])) λv H'=>ze [.int p,.str (Str.ofString x),v] H' R E0:=λidx v e1 e2 e3=>by
  subst e3;refine⟨l,_,idx,_,rfl,rfl,.of aZ,e2,p,Str.ofString x,n',rfl,?_⟩;rw[hb];intro a H2 s2 t2;exact k a H2 HS ((sm.trans s1).trans s2) ((s1.trans s2) _ _ g) hz (h.mono (s1.trans s2)) (zo (s1 _ _ g) t2)
 rw[JO,hx];refine fin _ (.int n') rfl ?_ rfl;rw[hn];by_cases ht:x="times"
 ·rw[af ht,ax ht,af rfl];exact cb (j:=1) rfl
 ·rw[ag ht,ae ht,ag fi];exact cb (j:=0) rfl
theorem wt{Q:VK}(hi:σ[2]?=some (some (.ref hl)))(g:H hl=some (.lst HS))(h:e8 p hl H (d::ds) HS)(hz:HS.length≤9000000)(sm:aJ H0 H)(j6:H0 hl=none)
  (k:∀a H1 j5,aJ H0 H1→H1 hl=some (.lst j5)→j5.length≤9000000→e8 p hl H1 ds j5→(∀{b:Addr}{l r:Nat}{cq:LL},eQ (·≠hl) H b l r cq→eQ (·≠hl) H1 b l r cq)→eQ (·≠hl) H1 a d.l d.r (d.cq p)→Q (.ref a) H1):um K σ H Q:=by
 obtain⟨a,gG,rfl,t,h'⟩:=h.pop;refine⟨_,hi,.inl ⟨rfl,_,cR.of g⟩,hl,_,.ref a,rfl,rfl,g,Ve,?_⟩;rw[Vf];rw[bh]at hz;exact k a _ gG (sm.write j6) aZ (by lia) h'.wr (λt=>t.wr) t.wr
theorem Vn{num:Int}(C:uq p d0 wl hl H0 D i)(e:D1.fX (none,[d0]) i=(none,.back d::ds))
  (sm:aJ H0 H) (g:H hl=some (.lst HS)) (hz:HS.length≤9000000) (h:e8 p hl H (d::ds) HS) (hR:∀q∈d.cq p,q.length=d.l+d.r) (hn:(d.cq p).length≤400) (hw:d.l+d.r≤400) :
  wq K D [some (.int p),some (.ref wl),some (.ref hl),some (.int num),s4,some (.str (Str.ofString "back")),s6,s7,s8,s9] H:=by
 refine zp rfl (CM rfl ?_);refine wt (p:=p) (d:=d) (ds:=ds) rfl g h hz sm C.j6 λa H1 j5 s1 g1 z1 h1 _ t1=>?_;obtain⟨na,b,XS,ga,nb,gb,hL⟩:=t1;refine oD (.of ga) ?_;refine zl (d:=.back d) (ds:=ds) rfl g1 (λR k=>?_) C.j6 λH' gG s' g' h'=>C.nx _ _ _ _ _ _ _ gG H' s' g' (by rw[e];exact h') (λm hm=>by rw[e]at hm;cases hm);refine⟨_,rfl,_,rfl,_,rfl,b,rfl,⟨_,.of gb⟩,CH (g:=D1.oB d.l) (cp:=[some (.int (d.l:Int))]) gb hL (by lia) (λx row H2 wj s2 gx=>?_) ?_⟩
 ·have yR:=hR row wj;refine nE (v8 (a:=x) (ns:=row) rfl gx (iG rfl) (by lia)) (v7 (a:=x) (ns:=row) rfl gx (iG rfl) (by lia)) ?_;simp only[dD,eF];lia
 ·rintro H2 MS s2 hM lm om;refine⟨by show 3≤sizeLine;decide,λt ht=>?_⟩;obtain⟨s3,t3⟩:=eQ.new (l:=d.r) (r:=d.l) s2 hM om ht;exact k t _ j5 (s1.trans s3) (s3 _ _ g1) z1 (h1.mono s3) (zo g1 t3)
theorem Vo{a b:D1.Dr}{num:Int}(pp:p∈cK)(C:uq p d0 wl hl H0 D i)(e:D1.fX (none,[d0]) i=(none,.aM a b::ds))
  (sm:aJ H0 H) (g:H hl=some (.lst HS)) (hz:HS.length≤9000000) (h:e8 p hl H (a::b::ds) HS) (vM:b.l=a.r) (ra:Bw.d6 p (a.l+a.r) (a.cq p)) (rb:Bw.d6 p (b.l+b.r) (b.cq p)) (na:(a.cq p).length≤400) (nb:(b.cq p).length≤400) (wa:a.l+a.r≤400) (wb:b.l+b.r≤400) :
  wq K D [some (.int p),some (.ref wl),some (.ref hl),some (.int num),s4,some (.str (Str.ofString "then")),s6,s7,s8,s9] H:=by
 refine zp rfl (uo rfl (by decide) (CM rfl ?_));refine wt (p:=p) (d:=a) (ds:=b::ds) rfl g h hz sm C.j6 λaa H1 j5 s1 g1 z1 h1 _ t1=>?_;refine zl (d:=.aM a b) (ds:=ds) rfl g1 (λR k=>?_) C.j6 λH' gG s' g' h'=>C.nx _ _ _ _ _ _ _ gG H' s' g' (by rw[e];exact h') (λm hm=>by rw[e]at hm;cases hm);refine⟨_,rfl,_,rfl,?_⟩;refine wt (p:=p) (d:=b) (ds:=ds) rfl g1 h1 z1 s1 C.j6 λbb H2 CN s2 g2 z2 h2 up t2=>?_;rw[vM]at t2 rb wb;refine⟨p,aa,bb,a.l,a.r,b.r,_,_,rfl,pp,(up t1).weak λ_ _=>trivial,t2.weak λ_ _=>trivial,ra,rb,na,nb,wa,wb,λt H3 s3 t3=>?_⟩;exact k t H3 CN (s2.trans s3) (s3 _ _ g2) z2 (h2.mono s3) (zo g2 t3)
theorem Vp{a b:D1.Dr}{num:Int}(C:uq p d0 wl hl H0 D i)(e:D1.fX (none,[d0]) i=(none,.bf a b::ds))
  (sm:aJ H0 H) (g:H hl=some (.lst HS)) (hz:HS.length≤9000000) (h:e8 p hl H (a::b::ds) HS) (ra:Bw.d6 p (a.l+a.r) (a.cq p)) (rb:Bw.d6 p (b.l+b.r) (b.cq p)) (na:(a.cq p).length≤400) (nb:(b.cq p).length≤400) (wa:a.l+a.r≤400) (wb:b.l+b.r≤400) :
  wq K D [some (.int p),some (.ref wl),some (.ref hl),some (.int num),s4,some (.str (Str.ofString "beside")),s6,s7,s8,s9] H:=by
 refine zp rfl (uo rfl (by decide) (uo rfl (by decide) (CM rfl ?_)));refine wt (p:=p) (d:=a) (ds:=b::ds) rfl g h hz sm C.j6 λaa H1 j5 s1 g1 z1 h1 _ t1=>?_;refine zl (d:=.bf a b) (ds:=ds) rfl g1 (λR k=>?_) C.j6 λH' gG s' g' h'=>C.nx _ _ _ _ _ _ _ gG H' s' g' (by rw[e];exact h') (λm hm=>by rw[e]at hm;cases hm);refine⟨_,rfl,?_⟩;refine wt (p:=p) (d:=b) (ds:=ds) rfl g1 h1 z1 s1 C.j6 λbb H2 CN s2 g2 z2 h2 up t2=>?_;refine⟨aa,bb,a.l,a.r,b.l,b.r,_,_,rfl,(up t1).weak λ_ _=>trivial,t2.weak λ_ _=>trivial,λq hq=>(ra q hq).1,λq hq=>(rb q hq).1,na,nb,wa,wb,λt H3 s3 t3=>?_⟩;exact k t H3 CN (s2.trans s3) (s3 _ _ g2) z2 (h2.mono s3) (zo g2 t3)
theorem ur(pp:p∈cK)(h:d.wf p∧d.bD 64):Bw.d6 p (d.l+d.r) (d.cq p)∧(d.cq p).length≤400∧d.l+d.r≤400:=by
 obtain⟨h1,h2,_⟩:=D1.UJ pp h.1
 have:=D1.Ju (B:=64) (by decide) h.2
 exact⟨h1,by lia,by lia⟩
theorem Vq{num:Int}{wd:D1.Wd}(pp:p∈cK)(C:uq p d0 wl hl H0 D i)(ok:D1.jx p 64 (D1.fX (none,[d0]) i))
  (hw:(D1.jC (D1.fX (none,[d0]) i))[0]?=some wd) (sm:aJ H0 H) (g:H hl=some (.lst HS)) (hz:HS.length≤9000000) (h:e8 p hl H (D1.fX (none,[d0]) (i+1)).2 HS) (hn:∀m,(D1.fX (none,[d0]) (i+1)).1=some m→num=m) :
  wq K D [some (.int p),some (.ref wl),some (.ref hl),some (.int num),s4,some (bY wd),s6,s7,s8,s9] H:=by
 have e1:D1.fX (none,[d0]) (i+1)=D1.qY (D1.fX (none,[d0]) i):=rfl;rw[e1]at h hn;generalize hs:D1.fX (none,[d0]) i=st at h hn ok hw;obtain⟨ν,ds⟩:=st;cases ν with
 |some m=>
  cases hw;exact Vm rfl ⟨_,rfl,C.nx _ _ _ _ _ _ _ HS H sm g (by rw[hs];exact h) (λm' hm=>by rw[hs]at hm;cases hm;rfl)⟩
 |none=>
  cases ds with
  |nil=>cases hw
  |cons d ds=>
   have hd:=ok.2 d dv;cases d with
   |times n=>
    cases hw
    have:num=n:=hn n rfl
    subst this;exact oF (x := "times") (n':=num) C hs sm g hz h rfl rfl (by decide) (by decide) (by decide) (by decide)
   |id=>cases hw;exact oF (x := "id") (n':=1) C hs sm g hz h rfl rfl (by decide) (by decide) (by decide) (by decide)
   |swap=>cases hw;exact oF (x := "swap") (n':=1) C hs sm g hz h rfl rfl (by decide) (by decide) (by decide) (by decide)
   |copy=>cases hw;exact oF (x := "copy") (n':=1) C hs sm g hz h rfl rfl (by decide) (by decide) (by decide) (by decide)
   |fin=>cases hw;exact oF (x := "end") (n':=1) C hs sm g hz h rfl rfl (by decide) (by decide) (by decide) (by decide)
   |add=>cases hw;exact oF (x := "add") (n':=1) C hs sm g hz h rfl rfl (by decide) (by decide) (by decide) (by decide)
   |none=>cases hw;exact oF (x := "none") (n':=1) C hs sm g hz h rfl rfl (by decide) (by decide) (by decide) (by decide)
   |ig=>cases hw;exact oF (x := "cup") (n':=1) C hs sm g hz h rfl rfl (by decide) (by decide) (by decide) (by decide)
   |empty=>cases hw;exact oF (x := "empty") (n':=1) C hs sm g hz h rfl rfl (by decide) (by decide) (by decide) (by decide)
   |back d=>
    cases hw;obtain⟨r1,r2,r3⟩:=ur pp (d:=d) hd;exact Vn C hs sm g hz h (λq hq=>(r1 q hq).1) r2 r3
   |aM a b=>
    cases hw;obtain⟨a1,a2,a3⟩:=ur pp (d:=a) ⟨hd.1.1,hd.2.1⟩;obtain⟨b1,b2,b3⟩:=ur pp (d:=b) ⟨hd.1.2.1,hd.2.2.1⟩;exact Vo pp C hs sm g hz h hd.1.2.2.symm a1 b1 a2 b2 a3 b3
   |bf a b=>
    cases hw;obtain⟨a1,a2,a3⟩:=ur pp (d:=a) ⟨hd.1.1,hd.2.1⟩;obtain⟨b1,b2,b3⟩:=ur pp (d:=b) ⟨hd.1.2,hd.2.2.1⟩;exact Vp C hs sm g hz h a1 b1 a2 b2 a3 b3
theorem JP{f fB fT fS fR:Addr}{fd pO vJ jE wu:FuncData}(F:cL K "_law_meaning" "_law_meaning" qD f fd)(T:Txt mg)
  (GT:bN P w K mg base bO 3 fT vJ ["p","one","other"] CI) (kT:Kp K fT) (bT:Binds K vJ ["p","one","other"] []) (mT:Mg mg "_law_then" fT)
  (GS:bN P w K mg base bO 1 fS jE ["one","other"] CG) (kS:Kp K fS) (bS:Binds K jE ["one","other"] []) (mS:Mg mg "_law_beside" fS)
  (GB:bN P w K mg base bO 1 fB pO ["p","word","number"] ze) (kB:Kp K fB) (bB:Binds K pO ["p","word","number"] []) (mB:Mg mg "_law_box" fB)
  (GR:bN P w K mg base bO 3 fR wu ["p","rows","size"] (Jy K)) (kR:Kp K fR) (bR:Binds K wu ["p","rows","size"] []) (mR:Mg mg "_law_reduced" fR) :
  bN P w K mg base bO 4 f fd ["p","words"] (wk K):=by
 refine F.ok jD (λvs H Q E h=>?_) (λcj A outer s H vs Q E hr h=>?_)
 ·obtain⟨p,a,d,rfl,_⟩:=h;rfl
 ·obtain⟨p,a,d,rfl,pp,ga,wf,nr,cU,q⟩:=h;have zq:dR 1 _:=hr.mono (by lia);refine⟨_,ba (bw (i:=2) jD.nd rfl (.inl rfl) (bc aK)) (ba (bw (i:=3) jD.nd rfl (.inl rfl) aY) (ba (ja jq rfl (qd rfl T.range (aG (gp (og K rfl) rfl T.len oh (aG (pv 1) aK)) aK)) (cB (i:=4) jD.nd rfl (.inl rfl)) (ba (bw (i:=5) jD.nd rfl (.inl rfl) (bZ (cH K rfl) (pv 1) (aU iM (aU iM (gp (og K rfl) rfl T.len oh (aG (pv 1) aK)) aY) (pv 4)) (λ_ _=>rfl))) (bj (cS (uN (gp (JN K rfl (T := "int")) rfl T.isinstance xZ (aG (pv 5) (aG (xY rfl T.int Bk) aK)))) (bj (bw (i:=3) jD.nd rfl (.inl rfl) (pv 5))) (bj (cS (cE dZ (pv 5) aW (cD _)) (ba (nX (sQ K rfl (pv 2)) (oi rfl (eh (cB (i:=6) jD.nd rfl (Or.inr rfl)) (eh (cB (i:=7) jD.nd rfl (.inl rfl)) (eh (cB (i:=8) jD.nd rfl (.inl rfl)) kZ))))) (bj (jS (iP ke nN nO lC (pv 2) (aG (bc (aG (pv 7) (aG (pv 6) (aG (mV (N:=["row","left"]) (own:=1) (caps:=[6]) rfl (gg K rfl (pv 8)) (show eZ Vg (bp qD) ["row","left"] 1 [6] _ from .mk' (by decide +kernel)) (λ_ _ _ _ _=>cB (i:=0) Vh rfl (.inl rfl)) (λ_ _ _ _ _=>jw) (λ_ _ _ _ _=>aU bV (eX (gu K rfl) (pv 0) (dy (pv 1)) gq) (eX (gu K rfl) (pv 0) gq (dy (pv 1))))) aK)))) aK))))) (bj (cS (cE dZ (pv 5) aW (cD _)) (ba (bw (i:=9) jD.nd rfl (.inl rfl) (sQ K rfl (pv 2))) (bj (jS (iP ke nN nO lC (pv 2) (aG (cO GT hr rfl mT kT bT .nil cP (aG (pv 0) (aG (pv 9) (aG (sQ K rfl (pv 2)) aK)))) aK))))) (bj (cS (cE dZ (pv 5) aW (cD _)) (ba (bw (i:=9) jD.nd rfl (.inl rfl) (sQ K rfl (pv 2))) (bj (jS (iP ke nN nO lC (pv 2) (aG (cO GS zq rfl mS kS bS .nil cP (aG (pv 9) (aG (sQ K rfl (pv 2)) aK))) aK))))) (bj (jS (iP ke nN nO lC (pv 2) (aG (cO GB zq rfl mB kB bB .nil cP (aG (pv 0) (aG (pv 5) (aG (bZ (cH K rfl) (bc (aG aY (aG (pv 3) aK))) (jc Ni rfl T.int Bk (aG (AF dZ (pv 5) aW (cD _)) aK)) (λ_ _=>rfl)) aK)))) aK)))))))))))))) (ba (nX (bZ (cH K rfl) (pv 2) aY (λ_ _=>rfl)) (oi rfl (eh (cB (i:=6) jD.nd rfl (Or.inr rfl)) (eh (cB (i:=7) jD.nd rfl (.inl rfl)) (eh (cB (i:=8) jD.nd rfl (.inl rfl)) kZ))))) (bj (cA (bc (aG (pv 6) (aG (pv 7) (aG (cO GR hr rfl mR kR bR .nil cP (aG (pv 0) (aG (pv 8) (aG (aU fu (pv 6) (pv 7)) aK)))) aK))))))))),?_⟩
  have z9:(9000000:Nat)<sizeLine:=by decide
  refine⟨by decide,λhl JQ=>?_⟩;have s0:aJ H (upd H hl (.lst [])):=.upd JQ;have g0:(upd H hl (.lst [])) hl=some (.lst []):=aZ;generalize upd H hl (.lst [])=H0 at s0 g0 ⊢;have eN:(d.aE.map bY).length=d.aE.length:=br _;have Vr:D1.jx p 64 (none,[d]):=⟨λm e=>(nomatch e),λd' h'=>by rw[cX.mp h'];exact⟨wf,nr⟩⟩;refine⟨_,rfl,a,_,rfl,.inl (.of (s0 _ _ ga)),_,rfl,by lia,by lia,xC (n:=(d.aE.map bY).length) (λk σ H'=>aJ H H'∧∃num s4 s5 s6 s7 s8 s9 HS,σ=[some (.int p),some (.ref a),some (.ref hl),some (.int num),s4,s5,s6,s7,s8,s9]∧H' hl=some (.lst HS)∧e8 p hl H' (D1.fX (none,[d]) (d.aE.length-k)).2 HS∧∀m,(D1.fX (none,[d]) (d.aE.length-k)).1=some m→num=m) ⟨s0,1,none,none,none,none,none,none,[],rfl,g0,?_,λm e=>?_⟩ ?_ ?_⟩
  ·rw[Nat.sub_zero,D1.Jw];exact .nil
  ·rw[Nat.sub_zero,D1.Jw]at e;cases e
  ·rintro k σ H1 hk ⟨sm,num,s4,s5,s6,s7,s8,s9,HS,rfl,g,hH,hn⟩;rw[eN]at hk;rw[jO];obtain⟨i,hi⟩:∃i,d.aE.length-k=i+1:=⟨d.aE.length-k-1,by lia⟩;rw[hi]at hH hn;have mY:d.aE.length-(k+1)=i:=by lia
   have JR:i<d.aE.length:=by lia
   have hw:=D1.UO (d:=d) (i:=i);rw[cg JR]at hw;have mZ:=D1.UP d (i+1);have hz:=hH.len;refine⟨_,rfl,_,rfl,a,_,rfl,.inl (.of (sm _ _ ga)),_,_,rfl,rfl,_,rfl,_,_,rfl,rfl,a,_,(i:Int),bY (d.aE[i]),rfl,?_,.of (sm _ _ ga),cb (by rw[fj,cg JR];rfl),?_⟩
   ·refine aj V.int ?_;rw[eN];lia
   refine Vq pp (⟨JQ,λVs Cb Vt B6 Vu Vv CO gG H' s' g' h' An=>?_⟩:uq p d a hl H _ i) (D1.Jv Vr i) hw.symm sm g (by lia) hH hn;refine⟨s',Vs,Cb,Vt,B6,Vu,Vv,CO,gG,rfl,g',?_,?_⟩
   ·rw[mY];exact h'
   ·rw[mY];exact An
  ·rintro σ H1 ⟨sm,num,s4,s5,s6,s7,s8,s9,HS,rfl,g,hH,hn⟩;rw[eN,Nat.sub_self]at hH;obtain⟨t,gG,rfl,⟨nt,b,XS,gt,nb,gb,hL⟩,iW⟩:=e8.pop (d:=d) (ds:=[]) hH;cases iW;obtain⟨r1,r2,r3⟩:=ur pp ⟨wf,nr⟩;refine⟨_,rfl,hl,_,0,.ref t,rfl,rfl,.of g,cb (j:=0) rfl,oD (.of gt) ?_⟩;refine⟨_,rfl,_,rfl,_,rfl,_,rfl,_,rfl,_,rfl,_,_,rfl,rfl,p,b,XS,d.cq p,d.l+d.r,?_,pp,gb,hL.weak λ_ _=>trivial,by lia,by lia,r1,λu H2 DS s2 h2 h3=>⟨by show 3≤sizeLine;lia,λv hv=>?_⟩⟩
   ·rw[pZ];rfl
   ·exact q v _ u DS ((sm.trans s2).trans (.upd hv)) aZ ((aJ.upd hv).cG h2) (h3.mono (.upd hv))
def WL(H:Hp)(b:Addr)(d:D1.Dr):Prop:=H b=some (.lst (d.aE.map bY))
def WT(H:Hp)(a:Addr)(d:D1.Dr):Prop:=∃b,H a=some (.lst [.ref b,.int (d.l:Int),.int (d.r:Int)])∧WL H b d
def gH(H:Hp)(vs:List V)(ds:List D1.Dr):Prop:=vs.length=ds.length∧∀(i:Nat)(v:V)(d:D1.Dr),vs[i]?=some v→ds[i]?=some d→∃a,v=.ref a∧WT H a d
theorem WT.mono{H':Hp}(h:WT H a d)(s:aJ H H'):WT H' a d:=let ⟨b,g1,g2⟩:=h;⟨b,s _ _ g1,s _ _ g2⟩
theorem gH.mono{H H':Hp}{vs:List V}{ds:List D1.Dr}(h:gH H vs ds)(s:aJ H H'):gH H' vs ds:=⟨h.1,λi v d e1 e2=>let ⟨a,e,w⟩:=h.2 i v d e1 e2;⟨a,e,w.mono s⟩⟩
theorem gH.nil:gH H [] []:=⟨rfl,λi v d e=>by simp at e⟩
theorem gH.cons(h:WT H a d)(r:gH H vs ds):gH H (.ref a::vs) (d::ds):=⟨by rw[cu,cu,r.1],λi v d' e1 e2=>by
 cases i with
 |zero=>cases e1;cases e2;exact⟨a,rfl,h⟩
 |succ i=>exact r.2 i v d' e1 e2⟩
theorem gH.append{ws:List V}{es:List D1.Dr}(h:gH H vs ds)(k:gH H ws es):gH H (vs++ws) (ds++es):=⟨by rw[bh,bh,h.1,k.1],λi v d e1 e2=>by
 by_cases hi:i<vs.length
 ·rw[iA hi]at e1;rw[iA (by rw[← h.1];exact hi)]at e2;exact h.2 i v d e1 e2
 ·rw[i5 (by lia)]at e1;rw[i5 (by rw[← h.1];lia),← h.1]at e2;exact k.2 _ v d e1 e2⟩
noncomputable def wz:List Expr→Option (List Str)
 | []=>some []
 | .Constant (.str x) _ _::es=>(wz es).map (x::·)
 |_=>none
theorem JS{X:Cx}:∀(es:List Expr)(xs:List Str),wz es=some xs→PA X es (λ_ H Q=>Q (xs.map V.str) H)
 | [],xs,h=>by cases h;exact aK
 |e::es,xs,h=>by
  unfold wz at h;split at h
  case h_1=>rename_i z;cases z
  case h_2 x _ _ es' z=>
   cases z;cases e:wz es with
   |none=>rw[e]at h;cases h
   |some ys=>
    rw[e]at h;cases h;exact aG aW (JS es ys e)
  case h_3=>cases h
noncomputable def CP:Expr→Option (List Str×Int×Int)
 | .List [.List ws _,.Constant (.int l) _ _,.Constant (.int r) _ _] _=>match wz ws with
  |some xs=>some (xs,l,r)
  |none=>none
 |_=>none
def j7(ws:List Str)(l r:Int):TE:=bg (aI (bg (λ_ H Q=>Q (ws.map V.str) H)) (aI (tC (.int l)) (aI (tC (.int r)) aV)))
theorem Vw{X:Cx}{e:Expr}{ws:List Str}{l r:Int}(h:CP e=some (ws,l,r)):PE X e (j7 ws l r):=by
 unfold CP at h;split at h
 case h_2=>exact nomatch h
 case h_1 w p1 l' i1 p2 r' i2 p3 pos=>
  split at h
  case h_2=>exact nomatch h
  case h_1 xs h1=>
   cases h;exact bc (aG (bc (JS w _ h1)) (aG aY (aG aY aK)))
section
variable{K:Frag}{σ:St}{H:Hp}
def CQ(te:TE)(σ:St)(H:Hp)(d:D1.Dr):Prop:=∀H',aJ H H'→∀R:VK,(∀a di,aJ H' di→WT di a d→R (.ref a) di)→te σ H' R
def zr(ta:TA)(σ:St)(H:Hp)(ds:List D1.Dr):Prop:=∀H',aJ H H'→∀Q:List V→Hp→Prop,(∀vs di,aJ H' di→gH di vs ds→Q vs di)→ta σ H' Q
theorem CS:zr aV σ H []:=λH' _ _ q=>q [] H' (.refl _) .nil
theorem lV{ta:TA}(h:CQ te σ H d)(k:zr ta σ H ds):zr (aI te ta) σ H (d::ds):=λH' s _ q=>
 h H' s _ λ_ H1 s1 w=>k H1 (s.trans s1) _ λ_ H2 s2 r=>q _ H2 (s1.trans s2) (.cons (w.mono s2) r)
theorem nG{ws:List Str}{l r:Int}(hw:ws.map V.str=d.aE.map bY)(hl:l=d.l)(hr:r=d.r)(hn:ws.length≤10):CQ (j7 ws l r) σ H d:=λH' s R q=>by
 have z:(10:Nat)≤sizeLine:=by decide
 refine⟨by rw[br];lia,λb hb=>⟨by show 3≤sizeLine;lia,λa ha=>q a _ ((aJ.upd hb).trans (.upd ha)) ⟨b,?_,?_⟩⟩⟩
 ·rw[aZ,hl,hr]
 ·show _=_;rw[← hw];exact aJ.upd ha _ _ aZ
theorem Vx{k:Int}(h:σ[i]?=some (some (.int k))):CQ (bg (aI (bg (aI (tC (.str (Str.ofString "times"))) (aI (aL i) aV))) (aI (tC (.int 1)) (aI (tC (.int 1)) aV)))) σ H (.times k):=λH' s R q=>
 ⟨_,h,by show 2≤sizeLine;decide,λb hb=>⟨by show 3≤sizeLine;decide,λa ha=>q a _ ((aJ.upd hb).trans (.upd ha)) ⟨b,aZ,aJ.upd ha _ _ aZ⟩⟩⟩
end
def zt(_K:Frag):Sp:=λvs H Q _=>∃(p c:Int),vs=[.int p,.int c]∧p∈cK∧∀a d H',aJ H H'→WT H' a d→d.wf p→d.bD 64→d.aE.length≤3→d.l+d.r≤4→Q (.ref a) H'
theorem pP:cY ["p","cell","k","some","words","left","right"] ["p","cell"] (bp tG):=dE rfl rfl rfl (by decide +kernel) rfl
def zu:TE:=bg (aI (j7 ["id"] 1 1) (aI (j7 ["swap"] 2 2) (aI (j7 ["copy"] 1 2) (aI (j7 ["end"] 1 0) (aI (j7 ["add"] 2 1) aV)))))
def zw:TE:=bg (aI (j7 ["none"] 0 1) (aI (bg (aI (bg (aI (tC (.str (Str.ofString "times"))) (aI (aL 2) aV))) (aI (tC (.int 1)) (aI (tC (.int 1)) aV)))) (aI (j7 ["cup"] 0 2) (aI (j7 ["empty"] 0 0) aV))))
def zx:TE:=bg (aI (j7 ["copy"] 1 2) (aI (j7 ["add"] 2 1) aV))
def CT(K:Frag):TS:=bu (cx (aT (ff K) (aL 3) (aT (rI (λ_ j=>0<j) λi j=>.int (i%j)) (aL 1) (tC (.int 11)))) (sv K 3 (ip (bo 4) (ip (bo 5) (ip (bo 6) qb)))))
 (bu (dQ (eU (aT iN (aT (rI (λ_ j=>0<j) λi j=>.int (i%j)) (aT (rI nZ λi j=>.int (i/j)) (aL 1) (tC (.int 11))) (tC (.int 4))) (tC (.int 1)))) (ft (bg (aI (aT cc (bg (aI (tC (.str (Str.ofString "back"))) aV)) (aL 4)) (aI (aL 6) (aI (aL 5) aV))))) gk) (ft (bg (aI (aL 4) (aI (aL 5) (aI (aL 6) aV))))))
theorem CU{ta:TA}(h:zr ta σ H ds)(hl:ds.length≤100)(q:∀a vs H',aJ H H'→H' a=some (.lst vs)→gH H' vs ds→R (.ref a) H'):bg ta σ H R:=by
 have z:(100:Nat)≤sizeLine:=by decide
 refine h H (.refl _) _ λvs H1 s1 hd=>⟨by rw[hd.1];lia,λa ha=>?_⟩;exact q a vs _ (s1.trans (.upd ha)) aZ (hd.mono (.upd ha))
noncomputable def zy(k:Int):List D1.Dr:=([.id,.swap,.copy,.fin,.add]++[.none,.times k,.ig,.empty])++[.copy,.add]
theorem Vy{k:Int}(h0:0≤k)(h1:k<p)(h:(zy k)[i]?=some d):d.wf p∧d.bD 64∧d.aE.length≤2∧d.l+d.r≤4:=by
 have:=d8 h
 simp only[zy,dM,e9,List.not_mem_nil,or_false]at this;rcases this with((rfl|rfl|rfl|rfl|rfl)|(rfl|rfl|rfl|rfl))|(rfl|rfl);all_goals first
  |exact⟨True.intro,True.intro,by decide,by decide⟩
  |exact⟨⟨h0,h1⟩,True.intro,Nat.le.refl,by show 1+1≤4;decide⟩
theorem Vz{K:Frag}{c k:Int}(h0:0≤k)(h1:k<p)(g:H a=some (.lst vs))(hd:gH H vs (zy k))(q:∀a d H',aJ H H'→WT H' a d→d.wf p→d.bD 64→d.aE.length≤3→d.l+d.r≤4→D.rt (.ref a) H'):CT K D [some (.int p),some (.int c),some (.int k),some (.ref a),none,none,none] H:=by
 have z:(100:Nat)≤sizeLine:=by decide
 have cU:vs.length=11:=hd.1;have b0:=i6 c (show(11:Int)≠0 by decide);have b1:=i7 c (show(0:Int)<11 by decide);obtain⟨i,hi⟩:∃i:Nat,c%11=(i:Int):=⟨(c%11).toNat,by lia⟩;obtain⟨v,hv⟩:∃v,vs[i]?=some v:=⟨_,cg (show i<vs.length by lia)⟩;obtain⟨d,JT⟩:∃d,(zy k)[i]?=some d:=⟨_,cg (show i<11 by lia)⟩;obtain⟨v,rfl,b,gv,gb⟩:=hd.2 i _ d hv JT;obtain⟨w1,w2,w3,w4⟩:=Vy h0 h1 JT;refine⟨_,rfl,_,rfl,c,11,rfl,rfl,(by decide:(0:Int)<11),a,vs,c%11,.ref v,rfl,rfl,.of g,by rw[hi];exact cb hv,oD (.of gv) ?_⟩;refine⟨_,rfl,c,11,rfl,rfl,⟨by decide,by decide⟩,c/11,4,rfl,rfl,(by decide:(0:Int)<4),rfl,_,rfl,?_⟩;dsimp only;split
 ·refine⟨by show 1≤sizeLine;lia,λt ht=>⟨_,rfl,t,b,_,_,rfl,rfl,aZ,aJ.upd ht _ _ gb,by rw[br];show 1+_≤sizeLine;lia,λe he=>⟨_,rfl,_,rfl,by show 3≤sizeLine;lia,λx hx=>?_⟩⟩⟩;refine q x (.back d) _ ((aJ.upd ht).trans ((aJ.upd he).trans (.upd hx))) ⟨e,aZ,aJ.upd hx _ _ aZ⟩ w1 w2 (by show d.aE.length+1≤3;lia) (by show d.r+d.l≤4;lia)
 ·refine⟨_,rfl,_,rfl,_,rfl,by show 3≤sizeLine;lia,λx hx=>?_⟩;exact q x d _ (.upd hx) ⟨b,aZ,aJ.upd hx _ _ gb⟩ w1 w2 (by lia) w4
theorem dr(h:te σ H λx H1=>u D (σ.set i (some x)) H1):bu (cx te (bo i)) u D σ H:=h
theorem VA(q:∀a vs H',aJ H H'→H' a=some (.lst vs)→gH H' vs [.id,.swap,.copy,.fin,.add]→R (.ref a) H'):zu σ H R:=by
 unfold zu;refine CU (lV ?_ (lV ?_ (lV ?_ (lV ?_ (lV ?_ CS))))) ?_ q
 ·exact nG rfl rfl rfl (by decide)
 ·exact nG rfl rfl rfl (by decide)
 ·exact nG rfl rfl rfl (by decide)
 ·exact nG rfl rfl rfl (by decide)
 ·exact nG rfl rfl rfl (by decide)
 ·exact rE rfl
theorem VB{k:Int}(h:σ[2]?=some (some (.int k)))(q:∀a vs H',aJ H H'→H' a=some (.lst vs)→gH H' vs [.none,.times k,.ig,.empty]→R (.ref a) H'):zw σ H R:=by
 unfold zw;refine CU (lV ?_ (lV ?_ (lV ?_ (lV ?_ CS)))) ?_ q
 ·exact nG rfl rfl rfl (by decide)
 ·exact Vx h
 ·exact nG rfl rfl rfl (by decide)
 ·exact nG rfl rfl rfl (by decide)
 ·exact rE rfl
theorem VC(q:∀a vs H',aJ H H'→H' a=some (.lst vs)→gH H' vs [.copy,.add]→R (.ref a) H'):zx σ H R:=by
 unfold zx;refine CU (lV ?_ (lV ?_ CS)) ?_ q
 ·exact nG rfl rfl rfl (by decide)
 ·exact nG rfl rfl rfl (by decide)
 ·exact rE rfl
theorem JU{b:Addr}{ws:List V}{es:List D1.Dr}(g:H a=some (.lst vs))(g':H b=some (.lst ws))(hd:gH H vs ds)(he:gH H ws es)(hl:ds.length+es.length≤100)(q:∀c H',aJ H H'→H' c=some (.lst (vs++ws))→gH H' (vs++ws) (ds++es)→R (.ref c) H'):cc (.ref a) (.ref b) H R:=by
 have z:(100:Nat)≤sizeLine:=by decide
 refine⟨a,b,vs,ws,rfl,rfl,g,g',by rw[hd.1,he.1];lia,λc hc=>q c _ (.upd hc) aZ ((hd.append he).mono (.upd hc))⟩
theorem JV{f:Addr}{fd:FuncData}(F:cL K "_law_some_box" "_law_some_box" tG f fd):bN P w K mg base bO 1 f fd ["p","cell"] (zt K):=by
 refine F.ok pP (λvs H Q E h=>?_) (λcj A outer s H vs Q E hr h=>?_)
 ·obtain⟨p,c,rfl,_⟩:=h;rfl
 ·obtain⟨p,c,rfl,pp,q⟩:=h;refine⟨bu (cx (aT (rI (λ_ j=>0<j) λi j=>.int (i%j)) (aT (rI nZ λi j=>.int (i/j)) (aL 1) (tC (.int 40))) (aL 0)) (bo 2)) (bu (cx zu (bo 3)) (bu (cx (aT cc (aL 3) zw) (bo 3)) (bu (cx (aT cc (aL 3) zx) (bo 3)) (CT K)))),?_,?_⟩
  ·refine ba ?_ ?_
   ·exact bw (i:=2) pP.nd rfl (.inl rfl) (aU eC (aU jT (pv 1) aY) (pv 0))
   have bx:∀{X:Cx}{e:Expr}{es:List Expr}{ws:List Str}{l r:Int}{t:TA},CP e=some (ws,l,r)→PA X es t→starEach (e::es) X.env=(false,eval e X.env)::starEach es X.env→PA X (e::es) (aI (j7 ws l r) t):=λh k hs=>aG (Vw h) k hs;refine ba ?_ ?_
   ·refine bw (i:=3) ?_ ?_ ?_ ?_ ?_ ?_
    ·exact pP.nd
    ·rfl
    ·exact Or.inl rfl
    ·unfold zu;refine bc ?_;refine bx ?_ ?_ ?_
     ·kernel_rfl
     rotate_left
     ·rfl
     refine bx ?_ ?_ ?_
     ·kernel_rfl
     rotate_left
     ·rfl
     refine bx ?_ ?_ ?_
     ·kernel_rfl
     rotate_left
     ·rfl
     refine bx ?_ ?_ ?_
     ·kernel_rfl
     rotate_left
     ·rfl
     refine bx ?_ ?_ ?_
     ·kernel_rfl
     rotate_left
     ·rfl
     exact aK
    ·rfl
    ·exact .inl rfl
   refine ba ?_ ?_
   ·refine bw (i:=3) ?_ ?_ ?_ ?_ ?_ ?_
    ·exact pP.nd
    ·rfl
    ·exact Or.inl rfl
    ·refine aU bV (pv 3) ?_;unfold zw;refine bc ?_;refine bx ?_ ?_ ?_
     ·kernel_rfl
     rotate_left
     ·rfl
     refine aG ?_ ?_ ?_
     ·exact bc (aG (bc (aG aW (aG (pv 2) aK))) (aG aY (aG aY aK)))
     ·refine bx ?_ ?_ ?_
      ·kernel_rfl
      rotate_left
      ·rfl
      refine bx ?_ ?_ ?_
      ·kernel_rfl
      rotate_left
      ·rfl
      exact aK
     ·rfl
    ·rfl
    ·exact .inl rfl
   refine ba ?_ ?_
   ·refine bw (i:=3) ?_ ?_ ?_ ?_ ?_ ?_
    ·exact pP.nd
    ·rfl
    ·exact Or.inl rfl
    ·refine aU bV (pv 3) ?_;unfold zx;refine bc ?_;refine bx ?_ ?_ ?_
     ·kernel_rfl
     rotate_left
     ·rfl
     refine bx ?_ ?_ ?_
     ·kernel_rfl
     rotate_left
     ·rfl
     exact aK
    ·rfl
    ·exact .inl rfl
   unfold CT;refine ba ?_ ?_
   ·exact nX (bZ (cH K rfl) (pv 3) (aU eC (pv 1) aY) (λ_ _=>rfl)) (oi rfl (eh (cB (i:=4) pP.nd rfl (.inl rfl)) (eh (cB (i:=5) pP.nd rfl (.inl rfl)) (eh (cB (i:=6) pP.nd rfl (.inl rfl)) kZ))))
   refine ba ?_ ?_
   ·exact cS (cE dZ (aU eC (aU jT (pv 1) aY) aY) aY (cD _)) (bj (cA (bc (aG (aU bV (bc (aG aW aK)) (pv 4)) (aG (pv 6) (aG (pv 5) aK)))))) dW
   ·exact bj (cA (bc (aG (pv 4) (aG (pv 5) (aG (pv 6) aK)))))
  have p0:0<p:=by have:=(fK p pp).1;lia
  have k0:=i6 (c/40) (show p≠0 by lia);have k1:=i7 (c/40) p0;refine dr ⟨_,rfl,c,40,rfl,rfl,⟨by decide,by decide⟩,_,rfl,c/40,p,rfl,rfl,p0,?_⟩;dsimp only;generalize c/40%p=k at k0 k1 ⊢;refine dr (VA λa1 v1 H1 s1 g1 d1=>?_);refine dr ⟨_,rfl,VB rfl λa2 v2 H2 s2 g2 d2=>?_⟩;refine JU (s2 _ _ g1) g2 (d1.mono s2) d2 (rE rfl) λa3 H3 s3 g3 d3=>?_;refine dr ⟨_,rfl,VC λa4 v4 H4 s4 g4 d4=>?_⟩;refine JU (s4 _ _ g3) g4 (d3.mono s4) d4 (rE rfl) λa5 H5 s5 g5 d5=>?_;exact Vz k0 k1 g5 d5 λa d H' s'=>q a d H' (s1.trans (s2.trans (s3.trans (s4.trans (s5.trans s')))))
end S21
namespace D1
noncomputable def kK:List Dr→Dr
 | []=>.empty
 | [d]=>d
 |d::e::ds=>.bf d (kK (e::ds))
noncomputable def lW(ds:List Dr):List Wd:=ds.flatMap λd=>.w "beside"::d.aE
theorem zz:∀(es:List Dr)(d:Dr),(kK (es++[d])).aE=lW es++d.aE
 | [],d=>rfl
 | [e],d=>by
  show Wd.w "beside"::(e.aE++d.aE)=((Wd.w "beside"::e.aE)++[])++d.aE;rw[gJ];rfl
 |e::f::es,d=>by
  show Wd.w "beside"::(e.aE++(kK ((f::es)++[d])).aE)=_;rw[zz (f::es) d];show _=(Wd.w "beside"::e.aE)++lW (f::es)++d.aE;rw[pX,List.cons_append]
theorem wC{B:Nat}:∀(es:List Dr),(∀e∈es,e.aE.length≤B)→(lW es).length≤es.length*(B+1)
 | [],_=>Nat.zero_le _
 |e::es,h=>by
  have h1:=h e (.head _);have h2:=wC es λx hx=>h x (.tail _ hx);show((Wd.w "beside"::e.aE)++lW es).length≤(es.length+1)*(B+1);rw[bh,cu,Nat.add_mul];lia
theorem VD(es:List Dr)(e:Dr):lW (es++[e])=lW es++([.w "beside"]++e.aE):=by
 unfold lW;rw[List.flatMap_append];show _++((Wd.w "beside"::e.aE)++[])=_;rw[gJ];rfl
noncomputable def iS(ds:List Dr):Nat:=ds.foldr (λd n=>d.l+n) 0
noncomputable def jk(ds:List Dr):Nat:=ds.foldr (λd n=>d.r+n) 0
theorem wD:∀ds:List Dr,(kK ds).l=iS ds
 | []=>rfl
 | [_]=>rfl
 |d::e::ds=>by
  show d.l+(kK (e::ds)).l=d.l+iS (e::ds);rw[wD (e::ds)]
theorem wF:∀ds:List Dr,(kK ds).r=jk ds
 | []=>rfl
 | [_]=>rfl
 |d::e::ds=>by
  show d.r+(kK (e::ds)).r=d.r+jk (e::ds);rw[wF (e::ds)]
theorem CV{p:Int}:∀ds:List Dr,(∀d∈ds,d.wf p)→(kK ds).wf p
 | [],_=>True.intro
 | [_],h=>h _ (.head _)
 |d::e::ds,h=>⟨h d (.head _),CV (e::ds) λx hx=>h x (.tail _ hx)⟩
theorem CW{B:Nat}:∀ds:List Dr,(∀d∈ds,d.bD B)→iS ds+jk ds≤B→(kK ds).bD B
 | [],_,_=>True.intro
 | [_],h,_=>h _ (.head _)
 |d::e::ds,h,hb=>by
  have el:=wD (e::ds);have er:=wF (e::ds);have hl:iS (d::e::ds)=d.l+iS (e::ds):=rfl;have hr:jk (d::e::ds)=d.r+jk (e::ds):=rfl;refine⟨h d (.head _),CW (e::ds) (λx hx=>h x (.tail _ hx)) (by lia),?_⟩;lia
theorem CY:∀a b:List Dr,iS (a++b)=iS a+iS b
 | [],b=>(oM _).symm
 |d::a,b=>by
  show d.l+iS (a++b)=d.l+iS a+iS b;rw[CY a b,Nat.add_assoc]
theorem CZ:∀a b:List Dr,jk (a++b)=jk a+jk b
 | [],b=>(oM _).symm
 |d::a,b=>by
  show d.r+jk (a++b)=d.r+jk a+jk b;rw[CZ a b,Nat.add_assoc]
theorem C0:∀n,iS (List.replicate n .id)=n
 |0=>rfl
 |n+1=>by
  show 1+iS (List.replicate n .id)=n+1;rw[C0 n,Nat.add_comm]
theorem C1:∀n,jk (List.replicate n .id)=n
 |0=>rfl
 |n+1=>by
  show 1+jk (List.replicate n .id)=n+1;rw[C1 n,Nat.add_comm]
end D1
namespace S21
open PySem L2 Bw
variable{D:Ends}{H H':Hp}{N:St→Hp→Prop}{R:VK}{X Y d:D1.Dr}{b f ld v:Addr}{ds es:List D1.Dr}{fd:FuncData}{i j m:Nat}{aH:List (Key×V)}{n p:Int}{t1 t2 tb te:TE}{ta:TA}{u:TS}{us ws:List D1.Wd}{vs:List V}{x:String}{σ:St}
def dU(H:Hp)(vs:List V)(ds:List D1.Dr):Prop:=vs.length=ds.length∧∀(i:Nat)(v:V)(d:D1.Dr),vs[i]?=some v→ds[i]?=some d→∃a,v=.ref a∧WL H a d
theorem dU.mono(h:dU H vs ds)(s:aJ H H'):dU H' vs ds:=⟨h.1,λi v d e1 e2=>let ⟨a,e,w⟩:=h.2 i v d e1 e2;⟨a,e,s _ _ w⟩⟩
theorem dU.append{ws:List V}(h:dU H vs ds)(k:dU H ws es):dU H (vs++ws) (ds++es):=⟨by rw[bh,bh,h.1,k.1],λi v d e1 e2=>by
 by_cases hi:i<vs.length
 ·rw[iA hi]at e1;rw[iA (by rw[← h.1];exact hi)]at e2;exact h.2 i v d e1 e2
 ·rw[i5 (by lia)]at e1;rw[i5 (by rw[← h.1];lia),← h.1]at e2;exact k.2 _ v d e1 e2⟩
theorem dU.one(h:WL H b d):dU H [.ref b] [d]:=⟨rfl,λi v d' e1 e2=>by
 cases i with
 |zero=>cases e1;cases e2;exact⟨b,rfl,h⟩
 |succ i=>cases e1⟩
theorem dU.rep(h:WL H b d)(n:Nat):dU H (List.replicate n (.ref b)) (List.replicate n d):=⟨by rw[eA,eA],λi v d' e1 e2=>by
 have m1:=List.eq_of_mem_replicate (d8 e1);have m2:=List.eq_of_mem_replicate (d8 e2);subst m1 m2;exact⟨b,rfl,h⟩⟩
theorem VE(xs:List V)(v:V):eV (xs++[v]) none (some (-1))=xs:=by
 have es:HT.ck (xs++[v]).length (xs++[v]).length (some (-1))=xs.length:=by
  show(if(-1:Int)<0 then(-1+((xs++[v]).length:Int)).toNat else min (-1:Int).toNat (xs++[v]).length)=xs.length
  rw[af (by decide),bh];show(-1+((xs.length+1:Nat):Int)).toNat=xs.length;lia
 unfold eV;rw[es,HT.rZ,List.drop_zero,Nat.sub_zero,List.take_left]
def q4(_K:Frag):Sp:=λvs H Q _=>∃(a b:Addr)(VS:List V)(es:List D1.Dr)(d:D1.Dr),vs=[.ref a]∧H a=some (.lst (VS++[.ref b]))∧dU H VS es∧WL H b d∧es.length≤50∧(∀e∈es,e.aE.length≤50)∧d.aE.length≤50∧∀c H',aJ H H'→WL H' c (D1.kK (es++[d]))→Q (.ref c) H'
theorem zA:cY ["parts","words","part"] ["parts"] (bp tH):=dE rfl rfl rfl (by decide +kernel) rfl
theorem JW(F:cL K "_law_beside_all" "_law_beside_all" tH f fd):bN P w K mg base bO 1 f fd ["parts"] (q4 K):=by
 refine F.ok zA (λvs H Q E h=>?_) (λcj A outer s H vs Q E hr h=>?_)
 ·obtain⟨a,b,VS,es,d,rfl,_⟩:=h;rfl
 ·obtain⟨a,b,VS,es,d,rfl,ga,hV,hb,le,lw,lw',q⟩:=h;have z:(10000:Nat)≤sizeLine:=by decide
  refine⟨_,ba (bw (i:=1) zA.nd rfl (.inl rfl) (bc aK)) (ba (ja jq rfl (gg K rfl (eX (gu K rfl) (pv 0) gq (dy (uR uS aY)))) (cB (i:=2) zA.nd rfl (.inl rfl)) (bj (bw (i:=1) zA.nd rfl (.inl rfl) (aU bV (aU bV (pv 1) (bc (aG aW aK))) (pv 2))))) (bj (cA (aU bV (pv 1) (bZ (cH K rfl) (pv 0) (uR uS aY) (λ_ _=>rfl)))))),?_⟩;refine⟨by decide,λl0 h0=>?_⟩;have s0:aJ H (upd H l0 (.lst [])):=.upd h0;have g0:(upd H l0 (.lst [])) l0=some (.lst ((D1.lW []).map bY)):=aZ;generalize upd H l0 (.lst [])=H0 at s0 g0 ⊢;refine⟨_,rfl,_,rfl,_,rfl,a,_,rfl,.of (s0 _ _ ga),λl1 h1=>?_⟩;rw[show(-1:Int)=-1 from rfl,VE]
  have s1:aJ H (upd H0 l1 (.lst VS)):=s0.trans (.upd h1);have g1:(upd H0 l1 (.lst VS)) l1=some (.lst VS):=aZ;have JX:(upd H0 l1 (.lst VS)) l0=some (.lst ((D1.lW (es.take 0)).map bY)):=aJ.upd h1 _ _ g0;generalize upd H0 l1 (.lst VS)=H1 at s1 g1 JX ⊢;refine⟨l1,rfl,⟨_,.of g1⟩,oY (xs:=VS) (λi σ H'=>aJ H1 H'∧∃lp s2,σ=[some (.ref a),some (.ref lp),s2]∧H' lp=some (.lst ((D1.lW (es.take i)).map bY))) ⟨.refl _,l0,none,rfl,JX⟩ (λi σ H' _ ⟨sm,_⟩=>.of (sm _ _ g1)) ?_ ?_⟩
  ·rintro i x σ H2 hx ⟨sm,lp,s2,rfl,g⟩;have hi:i<es.length:=by
    have:=(dB.mp hx).1
    have:=hV.1
    lia
   obtain⟨e,he⟩:∃e,es[i]?=some e:=⟨_,cg hi⟩;obtain⟨c,rfl,hc⟩:=hV.2 i _ e hx he;have hw:=D1.wC (B:=50) (es.take i) λy hy=>lw _ (List.mem_of_mem_take hy);have pJ:=lw e (d8 he);have hl:(es.take i).length≤50:=by rw[dD];lia
   dsimp only[bo];refine⟨_,rfl,by show 1≤sizeLine;lia,λt ht=>⟨_,_,_,_,rfl,rfl,aJ.upd ht _ _ g,aZ,by rw[br];show _+1≤sizeLine;lia,λt2 h2=>?_⟩⟩;refine⟨_,rfl,_,_,_,_,rfl,rfl,aZ,(s1.trans (sm.trans ((aJ.upd ht).trans (.upd h2)))) _ _ hc,by rw[bh,br,br];show _+1+_≤sizeLine;lia,λt3 h3=>?_⟩;refine⟨sm.trans ((aJ.upd ht).trans ((aJ.upd h2).trans (.upd h3))),t3,_,rfl,?_⟩;rw[aZ,jN,he];show _=some (HO.lst ((D1.lW (es.take i++[e])).map bY));rw[D1.VD,fe,fe,pX];rfl
  rintro σ H2 ⟨sm,lp,s2,rfl,g⟩;rw[hV.1,mh]at g;have hw:=D1.wC (B:=50) es lw;have sc:=s1.trans sm;refine⟨_,rfl,_,rfl,1,rfl,a,_,-1,.ref b,rfl,rfl,.of (sc _ _ ga),Fg _ _,_,b,_,_,rfl,rfl,g,sc _ _ hb,by rw[br,br];lia,λt ht=>?_⟩;refine q t _ (sc.trans (.upd ht)) ?_;show _=_;rw[aZ,D1.zz,fe]
theorem dU.last{L:List V}(h:dU H L ds)(hn:ds≠[]):∃VS b es d,L=VS++[.ref b]∧ds=es++[d]∧dU H VS es∧WL H b d:=by
 obtain⟨es,d,rfl⟩:∃es d,ds=es++[d]:=⟨_,_,(List.dropLast_concat_getLast hn).symm⟩;have hL:L≠[]:=λz=>by rw[z]at h;have:=h.1;simp at this
 obtain⟨VS,v,rfl⟩:∃VS v,L=VS++[v]:=⟨_,_,(List.dropLast_concat_getLast hL).symm⟩;have hl:VS.length=es.length:=by have:=h.1;simp at this;exact this
 obtain⟨b,rfl,hb⟩:=h.2 VS.length v d (List.getElem?_concat_length) (by rw[hl];exact List.getElem?_concat_length);refine⟨VS,b,es,d,rfl,rfl,⟨hl,λi v d' e1 e2=>?_⟩,hb⟩;have h1:i<VS.length:=(dB.mp e1).1;exact h.2 i v d' (by rw[iA h1];exact e1) (by rw[iA (by lia)];exact e2)
def uu(te:TE)(σ:St)(H:Hp)(ds:List D1.Dr):Prop:=∀H',aJ H H'→∀R:VK,(∀a VS di,aJ H' di→di a=some (.lst VS)→dU di VS ds→R (.ref a) di)→te σ H' R
section
variable{σ:St}{H:Hp}
theorem JY{ta:TE}(h1:uu ta σ H ds)(h2:uu tb σ H es)(hl:ds.length+es.length≤100):uu (aT cc ta tb) σ H (ds++es):=λH' s R q=>by
 have z:(100:Nat)≤sizeLine:=by decide
 refine h1 H' s _ λa VS H1 s1 ga hV=>h2 H1 (s.trans s1) _ λb WS H2 s2 gb hW=>?_;refine⟨a,b,_,_,rfl,rfl,s2 _ _ ga,gb,by rw[hV.1,hW.1];lia,λc hc=>?_⟩;exact q c _ _ (s1.trans (s2.trans (.upd hc))) aZ (((hV.mono s2).append hW).mono (.upd hc))
theorem VF(h:σ[i]?=some (some (.ref b)))(hb:WL H b d):uu (bg (aI (aL i) aV)) σ H [d]:=λH' s R q=>
 ⟨_,h,by show 1≤sizeLine;decide,λa ha=>q a _ _ (.upd ha) aZ (.one ((s.trans (.upd ha)) _ _ hb))⟩
def wG(i:Nat):TE:=aT xN (bg (aI (bg (aI (tC (.str (Str.ofString "id"))) aV)) aV)) (aL i)
theorem JZ{k:Nat}(h:σ[i]?=some (some (.int (k:Int))))(hk:k≤100):uu (wG i) σ H (List.replicate k .id):=λH' s R q=>by
 have z:(100:Nat)≤sizeLine:=by decide
 refine⟨by show 1≤sizeLine;decide,λb hb=>⟨by show 1≤sizeLine;decide,λa ha=>⟨_,h,a,(k:Int),[.ref b],rfl,rfl,aZ,by lia,by lia,by show 1*(k:Int).toNat≤sizeLine;lia,λc hc=>?_⟩⟩⟩;refine q c _ _ ((aJ.upd hb).trans ((aJ.upd ha).trans (.upd hc))) aZ ?_;rw[show(k:Int).toNat=k by lia,yM];exact .rep (aJ.upd hc _ _ (aJ.upd ha _ _ aZ)) k
def uv:TE:=aT cc (aT cc (wG 12) (bg (aI (aL 7) aV))) (wG 13)
noncomputable def j8(k:Nat)(d:D1.Dr)(m:Nat):D1.Dr:=D1.kK (List.replicate k .id++[d]++List.replicate m .id)
theorem C2(k:Nat)(d:D1.Dr)(m:Nat):(j8 k d m).l=k+d.l+m:=by
 unfold j8;rw[D1.wD,D1.CY,D1.CY,D1.C0,D1.C0];rfl
theorem C3(k:Nat)(d:D1.Dr)(m:Nat):(j8 k d m).r=k+d.r+m:=by
 unfold j8;rw[D1.wF,D1.CZ,D1.CZ,D1.C1,D1.C1];rfl
theorem zB{k:Nat}{x:D1.Dr}(h:x∈List.replicate k .id++[d]++List.replicate m .id):x=.id∨x=d:=by
 rcases(dM.mp h)with(h|h)
 ·rcases(dM.mp h)with(h|h)
  ·exact .inl (List.eq_of_mem_replicate h)
  ·exact .inr (cX.mp h)
 ·exact .inl (List.eq_of_mem_replicate h)
theorem J0{k:Nat}(h:d.wf p):(j8 k d m).wf p:=D1.CV _ λx hx=>by
 rcases zB hx with rfl|rfl
 ·exact True.intro
 ·exact h
theorem J1{B k:Nat}(h:d.bD B)(hb:(k+d.l+m)+(k+d.r+m)≤B):(j8 k d m).bD B:=by
 refine D1.CW _ (λx hx=>?_) ?_
 ·rcases zB hx with rfl|rfl
  ·exact True.intro
  ·exact h
 ·rw[← D1.wD,← D1.wF];have e1:=C2 k d m;have e2:=C3 k d m;unfold j8 at e1 e2;rw[e1,e2];exact hb
theorem J2{k:Nat}(hk:k+m≤20)(h:d.aE.length≤50):(j8 k d m).aE.length≤2000:=by
 unfold j8;obtain⟨es,e,he⟩:∃es e,List.replicate k D1.Dr.id++[d]++List.replicate m D1.Dr.id=es++[e]:=⟨_,_,(List.dropLast_concat_getLast (by simp)).symm⟩;have hw:∀x∈es++[e],x.aE.length≤50:=λx hx=>by
  rw[← he]at hx;rcases zB hx with rfl|rfl
  ·show 1≤50;decide
  ·exact h
 have hl:es.length≤20:=by
  have:=aj List.length he
  simp at this;lia
 rw[he,D1.zz,bh];have h1:=D1.wC (B:=50) es λx hx=>hw x (jM _ hx);have h2:=hw e (fY _ (.head _));lia
theorem J3{K:Frag}{E:XK}{k:Nat}(h1:σ[12]?=some (some (.int (k:Int))))(h2:σ[7]?=some (some (.ref b)))(h3:σ[13]?=some (some (.int (m:Int))))(hb:WL H b d)(hk:k+m≤20)(hw:d.aE.length≤50)(q:∀c H',aJ H H'→WL H' c (j8 k d m)→R (.ref c) H'):fw (q4 K) [] E (aI uv aV) σ H R:=by
 have hE:uu uv σ H (List.replicate k .id++[d]++List.replicate m .id):=JY (JY (JZ h1 (by lia)) (VF h2 hb) (by rw[eA];show k+1≤100;lia)) (JZ h3 (by lia)) (by rw[bh,eA,eA];show k+1+m≤100;lia);refine hE H (.refl _) _ λa VS H1 s1 ga hV=>?_;obtain⟨XS,b',es,e,rfl,he,hX,mO⟩:=hV.last (by simp);have hw:∀x∈es++[e],x.aE.length≤50:=λx hx=>by
  rw[← he]at hx;rcases zB hx with rfl|rfl
  ·show 1≤50;decide
  ·exact hw
 have hl:es.length≤20:=by
  have:=aj List.length he
  simp at this;lia
 refine⟨a,b',XS,es,e,rfl,ga,hX,mO,by lia,λx hx=>hw x (jM _ hx),hw e (fY _ (.head _)),λc H2 s2 hc=>q c H2 (s1.trans s2) ?_⟩;unfold j8;rw[he];exact hc
end
noncomputable abbrev uw(p:Int)(a:Addr)(c:Int)(m:Nat)(b:Addr)(l r:Nat)(b2:Addr)(l2 r2:Nat)(f:Addr)(s12 ij jl lZ:Option V):St:=[some (.int p),some (.ref a),some (.int c),some (.int (m:Int)),some (.ref b),some (.int (l:Int)),some (.int (r:Int)),some (.ref b2),some (.int (l2:Int)),some (.int (r2:Int)),some (.int (c%6)),some (.ref f),s12,ij,jl,lZ]
def wH(i j:Nat):TE:=aT (rI (λ_ j=>0<j) λi j=>.int (i%j)) (aT (rI nZ λi j=>.int (i/j)) (aL 2) (tC (.int 7))) (aT (dX λi j=>.int (i+j)) (aT (dX λi j=>.int (i-j)) (aL i) (aL j)) (tC (.int 1)))
def wI(i j:Nat):TE:=aT (dX λi j=>.int (i-j)) (aT (dX λi j=>.int (i-j)) (aL i) (aL j)) (aL 12)
def ma(x:String):TE:=bg (aI (tC (.str (Str.ofString x))) aV)
def zC(K:Frag)(E:XK):TS:=bu (cx (wH 6 8) (bo 12)) (bu (cx (wI 6 8) (bo 13)) (bu (cx (fw (q4 K) [] E (aI uv aV)) (bo 14)) (cx (bg (aI (aT cc (aT cc (ma "then") (aL 4)) (aL 14)) (aI (aL 5) (aI (aT (dX λi j=>.int (i+j)) (aT (dX λi j=>.int (i-j)) (aL 6) (aL 8)) (aL 9)) aV)))) (bo 11))))
def zD(K:Frag)(E:XK):TS:=bu (cx (wH 5 9) (bo 12)) (bu (cx (wI 5 9) (bo 13)) (bu (cx (fw (q4 K) [] E (aI uv aV)) (bo 14)) (cx (bg (aI (aT cc (aT cc (ma "then") (aL 14)) (aL 4)) (aI (aT (dX λi j=>.int (i+j)) (aT (dX λi j=>.int (i-j)) (aL 5) (aL 9)) (aL 8)) (aI (aL 6) aV)))) (bo 11))))
def zE:TS:=cx (bg (aI (aT cc (ma "back") (aL 4)) (aI (aL 6) (aI (aL 5) aV)))) (bo 11)
def q5(p:Int)(a:Addr)(c:Int)(m:Nat)(b:Addr)(l r:Nat)(b2:Addr)(l2 r2:Nat)(H0:Hp)(σ:St)(H:Hp):Prop:=aJ H0 H∧∃f d s12 ij jl lZ,σ=uw p a c m b l r b2 l2 r2 f s12 ij jl lZ∧WT H f d∧d.wf p∧d.bD 64∧d.aE.length≤5000∧d.l+d.r≤60
section
variable{K:Frag}{E:XK}{p c:Int}{a b b2 f:Addr}{m:Nat}{d e:D1.Dr}{s12 ij jl lZ:Option V}{H:Hp}{D:Ends}
theorem J4{x y:Nat}(h2:σ[2]?=some (some (.int c)))(hi:σ[i]?=some (some (.int (x:Int))))(hj:σ[j]?=some (some (.int (y:Int))))(hl:y≤x)(q:∀k:Nat,k≤x-y→R (.int (k:Int)) H):wH i j σ H R:=by
 have b0:=i6 (c/7) (show((x:Int)-y+1)≠0 by lia);have b1:=i7 (c/7) (show(0:Int)<(x:Int)-y+1 by lia);refine⟨_,h2,c,7,rfl,rfl,⟨by decide,by decide⟩,_,hi,_,hj,_,_,rfl,rfl,_,_,rfl,rfl,_,_,rfl,rfl,show(0:Int)<(x:Int)-y+1 by lia,?_⟩;show R (.int (c/7%((x:Int)-y+1))) H;rw[show c/7%((x:Int)-y+1)=(((c/7%((x:Int)-y+1)).toNat:Nat):Int) by lia];exact q _ (by lia)
theorem J5{x y k:Nat}(h2:σ[12]?=some (some (.int (k:Int))))(hi:σ[i]?=some (some (.int (x:Int))))(hj:σ[j]?=some (some (.int (y:Int))))(hl:y≤x)(hk:k≤x-y)(q:R (.int ((x-y-k:Nat):Int)) H):wI i j σ H R:=by
 refine⟨_,hi,_,hj,_,_,rfl,rfl,_,h2,_,_,rfl,rfl,?_⟩;show R (.int ((x:Int)-y-k)) H;rw[show(x:Int)-y-k=((x-y-k:Nat):Int) by lia];exact q
theorem J6{u:Addr}{e:D1.Dr}(hi:σ[i]?=some (some (.ref u)))(hj:σ[j]?=some (some (.ref v)))(hu:WL H u d)(hv:WL H v e)(hl:d.aE.length+e.aE.length≤9000)(q:∀t H',aJ H H'→H' t=some (.lst ((D1.Wd.w x::(d.aE++e.aE)).map bY))→R (.ref t) H'):aT cc (aT cc (ma x) (aL i)) (aL j) σ H R:=by
 have z:(10000:Nat)≤sizeLine:=by decide
 refine⟨by show 1≤sizeLine;lia,λt1 h1=>⟨_,hi,t1,u,_,_,rfl,rfl,aZ,aJ.upd h1 _ _ hu,by rw[br];show 1+_≤sizeLine;lia,λt2 h2=>⟨_,hj,t2,v,_,_,rfl,rfl,aZ,aJ.upd h2 _ _ (aJ.upd h1 _ _ hv),by rw[bh,br,br];show 1+_+_≤sizeLine;lia,λt3 h3=>?_⟩⟩⟩;refine q t3 _ ((aJ.upd h1).trans ((aJ.upd h2).trans (.upd h3))) ?_;rw[aZ,iJ,fe];rfl
theorem zF{tw tl tr:TE}{g:D1.Dr}(hw:∀R:VK,(∀t H',aJ H H'→WL H' t g→R (.ref t) H')→tw σ H R)(hl:∀H',aJ H H'→∀R:VK,R (.int (g.l:Int)) H'→tl σ H' R)(hr:∀H',aJ H H'→∀R:VK,R (.int (g.r:Int)) H'→tr σ H' R)(q:∀t H',aJ H H'→WT H' t g→R (.ref t) H'):bg (aI tw (aI tl (aI tr aV))) σ H R:=by
 refine hw _ λt H1 s1 ht=>hl H1 s1 _ (hr H1 s1 _ ⟨by show 3≤sizeLine;decide,λx hx=>q x _ (s1.trans (.upd hx)) ⟨t,aZ,aJ.upd hx _ _ ht⟩⟩)
theorem VG(hb:WL H b d)(lP:WL H b2 e)(dw:d.wf p)(dn:d.bD 64)(dl:d.aE.length≤100)(ds:d.l+d.r≤8)(ew:e.wf p)(en:e.bD 64)(el:e.aE.length≤3)(es:e.l+e.r≤4)(jZ:e.l≤d.r)(q:∀σ H',q5 p a c m b d.l d.r b2 e.l e.r H σ H'→N σ H'):zC K E { D with nx:=N } (uw p a c m b d.l d.r b2 e.l e.r f s12 ij jl lZ) H:=by
 unfold zC;refine dr (J4 rfl rfl rfl jZ λk hk=>?_);refine dr (J5 (x:=d.r) (y:=e.l) (k:=k) rfl rfl rfl jZ hk ?_);refine dr (J3 (k:=k) (m:=d.r-e.l-k) (d:=e) rfl rfl rfl lP (by lia) (by lia) λt H1 s1 ht=>?_);have e1:=C2 k e (d.r-e.l-k);have e2:=C3 k e (d.r-e.l-k);have w1:=J0 (k:=k) (m:=d.r-e.l-k) ew;have w2:=J1 (B:=64) (k:=k) (m:=d.r-e.l-k) en (by lia);have w3:=J2 (k:=k) (m:=d.r-e.l-k) (d:=e) (by lia) (by lia);generalize j8 k e (d.r-e.l-k)=u at *;refine zF (g:=.aM d u) (λR q'=>J6 rfl rfl (s1 _ _ hb) ht (by lia) q') (λH' _ R q'=>⟨_,rfl,q'⟩) (λH' _ R q'=>⟨_,rfl,_,rfl,_,_,rfl,rfl,_,rfl,_,_,rfl,rfl,?_⟩) λx H2 s2 hx=>?_
 ·have:((D1.Dr.aM d u).r:Int)=(d.r:Int)-e.l+e.r:=by show(u.r:Int)=_;lia
  rw[this]at q';exact q'
 ·refine q _ _ ⟨s1.trans s2,x,.aM d u,_,_,_,_,rfl,hx,⟨dw,w1,by lia⟩,⟨dn,w2,by lia⟩,?_,by show d.l+u.r≤60;lia⟩;show(D1.Wd.w "then"::(d.aE++u.aE)).length≤5000;rw[cu,bh];lia
theorem VH(hb:WL H b d)(lP:WL H b2 e)(dw:d.wf p)(dn:d.bD 64)(dl:d.aE.length≤100)(ds:d.l+d.r≤8)(ew:e.wf p)(en:e.bD 64)(el:e.aE.length≤3)(es:e.l+e.r≤4)(jZ:e.r≤d.l)(q:∀σ H',q5 p a c m b d.l d.r b2 e.l e.r H σ H'→N σ H'):zD K E { D with nx:=N } (uw p a c m b d.l d.r b2 e.l e.r f s12 ij jl lZ) H:=by
 unfold zD;refine dr (J4 rfl rfl rfl jZ λk hk=>?_);refine dr (J5 (x:=d.l) (y:=e.r) (k:=k) rfl rfl rfl jZ hk ?_);refine dr (J3 (k:=k) (m:=d.l-e.r-k) (d:=e) rfl rfl rfl lP (by lia) (by lia) λt H1 s1 ht=>?_);have e1:=C2 k e (d.l-e.r-k);have e2:=C3 k e (d.l-e.r-k);have w1:=J0 (k:=k) (m:=d.l-e.r-k) ew;have w2:=J1 (B:=64) (k:=k) (m:=d.l-e.r-k) en (by lia);have w3:=J2 (k:=k) (m:=d.l-e.r-k) (d:=e) (by lia) (by lia);generalize j8 k e (d.l-e.r-k)=u at *;refine zF (g:=.aM u d) (λR q'=>J6 rfl rfl ht (s1 _ _ hb) (by lia) q') (λH' _ R q'=>⟨_,rfl,_,rfl,_,_,rfl,rfl,_,rfl,_,_,rfl,rfl,?_⟩) (λH' _ R q'=>⟨_,rfl,q'⟩) λx H2 s2 hx=>?_
 ·have:((D1.Dr.aM u d).l:Int)=(d.l:Int)-e.r+e.l:=by show(u.l:Int)=_;lia
  rw[this]at q';exact q'
 ·refine q _ _ ⟨s1.trans s2,x,.aM u d,_,_,_,_,rfl,hx,⟨w1,dw,by lia⟩,⟨w2,dn,by lia⟩,?_,by show u.l+d.r≤60;lia⟩;show(D1.Wd.w "then"::(u.aE++d.aE)).length≤5000;rw[cu,bh];lia
theorem VI(hb:WL H b d)(dw:d.wf p)(dn:d.bD 64)(dl:d.aE.length≤100)(ds:d.l+d.r≤8)(q:∀σ H',q5 p a c m b d.l d.r b2 e.l e.r H σ H'→N σ H'):zE { D with nx:=N } (uw p a c m b d.l d.r b2 e.l e.r f s12 ij jl lZ) H:=by
 have z:(10000:Nat)≤sizeLine:=by decide
 unfold zE;refine zF (g:=.back d) (λR q'=>?_) (λH' _ R q'=>⟨_,rfl,q'⟩) (λH' _ R q'=>⟨_,rfl,q'⟩) λx H2 s2 hx=>?_
 ·refine⟨by show 1≤sizeLine;lia,λt1 h1=>⟨_,rfl,t1,b,_,_,rfl,rfl,aZ,aJ.upd h1 _ _ hb,by rw[br];show 1+_≤sizeLine;lia,λt2 h2=>q' t2 _ ((aJ.upd h1).trans (.upd h2)) aZ⟩⟩
 ·exact q _ _ ⟨s2,x,.back d,_,_,_,_,rfl,hx,dw,dn,by show d.aE.length+1≤5000;lia,by show d.r+d.l≤60;lia⟩
end
theorem J7{g:TG}(h:te σ H λx H1=>g x σ H1 (u D)):bu (cx te g) u D σ H:=h
theorem C4{c:TT}{t:TS}(d:Bool)(h:∀R:Bool→Hp→Prop,R d H→c σ H R)(ht:d=true→t D σ H)(hf:d=false→u D σ H):dQ c t u D σ H:=by
 refine h _ ?_;cases d with
 |true=>exact eP (ht rfl)
 |false=>exact cW (hf rfl)
theorem J8{c e:TT}{R:Bool→Hp→Prop}{d k:Bool}(h:∀R:Bool→Hp→Prop,R d H→c σ H R)(h':∀R:Bool→Hp→Prop,R k H→e σ H R)(r:R (d&&k) H):oR c e σ H R:=by
 refine h _ ?_;cases d with
 |true=>exact eP (h' _ r)
 |false=>exact cW r
def wJ(K:Frag)(j:Int):TE:=aT (ff K) (aL 15) (tC (.int j))
def zG(K:Frag):TS:=bu (cx (bg (aI (aL 4) (aI (aL 7) aV))) (bo 15)) (bu (dQ (eU (aT iN (aT (rI (λ_ j=>0<j) λi j=>.int (i%j)) (aT (rI nZ λi j=>.int (i/j)) (aL 2) (tC (.int 11))) (tC (.int 2))) (tC (.int 1)))) (rS (xJ K "list" Fq (aL 15))) gk) (cx (bg (aI (aT cc (aT cc (ma "beside") (wJ K 0)) (wJ K 1)) (aI (aT (dX λi j=>.int (i+j)) (aL 5) (aL 8)) (aI (aT (dX λi j=>.int (i+j)) (aL 6) (aL 9)) aV)))) (bo 11)))
section
variable{K:Frag}{E:XK}{p c:Int}{a b b2 f:Addr}{m:Nat}{d e:D1.Dr}{s12 ij jl lZ:Option V}{H:Hp}{D:Ends}{H':Hp}
theorem VJ{ti tj:TE}{u:Addr}{e:D1.Dr}(hi:∀H',aJ H H'→∀R:VK,R (.ref u) H'→ti σ H' R)(hj:∀H',aJ H H'→∀R:VK,R (.ref v) H'→tj σ H' R)(hu:WL H u d)(hv:WL H v e)(hl:d.aE.length+e.aE.length≤9000)(q:∀t H',aJ H H'→H' t=some (.lst ((D1.Wd.w x::(d.aE++e.aE)).map bY))→R (.ref t) H'):aT cc (aT cc (ma x) ti) tj σ H R:=by
 have z:(10000:Nat)≤sizeLine:=by decide
 refine⟨by show 1≤sizeLine;lia,λt1 h1=>hi _ (.upd h1) _ ⟨t1,u,_,_,rfl,rfl,aZ,aJ.upd h1 _ _ hu,by rw[br];show 1+_≤sizeLine;lia,λt2 h2=>hj _ ((aJ.upd h1).trans (.upd h2)) _ ⟨t2,v,_,_,rfl,rfl,aZ,aJ.upd h2 _ _ (aJ.upd h1 _ _ hv),by rw[bh,br,br];show 1+_+_≤sizeLine;lia,λt3 h3=>?_⟩⟩⟩;refine q t3 _ ((aJ.upd h1).trans ((aJ.upd h2).trans (.upd h3))) ?_;rw[aZ,iJ,fe];rfl
theorem J9{g h:D1.Dr}{u ls:Addr}(hu:WL H u g)(hv:WL H v h)(gl:H ls=some (.lst [.ref u,.ref v]))(gw:g.wf p)(gn:g.bD 64)(acr:g.aE.length≤100)(gs:g.l+g.r≤8)(hw:h.wf p)(hn:h.bD 64)(cU:h.aE.length≤100)(hs:h.l+h.r≤8)(el:g.l+h.l=d.l+e.l)(er:g.r+h.r=d.r+e.r)(q:∀σ H',q5 p a c m b d.l d.r b2 e.l e.r H σ H'→N σ H'):cx (bg (aI (aT cc (aT cc (ma "beside") (wJ K 0)) (wJ K 1)) (aI (aT (dX λi j=>.int (i+j)) (aL 5) (aL 8)) (aI (aT (dX λi j=>.int (i+j)) (aL 6) (aL 9)) aV)))) (bo 11) { D with nx:=N } (uw p a c m b d.l d.r b2 e.l e.r f s12 ij jl (some (.ref ls))) H:=by
 refine zF (g:=.bf g h) (λR q'=>VJ (u:=u) (v:=v) (λH' s R C5=>⟨_,rfl,ls,_,0,_,rfl,rfl,.of (s _ _ gl),cb (j:=0) rfl,C5⟩) (λH' s R C5=>⟨_,rfl,ls,_,1,_,rfl,rfl,.of (s _ _ gl),cb (j:=1) rfl,C5⟩) hu hv (by lia) q') (λH' _ R q'=>⟨_,rfl,_,rfl,_,_,rfl,rfl,?_⟩) (λH' _ R q'=>⟨_,rfl,_,rfl,_,_,rfl,rfl,?_⟩) λx H2 s2 hx=>?_
 ·have:((D1.Dr.bf g h).l:Int)=(d.l:Int)+e.l:=by show((g.l+h.l:Nat):Int)=_;lia
  rw[this]at q';exact q'
 ·have:((D1.Dr.bf g h).r:Int)=(d.r:Int)+e.r:=by show((g.r+h.r:Nat):Int)=_;lia
  rw[this]at q';exact q'
 ·refine q _ _ ⟨s2,x,.bf g h,_,_,_,_,rfl,hx,⟨gw,hw⟩,⟨gn,hn,by lia⟩,?_,by show g.l+h.l+(g.r+h.r)≤60;lia⟩;show(D1.Wd.w "beside"::(g.aE++h.aE)).length≤5000;rw[cu,bh];lia
theorem VL(hb:WL H b d)(lP:WL H b2 e)(dw:d.wf p)(dn:d.bD 64)(dl:d.aE.length≤100)(ds:d.l+d.r≤8)(ew:e.wf p)(en:e.bD 64)(el:e.aE.length≤3)(es:e.l+e.r≤4)(q:∀σ H',q5 p a c m b d.l d.r b2 e.l e.r H σ H'→N σ H'):zG K { D with nx:=N } (uw p a c m b d.l d.r b2 e.l e.r f s12 ij jl lZ) H:=by
 unfold zG;refine dr ⟨_,rfl,_,rfl,by show 2≤sizeLine;decide,λls fb=>?_⟩;have nb:b≠ls:=λz=>by rw[← z]at fb;unfold WL at hb;rw[fb]at hb;cases hb
 have nb2:b2≠ls:=λz=>by rw[← z]at fb;unfold WL at lP;rw[fb]at lP;cases lP
 refine IQ (c/11%2==1) (λR r=>⟨_,rfl,c,11,rfl,rfl,⟨by decide,by decide⟩,c/11,2,rfl,rfl,(by decide:(0:Int)<2),rfl,_,rfl,by rw[AE];exact r⟩) (λ_=>?_) λ_=>?_
 ·refine⟨_,rfl,.inl ⟨rfl,_,.of aZ⟩,ls,_,rfl,rfl,aZ,?_⟩;rw[Mu];exact J9 (g:=e) (h:=d) (u:=b2) (v:=b) (aJ.upd fb _ _ lP) (aJ.upd fb _ _ hb) aZ ew en (by lia) (by lia) dw dn dl ds (by lia) (by lia) λσ H' j=>q σ H' ⟨(aJ.upd fb).trans j.1,j.2⟩
 ·exact J9 (g:=d) (h:=e) (u:=b) (v:=b2) (aJ.upd fb _ _ hb) (aJ.upd fb _ _ lP) aZ dw dn dl ds ew en (by lia) (by lia) rfl rfl λσ H' j=>q σ H' ⟨(aJ.upd fb).trans j.1,j.2⟩
def zH(K:Frag)(j:Int):TE:=aT (ff K) (aL 11) (tC (.int j))
def C6(K:Frag):List V→Hp→VK→Prop:=λxs H Q=>∃p ys,xs=[.ref p]∧(cR K H p ys∨bQ K H p ys)∧Q (.int ys.length) H
def zI(K:Frag):TS:=bu (dQ (xt (eU (aT (dX λi j=>.bl (decide (j<i))) (jV (C6 K) (aI (zH K 0) aV)) (aL 3))) (xt (eU (aT (dX λi j=>.bl (decide (j<i))) (zH K 1) (tC (.int 4)))) (eU (aT (dX λi j=>.bl (decide (j<i))) (zH K 2) (tC (.int 4)))))) (ft (aL 1)) gk) (ft (aL 11))
theorem VM(hJ:q5 p a c m b d.l d.r b2 e.l e.r H σ H')(ha:WT H a d)(q1:∀H',aJ H H'→WT H' a d→D.rt (.ref a) H')(q2:∀f g H',aJ H H'→WT H' f g→g.wf p→g.bD 64→g.aE.length≤m→g.l+g.r≤8→D.rt (.ref f) H'):zI K D σ H':=by
 obtain⟨sm,f,g,s12,ij,jl,lZ,rfl,hf,w1,w2,w3,w4⟩:=hJ;obtain⟨t,gf,gt⟩:=hf;unfold zI;refine IQ (decide ((m:Int)<(g.aE.length:Int))||(decide (4<(g.l:Int))||decide (4<(g.r:Int)))) (λR r=>?_) (λ_=>?_) λz=>?_
 ·refine⟨_,rfl,f,_,0,_,rfl,rfl,.of gf,cb (j:=0) rfl,t,_,rfl,.inl (.of gt),_,rfl,_,_,rfl,rfl,_,rfl,?_⟩;rw[br];cases hd:decide ((m:Int)<(g.aE.length:Int)) with
  |true=>rw[hd]at r;exact eP r
  |false=>
   rw[hd]at r;refine cW ⟨_,rfl,f,_,1,_,rfl,rfl,.of gf,cb (j:=1) rfl,_,_,rfl,rfl,_,rfl,?_⟩;cases uX:decide (4<(g.l:Int)) with
   |true=>rw[uX]at r;exact eP r
   |false=>
    rw[uX]at r;exact cW ⟨_,rfl,f,_,2,_,rfl,rfl,.of gf,cb (j:=2) rfl,_,_,rfl,rfl,_,rfl,r⟩
 ·exact⟨_,rfl,q1 _ sm (ha.mono sm)⟩
 ·rw[Bool.or_eq_false_iff,Bool.or_eq_false_iff,decide_eq_false_iff_not,decide_eq_false_iff_not,decide_eq_false_iff_not]at z;exact⟨_,rfl,q2 f g _ sm ⟨t,gf,gt⟩ w1 w2 (by lia) (by lia)⟩
def C7(K:Frag)(E:XK):TS:=bu (cx (aL 1) (sv K 3 (ip (bo 4) (ip (bo 5) (ip (bo 6) qb)))))
 (bu (cx (fw (zt K) [] E (aI (aL 0) (aI (aT (rI nZ λi j=>.int (i/j)) (aL 2) (tC (.int 6))) aV))) (sv K 3 (ip (bo 7) (ip (bo 8) (ip (bo 9) qb))))) (bu (cx (aT (rI (λ_ j=>0<j) λi j=>.int (i%j)) (aL 2) (tC (.int 6))) (bo 10)) (bu (cx (aL 1) (bo 11)) (bu (dQ (oR (eU (aT (dX λi j=>.bl (decide (i<j))) (aL 10) (tC (.int 3)))) (eU (aT (dX λi j=>.bl (decide (i≤j))) (aL 8) (aL 6)))) (zC K E) (dQ (oR (eU (aT iN (aL 10) (tC (.int 3)))) (eU (aT (dX λi j=>.bl (decide (i≤j))) (aL 9) (aL 5)))) (zD K E) (dQ (eU (aT iN (aL 10) (tC (.int 4)))) zE (zG K)))) (zI K)))))
end
def Ka(_K:Frag):Sp:=λvs H Q _=>∃(p c:Int)(a:Addr)(m:Nat)(d:D1.Dr),vs=[.int p,.ref a,.int c,.int (m:Int)]∧p∈cK∧WT H a d∧d.wf p∧d.bD 64∧d.aE.length≤m∧m≤100∧d.l+d.r≤8∧
 ∀f g H',aJ H H'→WT H' f g→g.wf p→g.bD 64→g.aE.length≤m→g.l+g.r≤8→Q (.ref f) H'
theorem gS:cY ["p","one","cell","most","words","left","right","box","into","out","way","found","at","wide","row","some"] ["p","one","cell","most"] (bp tI):=dE rfl rfl rfl (by decide +kernel) rfl
theorem VN{fS fB:Addr}{jE pO:FuncData}(F:cL K "_law_more" "_law_more" tI f fd)(T:Txt mg)
  (GS:bN P w K mg base bO 1 fS jE ["p","cell"] (zt K)) (kS:Kp K fS) (bS:Binds K jE ["p","cell"] []) (mS:Mg mg "_law_some_box" fS)
  (GB:bN P w K mg base bO 1 fB pO ["parts"] (q4 K)) (kB:Kp K fB) (bB:Binds K pO ["parts"] []) (mB:Mg mg "_law_beside_all" fB) :
  bN P w K mg base bO 2 f fd ["p","one","cell","most"] (Ka K):=by
 refine F.ok gS (λvs H Q E h=>?_) (λcj A outer s H vs Q E hr h=>?_)
 ·obtain⟨p,c,a,m,d,rfl,_⟩:=h;rfl
 ·obtain⟨p,c,a,m,d,rfl,pp,ha,dw,dn,dm,hm,ds,q⟩:=h;refine⟨C7 K E,?_,?_⟩
  ·unfold C7;refine ba ?_ ?_
   ·exact nX (pv 1) (oi rfl (eh (cB (i:=4) gS.nd rfl (.inl rfl)) (eh (cB (i:=5) gS.nd rfl (.inl rfl)) (eh (cB (i:=6) gS.nd rfl (.inl rfl)) kZ))))
   refine ba ?_ ?_
   ·exact nX (cO GS hr rfl mS kS bS .nil cP (aG (pv 0) (aG (aU jT (pv 2) aY) aK))) (oi rfl (eh (cB (i:=7) gS.nd rfl (.inl rfl)) (eh (cB (i:=8) gS.nd rfl (.inl rfl)) (eh (cB (i:=9) gS.nd rfl (.inl rfl)) kZ))))
   refine ba ?_ ?_
   ·exact bw (i:=10) gS.nd rfl (.inl rfl) (aU eC (pv 2) aY)
   refine ba ?_ ?_
   ·exact bw (i:=11) gS.nd rfl (.inl rfl) (pv 1)
   refine ba ?_ ?_
   ·refine cS ?_ ?_ ?_
    ·exact PW.pt (oS (cE Nd (pv 10) aY (cD _)) (qa (cE EV (pv 8) (pv 6) (cD _))))
    ·unfold zC wH wI uv wG ma;refine ba ?_ ?_
     ·exact bw (i:=12) gS.nd rfl (.inl rfl) (aU eC (aU jT (pv 2) aY) (aU fu (aU iM (pv 6) (pv 8)) aY))
     refine ba ?_ ?_
     ·exact bw (i:=13) gS.nd rfl (.inl rfl) (aU iM (aU iM (pv 6) (pv 8)) (pv 12))
     refine ba ?_ ?_
     ·exact bw (i:=14) gS.nd rfl (.inl rfl) (cO GB hr rfl mB kB bB .nil cP (aG (aU bV (aU bV (aU lD (bc (aG (bc (aG aW aK)) aK)) (pv 12)) (bc (aG (pv 7) aK))) (aU lD (bc (aG (bc (aG aW aK)) aK)) (pv 13))) aK))
     ·refine bj ?_;exact bw (i:=11) gS.nd rfl (.inl rfl) (bc (aG (aU bV (aU bV (bc (aG aW aK)) (pv 4)) (pv 14)) (aG (pv 5) (aG (aU fu (aU iM (pv 6) (pv 8)) (pv 9)) aK))))
    ·refine bj ?_;refine cS ?_ ?_ ?_
     ·exact PW.pt (oS (cE dZ (pv 10) aY (cD _)) (qa (cE EV (pv 9) (pv 5) (cD _))))
     ·unfold zD wH wI uv wG ma;refine ba ?_ ?_
      ·exact bw (i:=12) gS.nd rfl (.inl rfl) (aU eC (aU jT (pv 2) aY) (aU fu (aU iM (pv 5) (pv 9)) aY))
      refine ba ?_ ?_
      ·exact bw (i:=13) gS.nd rfl (.inl rfl) (aU iM (aU iM (pv 5) (pv 9)) (pv 12))
      refine ba ?_ ?_
      ·exact bw (i:=14) gS.nd rfl (.inl rfl) (cO GB hr rfl mB kB bB .nil cP (aG (aU bV (aU bV (aU lD (bc (aG (bc (aG aW aK)) aK)) (pv 12)) (bc (aG (pv 7) aK))) (aU lD (bc (aG (bc (aG aW aK)) aK)) (pv 13))) aK))
      ·refine bj ?_;exact bw (i:=11) gS.nd rfl (.inl rfl) (bc (aG (aU bV (aU bV (bc (aG aW aK)) (pv 14)) (pv 4)) (aG (aU fu (aU iM (pv 5) (pv 9)) (pv 8)) (aG (pv 6) aK))))
     ·refine bj ?_;refine cS ?_ ?_ ?_
      ·exact cE dZ (pv 10) aY (cD _)
      ·unfold zE ma;refine bj ?_;exact bw (i:=11) gS.nd rfl (.inl rfl) (bc (aG (aU bV (bc (aG aW aK)) (pv 4)) (aG (pv 6) (aG (pv 5) aK))))
      ·unfold zG wJ ma;refine ba ?_ ?_
       ·exact bw (i:=15) gS.nd rfl (.inl rfl) (bc (aG (pv 4) (aG (pv 7) aK)))
       refine ba ?_ ?_
       ·refine cS ?_ ?_ dW
        ·exact cE dZ (aU eC (aU jT (pv 2) aY) aY) aY (cD _)
        ·refine bj ?_;exact jS (Fm ke PySem.F.slot_list_reverse PySem.F.type_list_reverse NZ (pv 15))
       ·refine bj ?_;exact bw (i:=11) gS.nd rfl (.inl rfl) (bc (aG (aU bV (aU bV (bc (aG aW aK)) (bZ (cH K rfl) (pv 15) aY (λ_ _=>rfl))) (bZ (cH K rfl) (pv 15) aY (λ_ _=>rfl))) (aG (aU fu (pv 5) (pv 8)) (aG (aU fu (pv 6) (pv 9)) aK))))
   ·unfold zI zH;refine ba ?_ ?_
    ·refine cS ?_ ?_ dW
     ·exact PW.pt (rP (cE uT (gp (og K rfl) rfl T.len oh (aG (bZ (cH K rfl) (pv 11) aY (λ_ _=>rfl)) aK)) (pv 3) (cD _)) (rP (cE uT (bZ (cH K rfl) (pv 11) aY (λ_ _=>rfl)) aY (cD _)) (xu (cE uT (bZ (cH K rfl) (pv 11) aY (λ_ _=>rfl)) aY (cD _)))))
     ·exact bj (cA (pv 1))
    ·exact bj (cA (pv 11))
  unfold C7;obtain⟨b,ga,gb⟩:=ha;refine J7 ⟨_,rfl,oD (.of ga) ?_⟩;refine J7 ⟨_,rfl,_,rfl,c,6,rfl,rfl,⟨by decide,by decide⟩,p,c/6,rfl,pp,λa2 e H1 s1 he ew en el es=>?_⟩;obtain⟨b2,VO,C8⟩:=he;refine oD (.of VO) ?_;refine dr ⟨_,rfl,c,6,rfl,rfl,(by decide:(0:Int)<6),?_⟩;refine dr ⟨_,rfl,?_⟩;have lU:=s1 _ _ gb;have VP:WT H1 a d:=⟨b,s1 _ _ ga,lU⟩;refine Qq (q5 p a c m b d.l d.r b2 e.l e.r H1) (λN hN=>?_) (λσ H' hJ=>VM hJ VP (λH' s' h'=>q a d H' (s1.trans s') h' dw dn dm ds) (λf g H' s' h'=>q f g H' (s1.trans s') h'));refine C4 (decide (c%6<3)&&decide ((e.l:Int)≤d.r)) (λR r=>J8 (λR r=>⟨_,rfl,_,_,rfl,rfl,_,rfl,r⟩) (λR r=>⟨_,rfl,_,rfl,_,_,rfl,rfl,_,rfl,r⟩) r) (λz=>?_) λ_=>?_
  ·rw[fq,decide_eq_true_iff,decide_eq_true_iff]at z;exact VG lU C8 dw dn (by lia) ds ew en el es (by lia) hN
  refine C4 (decide (V.int (c%6)=V.int 3)&&decide ((e.r:Int)≤d.l)) (λR r=>J8 (λR r=>⟨_,rfl,rfl,_,rfl,r⟩) (λR r=>⟨_,rfl,_,rfl,_,_,rfl,rfl,_,rfl,r⟩) r) (λz=>?_) λ_=>?_
  ·rw[fq,decide_eq_true_iff,decide_eq_true_iff]at z;exact VH lU C8 dw dn (by lia) ds ew en el es (by lia) hN
  refine C4 (decide (V.int (c%6)=V.int 4)) (λR r=>⟨_,rfl,rfl,_,rfl,r⟩) (λz=>?_) λ_=>?_
  ·exact VI lU dw dn (by lia) ds hN
  ·have cU:d.aE.length≤100:=by lia
   exact VL (K:=K) (p:=p) (c:=c) (a:=a) (b:=b) (b2:=b2) (f:=a) (m:=m) (d:=d) (e:=e) (s12:=none) (ij:=none) (jl:=none) (lZ:=none) (H:=H1) (N:=N) lU C8 dw dn cU ds ew en el es hN
def wK(_K:Frag):Sp:=λvs H Q _=>∃(p:Int)(a:Addr)(m:Nat)(ns:List Int),vs=[.int p,.ref a,.int (m:Int)]∧p∈cK∧H a=some (.lst (ns.map V.int))∧ns.length≤1000∧3≤m∧m≤100∧
 ∀f g H',aJ H H'→WT H' f g→g.wf p→g.bD 64→g.aE.length≤m→g.l+g.r≤8→Q (.ref f) H'
theorem wL:cY ["p","cells","most","one","k"] ["p","cells","most"] (bp tJ):=dE rfl rfl rfl (by decide +kernel) rfl
theorem VQ{fS fM:Addr}{jE fO:FuncData}(F:cL K "_law_grown" "_law_grown" tJ f fd)(T:Txt mg)
  (GS:bN P w K mg base bO 1 fS jE ["p","cell"] (zt K)) (kS:Kp K fS) (bS:Binds K jE ["p","cell"] []) (mS:Mg mg "_law_some_box" fS)
  (GM:bN P w K mg base bO 2 fM fO ["p","one","cell","most"] (Ka K)) (kM:Kp K fM) (bM:Binds K fO ["p","one","cell","most"] []) (mM:Mg mg "_law_more" fM) :
  bN P w K mg base bO 3 f fd ["p","cells","most"] (wK K):=by
 refine F.ok wL (λvs H Q E h=>?_) (λcj A outer s H vs Q E hr h=>?_)
 ·obtain⟨p,a,m,ns,rfl,_⟩:=h;rfl
 ·obtain⟨p,a,m,ns,rfl,pp,ga,hl,m3,VR,q⟩:=h;have zq:dR 1 _:=hr.mono (by lia);have z:(10000:Nat)≤sizeLine:=by decide
  refine⟨_,ba (bw (i:=3) wL.nd rfl (.inl rfl) (bc (aG (bc (aG aW aK)) (aG aY (aG aY aK))))) (ba (ja jq rfl (qd rfl T.range (aG (gp (og K rfl) rfl T.len oh (aG (pv 1) aK)) aK)) (cB (i:=4) wL.nd rfl (.inl rfl)) (bj (cS (cE dZ (pv 4) aY (cD _)) (bj (bw (i:=3) wL.nd rfl (.inl rfl) (cO GS zq rfl mS kS bS .nil cP (aG (pv 0) (aG (bZ (cH K rfl) (pv 1) aY (λ_ _=>rfl)) aK))))) (bj (bw (i:=3) wL.nd rfl (.inl rfl) (cO GM hr rfl mM kM bM .nil cP (aG (pv 0) (aG (pv 3) (aG (bZ (cH K rfl) (pv 1) (pv 4) (λ_ _=>rfl)) (aG (pv 2) aK)))))))))) (bj (cA (pv 3)))),?_⟩;refine⟨by show 1≤sizeLine;lia,λl0 h0=>⟨by show 3≤sizeLine;lia,λl1 h1=>?_⟩⟩;have Kb:WT (upd (upd H l0 (.lst [.str (Str.ofString "id")])) l1 (.lst [.ref l0,.int 1,.int 1])) l1 .id:=⟨l0,aZ,aJ.upd h1 _ _ aZ⟩;have s0:aJ H (upd (upd H l0 (.lst [.str (Str.ofString "id")])) l1 (.lst [.ref l0,.int 1,.int 1])):=(aJ.upd h0).trans (.upd h1);generalize upd (upd H l0 (.lst [.str (Str.ofString "id")])) l1 (.lst [.ref l0,.int 1,.int 1])=H0 at s0 Kb ⊢;have eN:(ns.map V.int).length=ns.length:=br _;refine⟨_,rfl,a,_,rfl,.inl (.of (s0 _ _ ga)),_,rfl,by lia,by lia,xC (n:=(ns.map V.int).length) (λ_ σ H'=>aJ H H'∧∃f g s4,σ=[some (.int p),some (.ref a),some (.int (m:Int)),some (.ref f),s4]∧WT H' f g∧g.wf p∧g.bD 64∧g.aE.length≤m∧g.l+g.r≤8) ⟨s0,l1,.id,none,rfl,Kb,True.intro,True.intro,by show 1≤m;lia,by decide⟩ ?_ ?_⟩
  ·rintro k σ H1 hk ⟨sm,f,g,s4,rfl,hf,g1,g2,g3,g4⟩;rw[eN]at hk;rw[jO];dsimp only[bo];refine⟨_,rfl,rfl,_,rfl,?_⟩;obtain⟨c,hc⟩:∃c,ns[k]?=some c:=⟨_,cg hk⟩;split
   ·rename_i z
    have e:(k:Int)=0:=V.int.inj (az z);have e0:k=0:=by lia
    subst e0;refine⟨_,rfl,_,rfl,a,_,0,.int c,rfl,rfl,.of (sm _ _ ga),cb (j:=0) (by rw[fj,hc];rfl),p,c,rfl,pp,λf' g' H2 s2 pf w1 w2 w3 w4=>?_⟩;exact⟨sm.trans s2,f',g',_,rfl,pf,w1,w2,by lia,by lia⟩
   ·refine⟨_,rfl,_,rfl,_,rfl,_,rfl,a,_,(k:Int),.int c,rfl,rfl,.of (sm _ _ ga),cb (j:=k) (by rw[fj,hc];rfl),_,rfl,p,c,f,m,g,rfl,pp,hf,g1,g2,g3,VR,g4,λf' g' H2 s2 pf w1 w2 w3 w4=>?_⟩;exact⟨sm.trans s2,f',g',_,rfl,pf,w1,w2,w3,w4⟩
  ·rintro σ H1 ⟨sm,f,g,s4,rfl,hf,g1,g2,g3,g4⟩;exact⟨_,rfl,q f g H1 sm hf g1 g2 g3 g4⟩
noncomputable def cw:D1.Dr→Dw
 | .id=>.box (Str.ofString "id") 1 1
 | .swap=>.box (Str.ofString "swap") 2 2
 | .copy=>.box (Str.ofString "copy") 1 2
 | .fin=>.box (Str.ofString "end") 1 0
 | .add=>.box (Str.ofString "add") 2 1
 | .none=>.box (Str.ofString "none") 0 1
 | .ig=>.box (Str.ofString "cup") 0 2
 | .empty=>.box (Str.ofString "empty") 0 0
 | .times n=>.times n
 | .back d=>.back (cw d)
 | .bf a b=>.bf (cw a) (cw b)
 | .aM a b=>.aM (cw a) (cw b)
theorem nH:∀d:D1.Dr,(cw d).aE=d.aE.map bY
 | .id | .swap | .copy | .fin | .add | .none | .ig | .empty | .times _=>rfl
 | .back d=>by
  show V.str "back"::(cw d).aE=V.str "back"::d.aE.map bY;rw[nH d]
 | .bf a b=>by
  show V.str "beside"::((cw a).aE++(cw b).aE)=V.str "beside"::(a.aE++b.aE).map bY;rw[nH a,nH b,fe]
 | .aM a b=>by
  show V.str "then"::((cw a).aE++(cw b).aE)=V.str "then"::(a.aE++b.aE).map bY;rw[nH a,nH b,fe]
theorem ux(d:D1.Dr):(cw d).aE.length=d.aE.length:=by rw[nH,br]
theorem rg:∀d:D1.Dr,(cw d).bq=d.bq
 | .id | .swap | .copy | .fin | .add | .none | .ig | .empty | .times _=>rfl
 | .back d=>by show((cw d).bq.2,(cw d).bq.1)=(d.bq.2,d.bq.1);rw[rg d]
 | .bf a b=>by show((cw a).bq.1+(cw b).bq.1,(cw a).bq.2+(cw b).bq.2)=(a.bq.1+b.bq.1,a.bq.2+b.bq.2);rw[rg a,rg b]
 | .aM a b=>by show((cw a).bq.1,(cw b).bq.2)=(a.bq.1,b.bq.2);rw[rg a,rg b]
theorem gT{p:Int}:∀{d:D1.Dr},d.wf p→(cw d).ok p
 | .id,_=>by show(_,_,_)∈lL;decide +kernel
 | .swap,_=>by show(_,_,_)∈lL;decide +kernel
 | .copy,_=>by show(_,_,_)∈lL;decide +kernel
 | .fin,_=>by show(_,_,_)∈lL;decide +kernel
 | .add,_=>by show(_,_,_)∈lL;decide +kernel
 | .none,_=>by show(_,_,_)∈lL;decide +kernel
 | .ig,_=>by show(_,_,_)∈lL;decide +kernel
 | .empty,_=>by show(_,_,_)∈lL;decide +kernel
 | .times _,h=>h
 | .back d,h=>gT (d:=d) h
 | .bf _ _,h=>⟨gT h.1,gT h.2⟩
 | .aM _ _,h=>⟨gT h.1,gT h.2.1⟩
theorem VT:∀d:D1.Dr,∃x r,d.aE=.w x::r
 | .id | .swap | .copy | .fin | .add | .none | .ig | .empty | .times _ | .back _ | .bf _ _ | .aM _ _=>⟨_,_,rfl⟩
noncomputable def jF:D1.Wd→Dat
 | .w x=>.str x
 | .n i=>.int i
theorem uy{K:Frag}{H:Hp}:∀ws:List D1.Wd,du K H (ws.map bY) (ws.map jF)
 | []=>.nil
 | .w _::ws=>.cons (.str _) (uy ws)
 | .n i::ws=>.cons (.int i) (uy ws)
noncomputable def pQ:List String:=["id","swap","copy","end","add","none","cup","empty","times","back","beside","then"]
theorem VU:pQ.all (λx=>kqdOk 6 (.str (Str.ofString x))&&kqdOk 7 (.str (Str.ofString x)))=true:=by decide +kernel
theorem wM:∀(d:D1.Dr)(x:String),D1.Wd.w x∈d.aE→x∈pQ:=by
 intro d;induction d with
 |times n=>intro x h;simp[D1.Dr.aE]at h;subst h;decide
 |back d ih=>
  intro x h;simp[D1.Dr.aE]at h;rcases h with rfl|h
  ·decide
  ·exact ih x h
 |bf a b qW qX=>
  intro x h;simp[D1.Dr.aE]at h;rcases h with rfl|h|h
  ·decide
  ·exact qW x h
  ·exact qX x h
 |aM a b qW qX=>
  intro x h;simp[D1.Dr.aE]at h;rcases h with rfl|h|h
  ·decide
  ·exact qW x h
  ·exact qX x h
 |_=>intro x h;simp[D1.Dr.aE]at h;subst h;decide
theorem kqd_all(h:∀x,D1.Wd.w x∈ws→x∈pQ):(ws.map jF).all (kqdOk 7)=true∧(ws.map jF).all (kqdOk 6)=true:=by
 have key:∀u∈ws,kqdOk 7 (jF u)=true∧kqdOk 6 (jF u)=true:=λu hu=>by
  cases u with
  |n i=>exact⟨rfl,rfl⟩
  |w x=>
   have:=iK.mp VU x (h x hu)
   rw[fq]at this;exact⟨this.2,this.1⟩
 exact⟨iK.mpr λy hy=>by obtain⟨u,hu,rfl⟩:=dN.mp hy;exact(key u hu).1,iK.mpr λy hy=>by obtain⟨u,hu,rfl⟩:=dN.mp hy;exact(key u hu).2⟩
theorem VW(h:∀x,D1.Wd.w x∈ws→x∈pQ):kqdOk 8 (.list (ws.map jF))=true:=(kqd_all h).1
theorem Kc(h:∀x,D1.Wd.w x∈ws→x∈pQ):kqdOk 8 (.tuple (ws.map jF))=true:=(kqd_all h).1
theorem Kd{K:Frag}{H:Hp}:∀{vs:List V}{ds:List D1.Dr},dU H vs ds→du K H vs (ds.map λd=>.list (d.aE.map jF))
 | [],[],_=>.nil
 | [],_::_,h=>nomatch h.1
 |_::_,[],h=>nomatch h.1
 |v::vs,d::ds,h=>by
  obtain⟨b,rfl,hb⟩:=h.2 0 v d rfl rfl;exact .cons (.list (.of hb) (uy _)) (Kd ⟨Nat.succ.inj h.1,λi v d e1 e2=>h.2 (i+1) v d e1 e2⟩)
theorem VX(ds:List D1.Dr):kqdOk 8 (.list (ds.map λd=>.list (d.aE.map jF)))=true:=by
 unfold kqdOk;refine iK.mpr λy hy=>?_;obtain⟨d,_,rfl⟩:=dN.mp hy;exact(kqd_all (wM d)).2
def iZ(te:TE)(σ:St)(H:Hp)(ws:List D1.Wd):Prop:=∀H',aJ H H'→∀R:VK,(∀a di,aJ H' di→di a=some (.lst (ws.map bY))→R (.ref a) di)→te σ H' R
def uz(ta:TA)(σ:St)(ws:List D1.Wd):Prop:=∀(H:Hp)(Q:List V→Hp→Prop),Q (ws.map bY) H→ta σ H Q
def C9(te:TE)(σ:St)(n:Int):Prop:=∀(H:Hp)(R:VK),R (.int n) H→te σ H R
section
variable{σ:St}{H:Hp}
theorem iZ.mono(h:iZ te σ H ws)(s:aJ H H'):iZ te σ H' ws:=λdi s'=>h di (s.trans s')
theorem nI(h:σ[i]?=some (some (.int n))):C9 (aL i) σ n:=λ_ _ q=>⟨_,h,q⟩
theorem Ke:C9 (tC (.int n)) σ n:=λ_ _ q=>q
theorem cM:uz aV σ []:=λ_ _ q=>q
theorem bX(h:uz ta σ ws):uz (aI (tC (.str (Str.ofString x))) ta) σ (.w x::ws):=λH Q q=>h H _ q
theorem jm(k:C9 te σ n)(h:uz ta σ ws):uz (aI te ta) σ (.n n::ws):=λH Q q=>k H _ (h H _ q)
theorem dj{a:Addr}(h:σ[i]?=some (some (.ref a)))(ha:H a=some (.lst (ws.map bY))):iZ (aL i) σ H ws:=λ_ s _ q=>⟨_,h,q a _ (.refl _) (s _ _ ha)⟩
theorem cN(h:uz ta σ ws)(hn:ws.length≤100):iZ (bg ta) σ H ws:=λH' _ R q=>h H' _ ⟨by rw[br];exact eu hn (by decide),λl hl=>q l _ (.upd hl) aZ⟩
theorem de{ta:TE}(h1:iZ ta σ H ws)(h2:iZ tb σ H us)(hl:ws.length+us.length≤1000):iZ (aT cc ta tb) σ H (ws++us):=λH' s R q=>by
 refine h1 H' s _ λa H1 s1 ga=>h2 H1 (s.trans s1) _ λb H2 s2 gb=>?_;refine⟨a,b,_,_,rfl,rfl,s2 _ _ ga,gb,by rw[br,br];exact eu hl (by decide),λc hc=>?_⟩;rw[← fe];exact q c _ (s1.trans (s2.trans (.upd hc))) aZ
def wN(ta:TA)(σ:St)(H:Hp)(ds:List D1.Dr):Prop:=∀H',aJ H H'→∀Q:List V→Hp→Prop,(∀vs di,aJ H' di→dU di vs ds→Q vs di)→ta σ H' Q
theorem Kf:wN aV σ H []:=λH' _ _ q=>q [] H' (.refl _) ⟨rfl,λi v d e=>by cases e⟩
theorem dU.cons{a:Addr}(h:WL H a d)(r:dU H vs ds):dU H (.ref a::vs) (d::ds):=dU.append (dU.one h) r
theorem pR(h:iZ te σ H d.aE)(k:wN ta σ H ds):wN (aI te ta) σ H (d::ds):=λH' s Q q=>
 h H' s _ λa H1 s1 ga=>k H1 (s.trans s1) _ λvs H2 s2 hv=>q _ H2 (s1.trans s2) (dU.cons (s2 _ _ ga) hv)
end
def wO(_K:Frag):Sp:=λvs H Q _=>∃(a:Addr)(d:D1.Dr),vs=[.ref a]∧WT H a d∧∀f g H',aJ H H'→WT H' f g→(g=.id∨(g=d∧d.l≤2∧d.r≤2))→Q (.ref f) H'
theorem VY:cY ["one"] ["one"] (bp tM):=dE rfl rfl rfl (by decide +kernel) rfl
theorem VZ(F:cL K "_law_small" "_law_small" tM f fd):bN P w K mg base bO 1 f fd ["one"] (wO K):=by
 refine F.ok VY (λvs H Q E h=>?_) (λcj A outer s H vs Q E hr h=>?_)
 ·obtain⟨a,d,rfl,_⟩:=h;rfl
 ·obtain⟨a,d,rfl,⟨b,ga,gb⟩,q⟩:=h;have z:(1000:Nat)≤sizeLine:=by decide
  refine⟨_,ba (cS (PW.pt (rP (cE uT (bZ (cH K rfl) (pv 0) aY (λ_ _=>rfl)) aY (cD _)) (xu (cE uT (bZ (cH K rfl) (pv 0) aY (λ_ _=>rfl)) aY (cD _))))) (bj (cA (bc (aG (bc (aG aW aK)) (aG aY (aG aY aK)))))) dW) (bj (cA (pv 0))),?_⟩;have e1:∀R:Prop,(R→R):=λ_ h=>h;have Kg:∀(H':Hp),aJ H H'→1≤sizeLine∧∀l0,H' l0=none→3≤sizeLine∧∀l1,(upd H' l0 (.lst [.str (Str.ofString "id")])) l1=none→Q (.ref l1) (upd (upd H' l0 (.lst [.str (Str.ofString "id")])) l1 (.lst [.ref l0,.int 1,.int 1])):=λH' s'=>
   ⟨by lia,λl0 h0=>⟨by lia,λl1 h1=>q l1 .id _ (s'.trans ((aJ.upd h0).trans (.upd h1))) ⟨l0,aZ,aJ.upd h1 _ _ aZ⟩ (.inl rfl)⟩⟩
  refine⟨_,rfl,a,_,1,_,rfl,rfl,.of ga,cb (j:=1) rfl,_,_,rfl,rfl,_,rfl,?_⟩;by_cases h1:(2:Int)<d.l
  ·rw[ax h1];exact eP (eP (Kg H (.refl _)))
  rw[ae h1];refine cW ⟨_,rfl,a,_,2,_,rfl,rfl,.of ga,cb (j:=2) rfl,_,_,rfl,rfl,_,rfl,?_⟩;by_cases h2:(2:Int)<d.r
  ·rw[ax h2];exact eP (Kg H (.refl _))
  rw[ae h2];exact cW ⟨_,rfl,q a d H (.refl _) ⟨b,ga,gb⟩ (.inr ⟨rfl,by lia,by lia⟩)⟩
def zJ(_K:Frag):Sp:=λvs H Q _=>∃(p:Int)(a:Addr)(d:D1.Dr),vs=[.int p,.ref a]∧p∈cK∧WL H a d∧d.wf p∧d.bD 64∧d.aE.length≤1000∧∀H',aJ H H'→Q (.int (d.r:Int)) H'
theorem V0:cY ["p","words"] ["p","words"] (bp tL):=dE rfl rfl rfl (by decide +kernel) rfl
theorem V1{fM:Addr}{fO:FuncData}(F:cL K "_law_right" "_law_right" tL f fd)
  (GM:bN P w K mg base bO 4 fM fO ["p","words"] (wk K)) (kM:Kp K fM) (bM:Binds K fO ["p","words"] []) (mM:Mg mg "_law_meaning" fM):bN P w K mg base bO 5 f fd ["p","words"] (zJ K):=by
 refine F.ok V0 (λvs H Q E h=>?_) (λcj A outer s H vs Q E hr h=>?_)
 ·obtain⟨p,a,d,rfl,_⟩:=h;rfl
 ·obtain⟨p,a,d,rfl,pp,ga,wf,nr,hl,q⟩:=h;refine⟨_,bj (cA (bZ (cH K rfl) (cO GM hr rfl mM kM bM .nil cP (aG (pv 0) (aG (pv 1) aK))) aY (λ_ _=>rfl))),?_⟩;refine⟨_,rfl,_,rfl,p,a,d,rfl,pp,ga,wf,nr,by lia,λt H' b TS s1 g1 _ _=>?_⟩;exact⟨t,_,1,_,rfl,rfl,.of g1,cb (j:=1) rfl,q H' s1⟩
theorem V2{pl:Addr}{PS:List V}(h:WL H b d)(g:H pl=some (.lst PS))(hP:dU H PS ds):b≠pl:=λe=>by
 obtain⟨x,r,hw⟩:=VT d;have h':H b=some (.lst (d.aE.map bY)):=h;rw[e,g,hw]at h';have e2:PS=bY (.w x)::r.map bY:=by cases h';rfl
 have hl:=hP.1;rw[e2]at hl;cases ds with
 |nil=>cases hl
 |cons d0 ds=>
  obtain⟨c,z,_⟩:=hP.2 0 (bY (.w x)) d0 (by rw[e2];rfl) rfl;cases z
theorem WL.put{pl:Addr}{PS:List V}{o:HO}(h:WL H b d)(g:H pl=some (.lst PS))(hP:dU H PS ds):WL (upd H pl o) b d:=by
 show(upd H pl o) b=_;rw[cC (V2 h g hP)];exact h
theorem dU.put{H:Hp}{pl:Addr}{VS PS:List V}{es ds:List D1.Dr}{o:HO}(h:dU H VS es)(g:H pl=some (.lst PS))(hP:dU H PS ds):dU (upd H pl o) VS es:=
 ⟨h.1,λi v d e1 e2=>let ⟨b,e,hb⟩:=h.2 i v d e1 e2;⟨b,e,hb.put g hP⟩⟩
structure zK(p:Int)(d:D1.Dr):Prop where
 wf:d.wf p
 bD:d.bD 64
 len:d.aE.length≤3
 l:d.l=1
 r:d.r≤1
noncomputable def zL(p c:Int):List D1.Dr:=[.id,.times (c/5%p),.back .none,.fin,.back (.times ((c/5+1)%p))]
theorem V3{c:Int}(p0:0<p)(h:(zL p c)[i]?=some d):zK p d:=by
 have hm:=d8 h;have h1:=i6 (c/5) (show p≠0 by lia);have h2:=i7 (c/5) p0;have h3:=i6 (c/5+1) (show p≠0 by lia);have h4:=i7 (c/5+1) p0;simp only[zL,e9,List.not_mem_nil,or_false]at hm;rcases hm with rfl|rfl|rfl|rfl|rfl
 ·exact⟨True.intro,True.intro,by decide,rfl,by decide⟩
 ·exact⟨⟨h1,h2⟩,True.intro,by show 2≤3;decide,rfl,by show 1≤1;decide⟩
 ·exact⟨True.intro,True.intro,by decide,rfl,by decide⟩
 ·exact⟨True.intro,True.intro,by decide,rfl,by decide⟩
 ·exact⟨⟨h3,h4⟩,True.intro,by show 3≤3;decide,rfl,by show 1≤1;decide⟩
theorem Kh{p:Int}:∀{ds:List D1.Dr},(∀d∈ds,zK p d)→D1.iS ds=ds.length∧D1.jk ds≤ds.length
 | [],_=>⟨rfl,bH _⟩
 |d::ds,h=>by
  obtain⟨i1,i2⟩:=Kh (ds:=ds) λx hx=>h x (eR _ hx);have hd:=h d dv
  have:=hd.l
  have:=hd.r
  refine⟨?_,?_⟩
  ·show d.l+D1.iS ds=ds.length+1;lia
  ·show d.r+D1.jk ds≤ds.length+1;lia
structure jG(p:Int)(m:Nat)(g:D1.Dr):Prop where
 wf:g.wf p
 bD:g.bD 64
 len:g.aE.length≤7
 l:g.l=m
 r:g.r≤2
theorem V4(h:∀x∈es++[d],zK p x)(hm:(es++[d]).length=m)(m2:m≤2):jG p m (D1.kK (es++[d])):=by
 obtain⟨h1,h2⟩:=Kh h;refine⟨D1.CV _ λx hx=>(h x hx).wf,D1.CW _ (λx hx=>(h x hx).bD) (by lia),?_,by rw[D1.wD,h1,hm],by rw[D1.wF];lia⟩;rw[D1.zz,bh]
 have:=D1.wC (B:=3) es λe he=>(h e (jM _ he)).len
 have:=(h d (fY _ dv)).len
 rw[bh,List.length_singleton]at hm
 have:es.length*(3+1)≤1*4:=Nat.mul_le_mul_right _ (by lia)
 lia
noncomputable def zM:List D1.Dr:=[.empty,.none,.ig]
theorem V5(h:zM[i]?=some d):jG p 0 d:=by
 have hm:=d8 h;simp only[zM,e9,List.not_mem_nil,or_false]at hm;rcases hm with rfl|rfl|rfl;all_goals exact⟨True.intro,True.intro,by decide,rfl,by decide⟩
theorem zN{α:Type}{xs:List α}{n:Nat}(hl:xs.length=n)(hn:0<n)(c:Int):∃(i:Nat)(x:α),xs[i]?=some x∧(c%(n:Int))=(i:Int):=by
 have h1:=i6 c (show(n:Int)≠0 by lia);have h2:=i7 c (show(0:Int)<n by lia);have h3:(c%(n:Int)).toNat<xs.length:=by lia
 exact⟨(c%(n:Int)).toNat,xs[(c%(n:Int)).toNat],cg h3,by lia⟩
abbrev ik:R2:=rI (λ_ j=>0<j) λi j=>.int (i%j)
abbrev rh:R2:=rI nZ λi j=>.int (i/j)
abbrev tS(x:String):TE:=tC (.str (Str.ofString x))
def Dc:TA:=aI (bg (aI (tS "id") aV)) (aI (bg (aI (tS "times") (aI (aT ik (aT rh (aL 2) (tC (.int 5))) (aL 0)) aV))) (aI (bg (aI (tS "back") (aI (tS "none") aV))) (aI (bg (aI (tS "end") aV)) (aI (bg (aI (tS "back") (aI (tS "times") (aI (aT ik (aT (dX λi j=>.int (i+j)) (aT rh (aL 2) (tC (.int 5))) (tC (.int 1))) (aL 0)) aV)))) aV))))
def Dd:TA:=aI (bg (aI (tS "empty") aV)) (aI (bg (aI (tS "none") aV)) (aI (bg (aI (tS "cup") aV)) aV))
theorem V6{c:Int}(h0:σ[0]?=some (some (.int p)))(h2:σ[2]?=some (some (.int c)))(p0:0<p):wN Dc σ H (zL p c):=
 pR (d:=.id) (cN (bX cM) (by decide)) (pR (d:=.times (c/5%p)) (cN (bX (jm (λ_ _ q=>⟨_,h2,c,5,rfl,rfl,⟨by decide,by decide⟩,_,h0,c/5,p,rfl,rfl,p0,q⟩) cM)) (by show 2≤100;decide)) (pR (d:=.back .none) (cN (bX (bX cM)) (by decide)) (pR (d:=.fin) (cN (bX cM) (by decide)) (pR (d:=.back (.times ((c/5+1)%p))) (cN (bX (bX (jm (λ_ _ q=>⟨_,h2,c,5,rfl,rfl,⟨by decide,by decide⟩,_,_,rfl,rfl,_,h0,c/5+1,p,rfl,rfl,p0,q⟩) cM))) (by show 3≤100;decide)) Kf))))
theorem V7:wN Dd σ H zM:=
 pR (d:=.empty) (cN (bX cM) (by decide)) (pR (d:=.none) (cN (bX cM) (by decide)) (pR (d:=.ig) (cN (bX cM) (by decide)) Kf))
def De(K:Frag):TS:=bu (cx (bg Dc) (bo 5)) (bu (rS (qi K "list" u0 (aL 3) (aI (aT (ff K) (aL 5) (aT ik (aL 2) (tC (.int 5)))) aV))) (cx (aT (dX λi j=>.int (i+j)) (aT rh (aL 2) (tC (.int 7))) (aL 4)) (bo 2)))
def Df(K:Frag)(E:XK):TS:=bu (cx (bg aV) (bo 3)) (bu (EI (xy (aI (aL 1) aV)) (bo 4) (De K)) (bu (dQ (eU (aT (pj K false) (aL 3) (bg aV))) (ft (aT (ff K) (bg Dd) (aT ik (aL 2) (tC (.int 3))))) gk) (ft (fw (q4 K) [] E (aI (aL 3) aV)))))
theorem V8(h:te σ H D.rt):ft te D σ H:=h
theorem wQ{r:R2}{ta:TE}(h:ta σ H λx H1=>tb σ H1 λy H2=>r x y H2 R):aT r ta tb σ H R:=h
theorem lstK(h:ta σ H λxs H1=>xs.length≤sizeLine∧∀p,H1 p=none→R (.ref p) (upd H1 p (.lst xs))):bg ta σ H R:=h
def wR(_K:Frag):Sp:=λvs H Q _=>∃(p c:Int)(m:Nat),vs=[.int p,.int (m:Int),.int c]∧p∈cK∧m≤2∧∀f g H',aJ H H'→WL H' f g→jG p m g→Q (.ref f) H'
theorem wU:cY ["p","many","cell","parts","k","some"] ["p","many","cell"] (bp tK):=dE rfl rfl rfl (by decide +kernel) rfl
theorem V9{fB:Addr}{pO:FuncData}(F:cL K "_law_from" "_law_from" tK f fd)(T:Txt mg)
  (GB:bN P w K mg base bO 1 fB pO ["parts"] (q4 K)) (kB:Kp K fB) (bB:Binds K pO ["parts"] []) (mB:Mg mg "_law_beside_all" fB):bN P w K mg base bO 2 f fd ["p","many","cell"] (wR K):=by
 refine F.ok wU (λvs H Q E h=>?_) (λcj A outer s H vs Q E hr h=>?_)
 ·obtain⟨p,c,m,rfl,_⟩:=h;rfl
 ·obtain⟨p,c,m,rfl,pp,m2,q⟩:=h;have hu:=hr.units;have z:(1000:Nat)≤sizeLine:=by decide
  have p0:0<p:=by have:=(fK p pp).1;lia
  refine⟨Df K E,?_,?_⟩
  ·unfold Df;refine ba ?_ ?_
   ·exact bw (i:=3) wU.nd rfl (.inl rfl) (bc aK)
   refine ba ?_ ?_
   ·refine ja jq rfl ?_ ?_ ?_
    ·exact qd rfl T.range (aG (pv 1) aK)
    ·exact cB (i:=4) wU.nd rfl (.inl rfl)
    unfold De;refine ba ?_ ?_
    ·refine bw (i:=5) ?_ ?_ ?_ ?_ ?_ ?_
     ·exact wU.nd
     ·rfl
     ·exact Or.inl rfl
     ·refine bc ?_;unfold Dc;refine aG ?_ ?_ ?_
      ·exact bc (aG aW aK)
      rotate_left
      ·rfl
      refine aG ?_ ?_ ?_
      ·exact bc (aG aW (aG (aU eC (aU jT (pv 2) aY) (pv 0)) aK))
      rotate_left
      ·rfl
      refine aG ?_ ?_ ?_
      ·exact bc (aG aW (aG aW aK))
      rotate_left
      ·rfl
      refine aG ?_ ?_ ?_
      ·exact bc (aG aW aK)
      rotate_left
      ·rfl
      refine aG ?_ ?_ ?_
      ·exact bc (aG aW (aG aW (aG (aU eC (aU fu (aU jT (pv 2) aY) aY) (pv 0)) aK)))
      ·exact aK
      ·rfl
     ·rfl
     ·exact .inl rfl
    refine ba ?_ ?_
    ·exact jS (iP ke nN nO lC (pv 3) (aG (bZ (cH K rfl) (pv 5) (aU eC (pv 2) aY) (λ_ _=>rfl)) aK))
    ·exact bj (bw (i:=2) wU.nd rfl (.inl rfl) (aU fu (aU jT (pv 2) aY) (pv 4)))
   refine ba ?_ ?_
   ·refine cS ?_ ?_ ?_
    ·exact cE (O9 K rfl hu) (pv 3) (bc aK) (cD _)
    ·refine bj ?_;refine cA ?_;refine bZ (cH K rfl) ?_ ?_ ?_
     ·refine bc ?_;unfold Dd;refine aG ?_ ?_ ?_
      ·exact bc (aG aW aK)
      rotate_left
      ·rfl
      refine aG ?_ ?_ ?_
      ·exact bc (aG aW aK)
      rotate_left
      ·rfl
      refine aG ?_ ?_ ?_
      ·exact bc (aG aW aK)
      ·exact aK
      ·rfl
     ·exact aU eC (pv 2) aY
     ·exact λ_ _=>rfl
    ·exact dW
   ·exact bj (cA (cO GB hr rfl mB kB bB .nil cP (aG (pv 3) aK)))
  unfold Df;refine⟨by decide,λpl jb=>?_⟩;refine⟨_,rfl,_,rfl,by lia,by lia,xC (n:=m) (λi σ H'=>aJ H H'∧∃(c':Int)(PS:List V)(ds:List D1.Dr)(s4 s5:Option V),σ=[some (.int p),some (.int (m:Int)),some (.int c'),some (.ref pl),s4,s5]∧H' pl=some (.lst PS)∧dU H' PS ds∧ds.length=i∧∀d∈ds,zK p d) ⟨.upd jb,c,[],[],none,none,rfl,aZ,⟨rfl,λi v d e=>by cases e⟩,rfl,λd hd=>by cases hd⟩ ?_ ?_⟩
  ·rintro k σ H1 hk ⟨sm,c',PS,ds,s4,s5,rfl,gP,hP,hd,ok⟩;rw[jO];dsimp only[bo];unfold De;refine dr (V6 rfl rfl p0 H1 (.refl _) _ λvs H2 s2 hv=>⟨by rw[hv.1];exact eu (by decide:5≤1000) z,λl5 h5=>?_⟩);obtain⟨i,d,hi,ei⟩:=zN (xs:=zL p c') (n:=5) rfl (by decide) c';obtain⟨v,wV⟩:∃v,vs[i]?=some v:=⟨_,cg (by rw[hv.1];exact(dB.mp hi).1)⟩;obtain⟨b,rfl,hb⟩:=hv.2 i v d wV hi;have s3:=s2.trans (aJ.upd h5 (o:=.lst vs));have Ki:WL (upd H2 l5 (.lst vs)) b d:=aJ.upd h5 _ _ hb;have g5:(upd H2 l5 (.lst vs)) l5=some (.lst vs):=aZ;generalize upd H2 l5 (.lst vs)=H3 at s3 Ki g5 ⊢;have zO:=s3 _ _ gP;have Dg:=hP.mono s3;refine⟨_,rfl,.inl ⟨rfl,_,.of zO⟩,_,rfl,_,rfl,c',5,rfl,rfl,show(0:Int)<5 by decide,l5,vs,(c' % 5),.ref b,rfl,rfl,.of g5,by rw[show(c' % 5:Int)=(i:Int) from ei];exact cb wV,pl,PS,.ref b,rfl,rfl,zO,by rw[hP.1,hd];lia,?_⟩
   refine⟨_,rfl,c',7,rfl,rfl,⟨by decide,by decide⟩,_,rfl,_,_,rfl,rfl,?_⟩;refine⟨(sm.trans s3).put jb,_,PS++[.ref b],ds++[d],_,_,rfl,aZ,(Dg.put zO Dg).append (.one (Ki.put zO Dg)),by rw[bh,hd];rfl,λx hx=>?_⟩;rcases(dM.mp hx)with(hx|hx)
   ·exact ok x hx
   ·rw[cX.mp hx];exact V3 p0 hi
  ·rintro σ H1 ⟨sm,c',PS,ds,s4,s5,rfl,gP,hP,hd,ok⟩;refine⟨_,rfl,by decide,λl0 h0=>?_⟩;have sA:=sm.trans (aJ.upd h0 (o:=.lst []));have Dh:=aJ.upd h0 (o:=.lst []) _ _ gP;have Di:=hP.mono (aJ.upd h0 (o:=.lst []));refine⟨.list (ds.map λd=>.list (d.aE.map jF)),.list [],.list (.of Dh) (Kd Di),.list (.of aZ) .nil,VX ds,rfl,_,rfl,?_⟩;generalize upd H1 l0 (.lst [])=H2 at sA Dh Di ⊢;rcases List.eq_nil_or_concat ds with hn|⟨es,d,hn⟩
   ·subst hn;have m0:m=0:=by rw[← hd];rfl
    subst m0;rw[af (by simp)];refine V8 (wQ (lstK ?_));refine V7 H2 (.refl _) _ λvs H3 s3 hv=>⟨by rw[hv.1];exact eu (by decide:3≤1000) z,λl5 h5=>?_⟩;obtain⟨i,d,hi,ei⟩:=zN (xs:=zM) (n:=3) rfl (by decide) c';obtain⟨v,wV⟩:∃v,vs[i]?=some v:=⟨_,cg (by rw[hv.1];exact(dB.mp hi).1)⟩;obtain⟨b,rfl,hb⟩:=hv.2 i v d wV hi;refine⟨_,rfl,c',3,rfl,rfl,show(0:Int)<3 by decide,l5,vs,(c' % 3),.ref b,rfl,rfl,.of aZ,by rw[show(c' % 3:Int)=(i:Int) from ei];exact cb wV,?_⟩
    exact q b d _ (sA.trans (s3.trans (.upd h5))) (aJ.upd h5 _ _ hb) (V5 hi)
   ·rw[List.concat_eq_append]at hn;subst hn;rw[ag (by simp)];obtain⟨VS,b,es',d',e1,e2,h1,h2⟩:=Di.last (by simp);rw[e2]at hd ok;refine⟨_,rfl,pl,b,VS,es',d',rfl,by rw[Dh,e1],h1,h2,?_,λe he=>eu (ok e (jM _ he)).len (by decide),eu (ok d' (fY _ dv)).len (by decide),λc2 H' s' hc=>q c2 _ H' (sA.trans s') hc (V4 ok hd m2)⟩;rw[bh,List.length_singleton]at hd;lia
structure RR(p:Int)(x:Str)(X Y:D1.Dr):Prop where
 wf:X.wf p
 bD:X.bD 64
 lx:X.aE.length≤60
 oy:(cw Y).ok p
 ly:Y.aE.length≤60
 mv:Mv p x (cw X) (cw Y)
structure iI(p:Int)(d:D1.Dr):Prop where
 wf:d.wf p
 bD:d.bD 64
 len:d.aE.length≤9
 l:d.l≤2
 r:d.r≤2
section
variable{p:Int}{A O B C D:D1.Dr}{m n:Nat}
theorem iI.o(h:iI p A):(cw A).ok p∧(cw A).aE.length≤200:=⟨gT h.wf,by rw[ux];have:=h.len;lia⟩
theorem jG.o(h:jG p m A):(cw A).ok p∧(cw A).aE.length≤200:=⟨gT h.wf,by rw[ux];have:=h.len;lia⟩
theorem pS(d:D1.Dr):(D1.Dr.back d).aE.length=d.aE.length+1:=rfl
theorem md(a b:D1.Dr):(D1.Dr.bf a b).aE.length=a.aE.length+b.aE.length+1:=by show(a.aE++b.aE).length+1=_;rw[bh]
theorem oG(a b:D1.Dr):(D1.Dr.aM a b).aE.length=a.aE.length+b.aE.length+1:=by show(a.aE++b.aE).length+1=_;rw[bh]
theorem Wa(hA:iI p A):RR p (Str.ofString "twice") (.back (.back A)) A:=
 ⟨hA.wf,hA.bD,by rw[pS,pS];have:=hA.len;lia,hA.o.1,by have:=hA.len;lia,II hA.o.1 hA.o.2⟩
theorem Wb(hA:iI p A)(hB:jG p A.r B):RR p (Str.ofString "turnthen") (.back (.aM A B)) (.aM (.back B) (.back A)):=by
 have:=hA.len;have:=hB.len;have:=hA.l;have:=hB.r
 exact⟨⟨hA.wf,hB.wf,hB.l.symm⟩,⟨hA.bD,hB.bD,by lia⟩,by rw[pS,oG];lia,⟨hB.o.1,hA.o.1⟩,by rw[oG,pS,pS];lia,Td hA.o.1 hA.o.2 hB.o.1 hB.o.2⟩
theorem Wc(hA:iI p A)(hO:iI p O):RR p (Str.ofString "turnbeside") (.back (.bf A O)) (.bf (.back A) (.back O)):=by
 have:=hA.len;have:=hO.len;have:=hA.l;have:=hO.r;have:=hA.r;have:=hO.l
 exact⟨⟨hA.wf,hO.wf⟩,⟨hA.bD,hO.bD,by lia⟩,by rw[pS,md];lia,⟨hA.o.1,hO.o.1⟩,by rw[md,pS,pS];lia,Te hA.o.1 hA.o.2 hO.o.1 hO.o.2⟩
theorem We(hA:iI p A)(hB:jG p A.r B)(hC:jG p B.r C):RR p (Str.ofString "thread") (.aM (.aM A B) C) (.aM A (.aM B C)):=by
 have:=hA.len;have:=hB.len;have:=hC.len;have:=hA.l;have:=hB.r;have:=hC.r
 exact⟨⟨⟨hA.wf,hB.wf,hB.l.symm⟩,hC.wf,hC.l.symm⟩,⟨⟨hA.bD,hB.bD,by lia⟩,hC.bD,by show A.l+C.r≤64;lia⟩,by rw[oG,oG];lia,⟨hA.o.1,hB.o.1,hC.o.1⟩,by rw[oG,oG];lia,Tf hA.o.1 hA.o.2 hB.o.1 hB.o.2 hC.o.1 hC.o.2⟩
theorem Wf(hA:iI p A)(hO:iI p O)(hB:jG p A.r B):RR p (Str.ofString "stack") (.bf (.bf A O) B) (.bf A (.bf O B)):=by
 have:=hA.len;have:=hB.len;have:=hO.len;have:=hA.l;have:=hB.r;have:=hO.r;have:=hA.r;have:=hO.l;have:=hB.l
 exact⟨⟨⟨hA.wf,hO.wf⟩,hB.wf⟩,⟨⟨hA.bD,hO.bD,by lia⟩,hB.bD,by show A.l+O.l+B.l+(A.r+O.r+B.r)≤64;lia⟩,by rw[md,md];lia,⟨hA.o.1,hO.o.1,hB.o.1⟩,by rw[md,md];lia,Tg hA.o.1 hA.o.2 hO.o.1 hO.o.2 hB.o.1 hB.o.2⟩
theorem Wg(hA:iI p A)(hO:iI p O)(hB:jG p A.r B)(hD:jG p O.r D):RR p (Str.ofString "cross") (.aM (.bf A O) (.bf B D)) (.bf (.aM A B) (.aM O D)):=by
 have:=hA.len;have:=hB.len;have:=hO.len;have:=hD.len;have:=hA.l;have:=hB.r;have:=hO.r;have:=hA.r;have:=hO.l;have:=hB.l;have:=hD.l;have:=hD.r
 refine⟨⟨⟨hA.wf,hO.wf⟩,⟨hB.wf,hD.wf⟩,by show A.r+O.r=B.l+D.l;lia⟩,⟨⟨hA.bD,hO.bD,by lia⟩,⟨hB.bD,hD.bD,by lia⟩,by show A.l+O.l+(B.r+D.r)≤64;lia⟩,by rw[oG,md,md];lia,⟨⟨hA.o.1,hB.o.1⟩,hO.o.1,hD.o.1⟩,by rw[md,oG,oG];lia,Th hA.o.1 hA.o.2 hO.o.1 hO.o.2 hB.o.1 hB.o.2 hD.o.1 hD.o.2 ?_⟩;show(cw A).bq.2=(cw B).bq.1;rw[rg,rg];exact hB.l.symm
theorem Wh(hA:iI p A):RR p (Str.ofString "bare") (.bf .empty A) A:=by
 have:=hA.len;have:=hA.l;have:=hA.r
 exact⟨⟨True.intro,hA.wf⟩,⟨True.intro,hA.bD,by show 0+A.l+(0+A.r)≤64;lia⟩,by rw[md];show 1+_+1≤60;lia,hA.o.1,by lia,Ti hA.o.1 hA.o.2⟩
theorem Wi(h:A≠.empty):lN (It2.aX (cw A)).head≠Str.ofString "empty":=by
 cases A;all_goals first|exact absurd rfl h|(show Str.ofString _≠Str.ofString _;decide +kernel)
theorem Wj(hA:iI p A)(h:A≠.empty):RR p (Str.ofString "bare") (.bf A .empty) A:=by
 have:=hA.len;have:=hA.l;have:=hA.r
 exact⟨⟨hA.wf,True.intro⟩,⟨hA.bD,True.intro,by show A.l+0+(A.r+0)≤64;lia⟩,by rw[md];show _+1+1≤60;lia,hA.o.1,by lia,Tj hA.o.1 hA.o.2 (Wi h)⟩
variable{k l:Int}
theorem Wk(k0:0≤k)(k1:k<p)(l0:0≤l)(l1:l<p):RR p (Str.ofString "scale") (.aM (.times k) (.times l)) (.times (k*l%p)):=
 ⟨⟨⟨k0,k1⟩,⟨l0,l1⟩,rfl⟩,⟨True.intro,True.intro,rE rfl⟩,by show 5≤60;decide,⟨i6 _ (by lia),i7 _ (by lia)⟩,by show 2≤60;decide,Tu k0 k1 l0 l1⟩
theorem Wl(k0:0≤k)(k1:k<p):RR p (Str.ofString "scalecopy") (.aM (.times k) .copy) (.aM .copy (.bf (.times k) (.times k))):=
 ⟨⟨⟨k0,k1⟩,True.intro,rfl⟩,⟨True.intro,True.intro,rE rfl⟩,by show 4≤60;decide,⟨gT (d:=.copy) True.intro,⟨k0,k1⟩,⟨k0,k1⟩⟩,by show 7≤60;decide,TF k0 k1⟩
theorem Wm(k0:0≤k)(k1:k<p):RR p (Str.ofString "scaleadd") (.aM .add (.times k)) (.aM (.bf (.times k) (.times k)) .add):=
 ⟨⟨True.intro,⟨k0,k1⟩,rfl⟩,⟨True.intro,True.intro,rE rfl⟩,by show 4≤60;decide,⟨⟨⟨k0,k1⟩,⟨k0,k1⟩⟩,gT (d:=.add) True.intro⟩,by show 7≤60;decide,TH k0 k1⟩
theorem Wn(pp:p∈cK)(k0:1≤k)(k1:k<p):RR p (Str.ofString "turnscale") (.back (.times k)) (.times (cJ p k)):=by
 obtain⟨t1,t2,_⟩:=sx pp k0 k1;exact⟨⟨by lia,k1⟩,True.intro,by show 3≤60;decide,⟨by lia,t2⟩,by show 2≤60;decide,TK (by lia) k1 (by lia)⟩
theorem Wo(p2:2≤p):RR p (Str.ofString "one") (.times 1) .id:=
 ⟨⟨by decide,by lia⟩,True.intro,by show 2≤60;decide,gT (d:=.id) True.intro,by decide,Tv⟩
theorem Wq(p2:2≤p):RR p (Str.ofString "nought") (.times 0) (.aM .fin .none):=
 ⟨⟨by decide,by lia⟩,True.intro,by show 2≤60;decide,gT (d:=.aM .fin .none) ⟨True.intro,True.intro,rfl⟩,by decide,Tw⟩
theorem Wr{z a b:Int}(a0:0≤a)(a1:a<p)(b0:0≤b)(b1:b<p)(h1:a*z%p=1)(h2:b*z%p=1):a=b:=by
 have e1:a*(b*z)%p=a:=by rw[Int.mul_emod,h2,Int.mul_one,Int.emod_emod,Int.emod_eq_of_lt a0 a1]
 have e2:b*(a*z)%p=b:=by rw[Int.mul_emod,h1,Int.mul_one,Int.emod_emod,Int.emod_eq_of_lt b0 b1]
 rw[show a*(b*z)=b*(a*z) by rw[← Int.mul_assoc,← Int.mul_assoc,Int.mul_comm a b],e2]at e1;exact e1.symm
end
def kq(H:Hp)(v:V)(X Y:D1.Dr):Prop:=∃pr u w,v=.ref pr∧H pr=some (.lst [.ref u,.ref w])∧WL H u X∧WL H w Y
theorem kq.mono{v:V}(h:kq H v X Y)(s:aJ H H'):kq H' v X Y:=let ⟨pr,u,w,e,h1,h2,h3⟩:=h;⟨pr,u,w,e,s _ _ h1,s _ _ h2,s _ _ h3⟩
theorem Dj{xs:List V}{o:HO}(h:H v=some (.lst xs))(g:H ld=some (.dK aH)):(upd H ld o) v=some (.lst xs):=by
 rw[cC (λe=>by rw[e,g]at h;cases h)];exact h
theorem kq.putD{v:V}{o:HO}(h:kq H v X Y)(g:H ld=some (.dK aH)):kq (upd H ld o) v X Y:=let ⟨pr,u,w,e,h1,h2,h3⟩:=h;⟨pr,u,w,e,Dj h1 g,Dj h2 g,Dj h3 g⟩
def ri(p:Int)(H:Hp)(kv:Key×V):Prop:=∃x X Y,kv.1=.inr x∧kq H kv.2 X Y∧RR p x X Y
def nJ(p:Int)(H:Hp)(ld:Addr)(n:Nat):Prop:=∃aH,H ld=some (.dK aH)∧aH.length≤n∧∀kv∈aH,ri p H kv
theorem nJ.mono{p:Int}{H H':Hp}{ld:Addr}{n:Nat}(h:nJ p H ld n)(s:aJ H H'):nJ p H' ld n:=let ⟨aH,g,hl,hk⟩:=h;⟨aH,s _ _ g,hl,λkv fQ=>let ⟨x,X,Y,e,h1,h2⟩:=hk kv fQ;⟨x,X,Y,e,h1.mono s,h2⟩⟩
theorem Kj{k:Key}{v:V}{kv:Key×V}(h:kv∈d7 aH k v):kv=(k,v)∨kv∈aH:=by
 unfold d7 at h;split at h
 ·obtain⟨q,hq,e⟩:=dN.mp h;by_cases z:q.1=k
  ·rw[af z]at e;exact .inl (by rw[← e,z])
  ·rw[ag z]at e;exact .inr (e▸hq)
 ·rcases(dM.mp h)with(h|h)
  ·exact .inr h
  ·exact .inl (cX.mp h)
section
variable{σ:St}{H:Hp}
theorem Kk(e1:iZ t1 σ H ws)(e2:iZ t2 σ H us)(h1:ws=X.aE)(h2:us=Y.aE)(q:∀v H',aJ H H'→kq H' v X Y→R v H'):bg (aI t1 (aI t2 aV)) σ H R:=by
 subst h1 h2;refine lstK (e1 H (.refl _) _ λa H1 s1 ga=>e2 H1 s1 _ λb H2 s2 gb=>⟨by show 2≤sizeLine;decide,λl hl=>?_⟩);exact q _ _ (s1.trans (s2.trans (.upd hl))) ⟨l,a,b,rfl,aZ,aJ.upd hl _ _ (s2 _ _ ga),aJ.upd hl _ _ gb⟩
theorem Ws{td ty tv:TE}(h:tv σ H λv H1=>td σ H1 λx H2=>ty σ H2 λy H3=>∃a H4,x=.ref a∧oo H3 a y v H4∧u D σ H4):bu (iF td ty tv) u D σ H:=h
theorem Wt{v:V}{ty:TE}{Q:List (V×V)→Hp→Prop}(h:ty σ H λy H2=>Q [(v,y)] H2):yi [(tC v,ty)] σ H Q:=h
theorem j9{H1:Hp}{n:Nat}(hσ:σ[10]?=some (some (.ref ld)))(s:aJ H1 H)(hl:H1 ld=none)(g:nJ p H ld n)(hn:n≤50)(e1:iZ t1 σ H ws)(e2:iZ t2 σ H us)(h1:ws=X.aE)(h2:us=Y.aE)(r:RR p (Str.ofString x) X Y)
  (q:∀H',aJ H1 H'→nJ p H' ld (n+1)→u D σ H'):bu (iF (aL 10) (tC (.str (Str.ofString x))) (bg (aI t1 (aI t2 aV)))) u D σ H:=by
 refine Ws ?_;refine Kk e1 e2 h1 h2 λv H2 s2 hv=>?_;obtain⟨aH,gd,hk,fQ⟩:=g.mono s2;refine⟨_,hσ,ld,_,rfl,oo.k (k:=.inr (Str.ofString x)) gd (Nat.lt_of_le_of_lt (eu hk hn) (by decide)),?_⟩;refine q _ ((s.trans s2).put hl) ⟨_,aZ,eu (yh _ _ _) (Nat.add_le_add_right hk 1),λkv h=>?_⟩;rcases Kj h with rfl|h
 ·exact⟨_,X,Y,rfl,hv.putD gd,r⟩
 ·obtain⟨y,X',Y',e,h1,h2⟩:=fQ kv h;exact⟨y,X',Y',e,h1.putD gd,h2⟩
theorem Wu(e1:iZ t1 σ H ws)(e2:iZ t2 σ H us)(h1:ws=X.aE)(h2:us=Y.aE)(r:RR p (Str.ofString x) X Y)
  (q:∀ld H',aJ H H'→H ld=none→nJ p H' ld 1→R (.ref ld) H'):BA [(tC (.str (Str.ofString x)),bg (aI t1 (aI t2 aV)))] σ H R:=by
 intro ld kx;refine Wt ?_;refine Kk (e1.mono (.upd kx)) (e2.mono (.upd kx)) h1 h2 λv H2 s2 hv=>?_;have gd:H2 ld=some (.dK []):=s2 _ _ aZ;refine⟨gd,[(.inr (Str.ofString x),v)],rfl,by show 1≤15;decide,q ld _ (((aJ.upd kx).trans s2).put kx) kx ⟨_,aZ,by show 1≤1;decide,λkv h=>?_⟩⟩;have e:kv=(.inr (Str.ofString x),v):=by
  have:kv∈d7 [] (Sum.inr (Str.ofString x):Key) v:=h
  rcases Kj this with z|z
  ·exact z
  ·cases z
 subst e;exact⟨_,X,Y,rfl,hv.putD gd,r⟩
end
end S21
namespace L2
open PySem PySem.Spec PyProof.Rows PySem.W
variable{H:Hp}
section
variable{X:Cx}{aF:List (Addr×Obj)}{σ:St}{H:Hp}{s:Shared}{a:Addr}{aH:List (Key×V)}
theorem Wv{P:Program}{w:World}{k:Key}{u:Value}(h:(gj P w).is k u=true):RelV (kV k) u:=by
 rcases mj h with⟨i,t,rfl,rfl⟩|⟨x,t,rfl,rfl⟩
 ·exact⟨t,rfl⟩
 ·exact⟨t,rfl⟩
end
section
variable{prog:Program}{w:World}{A:Around}{E:QV}{s:Shared}
variable{κ:Type} [DecidableEq κ] {knd:KeyKind prog w κ}
end
section
variable{prog:Program}{w:World}{A:Around}{E:QV}{s:Shared}
variable{κ:Type} [DecidableEq κ] {knd:KeyKind prog w κ}
end
section
variable{X:Cx}{K:Frag}
def dJ(K:Frag)(H:Hp)(zs:List V)(aH:List (Key×V)):Prop:=zs.length=aH.length∧∀(i:Nat)(x:V)(kv:Key×V),zs[i]?=some x→aH[i]?=some kv→∃t,x=.ref t∧bQ K H t [kV kv.1,kv.2]
theorem dJ.mono{H':Hp}{zs:List V}{aH:List (Key×V)}(h:dJ K H zs aH)(s:aJ H H'):dJ K H' zs aH:=⟨h.1,λi x kv e1 e2=>let ⟨t,e,g⟩:=h.2 i x kv e1 e2;⟨t,e,s.cG g⟩⟩
theorem dJ.nil:dJ K H [] []:=⟨rfl,λi x kv e=>by cases e⟩
theorem dJ.snoc{zs:List V}{aH:List (Key×V)}{t:Addr}{kv:Key×V}(h:dJ K H zs aH)(g:bQ K H t [kV kv.1,kv.2]):dJ K H (zs++[.ref t]) (aH++[kv]):=by
 refine⟨by rw[bh,bh,h.1];rfl,λi x q e1 e2=>?_⟩;by_cases hi:i<zs.length
 ·rw[iA hi]at e1;rw[iA (by rw[← h.1];exact hi)]at e2;exact h.2 i x q e1 e2
 ·rw[i5 (by lia)]at e1;rw[i5 (by rw[← h.1];lia),← h.1]at e2;generalize i-zs.length=j at e1 e2;cases j with
  |zero=>cases e1;cases e2;exact⟨t,rfl,g⟩
  |succ j=>cases e1
end
section
variable{X:Cx}{K:Frag}
theorem Dk:∀(ix:List Nat){xs:List V}{us:List Value},Vals xs us→Vals (ix.filterMap (xs[·]?)) (ix.filterMap (us[·]?))
 | [],_,_,_=>.nil
 |i::ix,xs,us,r=>by
  rw[List.filterMap_cons,List.filterMap_cons];cases e:xs[i]? with
  |none=>
   have e2:us[i]?=none:=by rw[List.getElem?_eq_none_iff]at e ⊢;rw[← r.length];exact e
   rw[e2];exact Dk ix r
  |some x=>
   obtain⟨u,e2,ru⟩:=r.get e;rw[e2];exact .cons ru (Dk ix r)
def Ww(K:Frag)(te:TE)(tl th:TO):TE:=λσ H Q=>te σ H λx H1=>tl σ H1 λ_ H2=>th σ H2 λ_ H3=>∃a xs,x=.ref a∧cR K H3 a xs∧∀p ys,H3 p=none→(∀y∈ys,y∈xs)→ys.length≤xs.length→Q (.ref p) (upd H3 p (.lst ys))
theorem Kl(hK:X.K=K){e:Expr}{te:TE}{lo hi:Option Expr}{tl th:TO}{n:Int}{j:Nat}{p2 p4 pos:Pos}(he:PE X e te)(sg:PO X lo tl)(wW:PO X hi th)(hn:0<n):PE X (.Subscript e (.Slice lo hi (some (.Constant (.int n) j p4)) p2) pos) (Ww K te tl th):=by
 subst hK;intro aF s σ H Q I h;refine Subscript_ (aM (he aF s σ H _ I h) λv s1 ⟨x,H1,I1,r1,q1⟩=>?_);refine wpAny_Slice (aM (sg aF s1 σ H1 _ I1 q1) λvl s2 ⟨l,H2,I2,pl,q2⟩=>aM (wW aF s2 σ H2 _ I2 q2) λvu s3 ⟨u,H3,I3,pu,q3⟩=>aM (dy (X:=X) (te:=tC (.int n)) aY aF s3 σ H3 (λo H'=>o=some n∧H'=H3) I3 ⟨_,rfl,rfl,rfl⟩) λvs s4 ⟨st,H4,I4,ps,e4⟩=>?_);obtain⟨rfl,rfl⟩:=e4;obtain⟨a,xs,rfl,hx,q⟩:=q3;cases r1;have I5:Inv X aF σ H4 { s4 with heap:=s4.heap.push { cls:=.type "slice",data:=.fields #[vl,vu,vs] } }:=I4.kept (t':=s4.toks) λb ob q=>fc _ q;obtain⟨its,r,ht,hz⟩:=I5.list hx;have cU:=r.length;show wpAny (model X.prog X.w) X.A (subscriptTail e (.Slice lo hi (some (.Constant (.int n) j p4)) p2) (.ref a) (.ref s4.heap.objs.size)) (EP X aF σ Q) X.xe { s4 with heap:=s4.heap.push { cls:=.type "slice",data:=.fields #[vl,vu,vs] } };refine tail_any (ops:=[.ref a,.ref s4.heap.objs.size]) ht.isList.typeIs slot_list_getitem.lookup ?_ (by with_unfolding_all rfl);refine wpAny_getItem_list_slice ht.isList (Heap.IsSliceOf.new ..) pl pu ps (by intro z;cases z;exact absurd hn (by decide)) ?_ (by rw[dC];lia);have hsz:=slicePick_size_le its.toArray l u (some n);unfold slicePick at hsz ⊢;generalize sliceRange (sliceBounds l u (some n) its.toArray.size).1 (sliceBounds l u (some n) its.toArray.size).2.1 (sliceBounds l u (some n) its.toArray.size).2.2=ix at hsz ⊢;have ee:ix.filterMap (its.toArray[·]?)=ix.filterMap (its[·]?):=by congr 1;funext i;simp
 rw[ee]at hsz ⊢;have rv:=Dk ix r;have hl:(ix.filterMap (xs[·]?)).length≤xs.length:=by rw[rv.length,cU];simpa using hsz
 refine⟨.ref _,_,I5.laid (t':=s4.toks) (o:=.lst (ix.filterMap (xs[·]?))) (λb ob q=>fc _ q) (bH _) ?_,rfl,q _ _ (I5.bz.fresh (bH _)) (λy hy=>?_) hl⟩
 ·exact⟨eu hl hz,_,0,rv,jL _ rfl⟩
 ·obtain⟨i,_,e⟩:=List.mem_filterMap.mp hy;exact d8 e
end
end L2
namespace S21
open PySem L2 Bw
variable{D:Ends}{E:XK}{H:Hp}{R:VK}{X Y:D1.Dr}{a5 cl f pr u w5:Addr}{c p:Int}{fd:FuncData}{aH:List (Key×V)}{n:Nat}{s4:Option V}{ta:TA}{ws:List D1.Wd}{jn:List (List D1.Wd)}{x y:Str}{zs:List V}{σ:St}
abbrev uA(K:Frag):List V→Hp→VK→Prop:=λxs H Q=>∃p ns,xs=[.ref p]∧cR K H p (List.map V.int ns)∧Q (.int ns.sum) H
def zP(K:Frag):TS:=(bu (cx (BA [((tS "twice"),(bg (aI (aT cc (bg (aI (tS "back") (aI (tS "back") aV))) (aL 6)) (aI (aL 6) aV))))]) (bo 10)) (bu (iF (aL 10) (tS "turnthen") (bg (aI (aT cc (aT cc (bg (aI (tS "back") (aI (tS "then") aV))) (aL 6)) (aL 7)) (aI (aT cc (aT cc (aT cc (bg (aI (tS "then") (aI (tS "back") aV))) (aL 7)) (bg (aI (tS "back") aV))) (aL 6)) aV)))) (bu (cx (aT cc (aT cc (aT cc (bg (aI (tS "beside") (aI (tS "back") aV))) (aL 6)) (bg (aI (tS "back") aV))) (aL 5)) (bo 11)) (bu (iF (aL 10) (tS "turnbeside") (bg (aI (aT cc (aT cc (bg (aI (tS "back") (aI (tS "beside") aV))) (aL 6)) (aL 5)) (aI (aL 11) aV)))) (bu (iF (aL 10) (tS "thread") (bg (aI (aT cc (aT cc (aT cc (bg (aI (tS "then") (aI (tS "then") aV))) (aL 6)) (aL 7)) (aL 8)) (aI (aT cc (aT cc (aT cc (aT cc (bg (aI (tS "then") aV)) (aL 6)) (bg (aI (tS "then") aV))) (aL 7)) (aL 8)) aV)))) (bu (iF (aL 10) (tS "stack") (bg (aI (aT cc (aT cc (aT cc (bg (aI (tS "beside") (aI (tS "beside") aV))) (aL 6)) (aL 5)) (aL 7)) (aI (aT cc (aT cc (aT cc (aT cc (bg (aI (tS "beside") aV)) (aL 6)) (bg (aI (tS "beside") aV))) (aL 5)) (aL 7)) aV)))) (bu (cx (aT cc (aT cc (aT cc (aT cc (aT cc (bg (aI (tS "then") (aI (tS "beside") aV))) (aL 6)) (aL 5)) (bg (aI (tS "beside") aV))) (aL 7)) (aL 9)) (bo 12)) (bu (iF (aL 10) (tS "cross") (bg (aI (aL 12) (aI (aT cc (aT cc (aT cc (aT cc (aT cc (bg (aI (tS "beside") (aI (tS "then") aV))) (aL 6)) (aL 7)) (bg (aI (tS "then") aV))) (aL 5)) (aL 9)) aV)))) (bu (iF (aL 10) (tS "bare") (bg (aI (aT cc (bg (aI (tS "beside") (aI (tS "empty") aV))) (aL 6)) (aI (aL 6) aV)))) (bu (dQ (oR (eU (aT iN (aT ik (aL 2) (tC (.int 2))) (tC (.int 1)))) (eU (aT (pj K true) (aL 6) (bg (aI (tS "empty") aV))))) (iF (aL 10) (tS "bare") (bg (aI (aT cc (aT cc (bg (aI (tS "beside") aV)) (aL 6)) (bg (aI (tS "empty") aV))) (aI (aL 6) aV)))) gk) (bu (iF (aL 10) (tS "scale") (bg (aI (bg (aI (tS "then") (aI (tS "times") (aI (aL 2) (aI (tS "times") (aI (aL 3) aV)))))) (aI (bg (aI (tS "times") (aI (aT ik (aT (rI rV λi j=>.int (i*j)) (aL 2) (aL 3)) (aL 0)) aV))) aV)))) (bu (iF (aL 10) (tS "scalecopy") (bg (aI (bg (aI (tS "then") (aI (tS "times") (aI (aL 2) (aI (tS "copy") aV))))) (aI (bg (aI (tS "then") (aI (tS "copy") (aI (tS "beside") (aI (tS "times") (aI (aL 2) (aI (tS "times") (aI (aL 2) aV)))))))) aV)))) (bu (iF (aL 10) (tS "scaleadd") (bg (aI (bg (aI (tS "then") (aI (tS "add") (aI (tS "times") (aI (aL 2) aV))))) (aI (bg (aI (tS "then") (aI (tS "beside") (aI (tS "times") (aI (aL 2) (aI (tS "times") (aI (aL 2) (aI (tS "add") aV)))))))) aV)))) (bu (cx (aT (dX λi j=>.int (i+j)) (tC (.int 1)) (aT ik (aL 3) (aT (dX λi j=>.int (i-j)) (aL 0) (tC (.int 1))))) (bo 13)) (bu (cx (aT (ff K) (n9 (xy (aI (aL 0) aV)) 1 [0,13] (bo 0) (eU (aT iN (aT ik (aT (rI rV λi j=>.int (i*j)) (aL 0) (aL 2)) (aL 1)) (tC (.int 1)))) (aL 0)) (tC (.int 0))) (bo 14)) (bu (iF (aL 10) (tS "turnscale") (bg (aI (bg (aI (tS "back") (aI (tS "times") (aI (aL 13) aV)))) (aI (bg (aI (tS "times") (aI (aL 14) aV))) aV)))) (bu (iF (aL 10) (tS "one") (bg (aI (bg (aI (tS "times") (aI (tC (.int 1)) aV))) (aI (bg (aI (tS "id") aV)) aV)))) (bu (iF (aL 10) (tS "nought") (bg (aI (bg (aI (tS "times") (aI (tC (.int 0)) aV))) (aI (bg (aI (tS "then") (aI (tS "end") (aI (tS "none") aV)))) aV)))) (ft (aL 10))))))))))))))))))))
def Dl(K:Frag)(E:XK):TS:=(bu (cx (aT ik (jV (uA K) (aI (jv (jd K) (aL 1) o4 (iO (tC (.int 2)))) aV)) (aL 0)) (bo 2)) (bu (cx (aT ik (jV (uA K) (aI (jv (jd K) (aL 1) (iO (tC (.int 1))) (iO (tC (.int 3)))) aV)) (aL 0)) (bo 3)) (bu (cx (fw (wO K) [] E (aI (fw (wK K) [] E (aI (aL 0) (aI (jv (jd K) (aL 1) o4 (iO (tC (.int 6)))) (aI (tC (.int 9)) aV)))) aV)) (bo 4)) (bu (cx (aT (ff K) (fw (wO K) [] E (aI (fw (wK K) [] E (aI (aL 0) (aI (jv (jd K) (aL 1) (iO (tC (.int 2))) (iO (tC (.int 9)))) (aI (tC (.int 9)) aV)))) aV)) (tC (.int 0))) (bo 5)) (bu (cx (aT (ff K) (aL 4) (tC (.int 0))) (bo 6)) (bu (cx (fw (wR K) [] E (aI (aL 0) (aI (aT (ff K) (aL 4) (tC (.int 2))) (aI (jV (uA K) (aI (jv (jd K) (aL 1) o4 (iO (tC (.int 5)))) aV)) aV)))) (bo 7)) (bu (cx (fw (wR K) [] E (aI (aL 0) (aI (fw (zJ K) [] E (aI (aL 0) (aI (aL 7) aV))) (aI (jV (uA K) (aI (jv (jd K) (aL 1) (iO (tC (.int 3))) (iO (tC (.int 8)))) aV)) aV)))) (bo 8)) (bu (cx (fw (wR K) [] E (aI (aL 0) (aI (fw (zJ K) [] E (aI (aL 0) (aI (aL 5) aV))) (aI (jV (uA K) (aI (jv (jd K) (aL 1) (iO (tC (.int 4))) (iO (tC (.int 9)))) aV)) aV)))) (bo 9)) (zP K)))))))))
theorem Wx{K:Frag}{n:Int}{Q:VK}(h0:σ[0]?=some (some (.int p)))(h2:σ[13]?=some (some (.int n)))(pp:p∈cK)(n0:1≤n)(n1:n<p)(q:∀H1,aJ H H1→Q (.int (cJ p n)) H1) :
  aT (ff K) (n9 (xy (aI (aL 0) aV)) 1 [0,13] (bo 0) (eU (aT iN (aT ik (aT (rI rV λi j=>.int (i*j)) (aL 0) (aL 2)) (aL 1)) (tC (.int 1)))) (aL 0)) (tC (.int 0)) σ H Q:=by
 obtain⟨p2,gi⟩:=fK p pp;obtain⟨t1,t2,Km⟩:=sx pp n0 n1;refine⟨_,h0,p,rfl,by lia,by lia,?_⟩;have eb:mH 1 [0,13] σ=List.replicate 1 none++[some (.int p),some (.int n)]:=by
  simp[mH,h0,h2]
 rw[eb];have z97:(97:Nat)≤sizeLine:=by decide
 refine FZ (n:=p.toNat) (lo:=0) (λj H' zs=>zs=((List.range j).filter λ(u:Nat)=>decide ((u:Int)*n%p=1)).map λ(u:Nat)=>V.int u) (by lia) rfl
  (λj H' zs e=>by rw[e,br];exact eu (List.length_filter_le _ _) (by rw[List.length_range];exact bH _)) ?_ ?_
 ·rintro j H' zs hj fN rfl;rw[jO];refine⟨_,rfl,_,rfl,_,_,rfl,rfl,.inl ⟨by lia,by lia⟩,_,rfl,_,_,rfl,rfl,(by show(0:Int)<p;lia),rfl,_,rfl,xR (λheq=>?_) (λfg=>?_)⟩
  ·have Wy:(j:Int)*n%p=1:=V.int.inj (az heq);refine⟨_,rfl,⟨[_],rfl,rfl⟩,fN,?_⟩;rw[List.range_succ,List.filter_append,List.filter_cons_of_pos (by simpa using Wy),List.filter_nil,fe];rfl
  ·have Wz:¬(j:Int)*n%p=1:=λz=>fg (ax (aj V.int z));refine⟨⟨[_],rfl,rfl⟩,fN,?_⟩;rw[List.range_succ,List.filter_append,List.filter_cons_of_neg (by simpa using Wz),List.filter_nil,gJ]
 rintro H6 zs WA ez lc Ct;have Kn:(cJ p n).toNat∈(List.range p.toNat).filter λ(u:Nat)=>decide ((u:Int)*n%p=1):=by
  refine rA.mpr ⟨List.mem_range.mpr (by lia),?_⟩
  have:((cJ p n).toNat:Int)=cJ p n:=by lia
  rw[this];simpa using Km
 cases vy:(List.range p.toNat).filter λ(u:Nat)=>decide ((u:Int)*n%p=1) with
 |nil=>rw[vy]at Kn;cases Kn
 |cons tn us=>
  have cT:tn∈(List.range p.toNat).filter λ(u:Nat)=>decide ((u:Int)*n%p=1):=by rw[vy];exact dv
  have t3:(tn:Int)*n%p=1:=by simpa using(rA.mp cT).2
  have tl':=List.mem_range.mp (rA.mp cT).1;rw[vy]at ez;have e:(tn:Int)=cJ p n:=Wr (by lia) (by lia) (by lia) t2 t3 Km;refine⟨lc,zs,0,.int (cJ p n),rfl,rfl,.of aZ,cb (j:=0) (by rw[ez,← e];rfl),q _ (WA.trans (.upd Ct))⟩
theorem WB{K:Frag}{H1:Hp}{u:TS}{A:D1.Dr}{a ld:Addr}{k:Int}(h2:σ[2]?=some (some (.int k)))(h6:σ[6]?=some (some (.ref a)))(Bd:σ[10]?=some (some (.ref ld)))(hA:iI p A)(ga:WL H a A)(s:aJ H1 H)(hl:H1 ld=none)(g:nJ p H ld n)(hn:n≤50)
  (q:∀H',aJ H1 H'→nJ p H' ld (n+1)→u D σ H'):bu (dQ (oR (eU (aT iN (aT ik (aL 2) (tC (.int 2))) (tC (.int 1)))) (eU (aT (pj K true) (aL 6) (bg (aI (tS "empty") aV))))) (iF (aL 10) (tS "bare") (bg (aI (aT cc (aT cc (bg (aI (tS "beside") aV)) (aL 6)) (bg (aI (tS "empty") aV))) (aI (aL 6) aV)))) gk) u D σ H:=by
 have len:=hA.len;have nx:∀H',aJ H H'→u D σ H':=λH' s'=>q H' (s.trans s') (by obtain⟨aH,g1,g2,g3⟩:=g.mono s';exact⟨aH,g1,Nat.le_succ_of_le g2,g3⟩);refine⟨_,h2,k,2,rfl,rfl,(by decide:(0:Int)<2),rfl,_,rfl,?_⟩;by_cases e:k%2=1
 ·rw[show decide (V.int (k%2)=V.int 1)=true from ax (aj V.int e)]
  refine eP ⟨_,h6,by show 1≤sizeLine;decide,λl0 h0=>?_⟩;refine⟨.list (A.aE.map jF),.list [.str (Str.ofString "empty")],.list (.of (aJ.upd h0 _ _ ga)) (uy _),.list (.of aZ) (.cons (.str _) .nil),VW (wM A),by decide +kernel,_,rfl,?_⟩;by_cases e2:(Dat.list (A.aE.map jF))=.list [.str (Str.ofString "empty")]
  ·exact Gf e2 (nx _ (.upd h0))
  ·refine Hr e2 ?_;have fg:A≠.empty:=λz=>e2 (by rw[z];rfl);exact j9 (u:=u) Bd (s.trans (.upd h0)) hl (g.mono (.upd h0)) hn (de (de (cN (bX cM) (by show 1≤100;decide)) (dj h6 (aJ.upd h0 _ _ ga)) (by simp only[bh,cu,df];lia)) (cN (bX cM) (by show 1≤100;decide)) (by simp only[bh,cu,df];lia)) (dj h6 (aJ.upd h0 _ _ ga)) (by simp[D1.Dr.aE]) rfl (Wj hA fg) q
 ·rw[show decide (V.int (k%2)=V.int 1)=false from ae λz=>e (V.int.inj z)]
  exact cW (cW (nx H (.refl _)))
theorem WC{K:Frag}{D':Ends}{k l:Int}{on aO aA aB aC aD:Addr}{A O B C D:D1.Dr}(pp:p∈cK)(k0:0≤k)(k1:k<p)(l0:0≤l)(l1:l<p)(gA:WL H aA A)(uB:WL H aO O)(gB:WL H aB B)(gC:WL H aC C)(gD:WL H aD D)(hA:iI p A)(hO:iI p O)(hB:jG p A.r B)(hC:jG p B.r C)(hD:jG p O.r D)
  (fin:∀ld H',aJ H H'→H ld=none→nJ p H' ld 14→D'.rt (.ref ld) H'):zP K D' [some (.int p),some (.ref cl),some (.int k),some (.int l),some (.ref on),some (.ref aO),some (.ref aA),some (.ref aB),some (.ref aC),some (.ref aD),none,none,none,none,none] H:=by
 obtain⟨p2,gi⟩:=fK p pp;have p0:0<p:=by lia
 have:=hA.len;have:=hO.len;have:=hB.len;have:=hC.len;have:=hD.len
 unfold zP;refine dr (Wu (p:=p) (X:=.back (.back A)) (Y:=A) (de (cN (bX (bX cM)) (by show 2≤100;decide)) (dj rfl gA) (by simp only[bh,cu,df];lia)) (dj rfl gA) rfl rfl (Wa hA) λld H s hl g=>?_);refine j9 rfl s hl g (by decide) (de (de (cN (bX (bX cM)) (by show 2≤100;decide)) (dj rfl (s _ _ gA)) (by simp only[bh,cu,df];lia)) (dj rfl (s _ _ gB)) (by simp only[bh,cu,df];lia)) (de (de (de (cN (bX (bX cM)) (by show 2≤100;decide)) (dj rfl (s _ _ gB)) (by simp only[bh,cu,df];lia)) (cN (bX cM) (by show 1≤100;decide)) (by simp only[bh,cu,df];lia)) (dj rfl (s _ _ gA)) (by simp only[bh,cu,df];lia)) (by simp[D1.Dr.aE]) (by simp[D1.Dr.aE]) (Wb hA hB) λH s g=>?_;refine dr ((de (de (de (cN (bX (bX cM)) (by show 2≤100;decide)) (dj rfl (s _ _ gA)) (by simp only[bh,cu,df];lia)) (cN (bX cM) (by show 1≤100;decide)) (by simp only[bh,cu,df];lia)) (dj rfl (s _ _ uB)) (by simp only[bh,cu,df];lia)) _ (.refl _) _ λacs Hw sw WD=>?_);replace s:=s.trans sw;replace g:=g.mono sw;clear sw;refine j9 rfl s hl g (by decide) (de (de (cN (bX (bX cM)) (by show 2≤100;decide)) (dj rfl (s _ _ gA)) (by simp only[bh,cu,df];lia)) (dj rfl (s _ _ uB)) (by simp only[bh,cu,df];lia)) (dj rfl WD) (by simp[D1.Dr.aE]) (by simp[D1.Dr.aE]) (Wc hA hO) λH s g=>?_;refine j9 rfl s hl g (by decide) (de (de (de (cN (bX (bX cM)) (by show 2≤100;decide)) (dj rfl (s _ _ gA)) (by simp only[bh,cu,df];lia)) (dj rfl (s _ _ gB)) (by simp only[bh,cu,df];lia)) (dj rfl (s _ _ gC)) (by simp only[bh,cu,df];lia)) (de (de (de (de (cN (bX cM) (by show 1≤100;decide)) (dj rfl (s _ _ gA)) (by simp only[bh,cu,df];lia)) (cN (bX cM) (by show 1≤100;decide)) (by simp only[bh,cu,df];lia)) (dj rfl (s _ _ gB)) (by simp only[bh,cu,df];lia)) (dj rfl (s _ _ gC)) (by simp only[bh,cu,df];lia)) (by simp[D1.Dr.aE]) (by simp[D1.Dr.aE]) (We hA hB hC) λH s g=>?_;refine j9 rfl s hl g (by decide) (de (de (de (cN (bX (bX cM)) (by show 2≤100;decide)) (dj rfl (s _ _ gA)) (by simp only[bh,cu,df];lia)) (dj rfl (s _ _ uB)) (by simp only[bh,cu,df];lia)) (dj rfl (s _ _ gB)) (by simp only[bh,cu,df];lia)) (de (de (de (de (cN (bX cM) (by show 1≤100;decide)) (dj rfl (s _ _ gA)) (by simp only[bh,cu,df];lia)) (cN (bX cM) (by show 1≤100;decide)) (by simp only[bh,cu,df];lia)) (dj rfl (s _ _ uB)) (by simp only[bh,cu,df];lia)) (dj rfl (s _ _ gB)) (by simp only[bh,cu,df];lia)) (by simp[D1.Dr.aE]) (by simp[D1.Dr.aE]) (Wf hA hO hB) λH s g=>?_;refine dr ((de (de (de (de (de (cN (bX (bX cM)) (by show 2≤100;decide)) (dj rfl (s _ _ gA)) (by simp only[bh,cu,df];lia)) (dj rfl (s _ _ uB)) (by simp only[bh,cu,df];lia)) (cN (bX cM) (by show 1≤100;decide)) (by simp only[bh,cu,df];lia)) (dj rfl (s _ _ gB)) (by simp only[bh,cu,df];lia)) (dj rfl (s _ _ gD)) (by simp only[bh,cu,df];lia)) _ (.refl _) _ λacu Hw sw WE=>?_);replace s:=s.trans sw;replace g:=g.mono sw;clear sw;refine j9 rfl s hl g (by decide) (dj rfl WE) (de (de (de (de (de (cN (bX (bX cM)) (by show 2≤100;decide)) (dj rfl (s _ _ gA)) (by simp only[bh,cu,df];lia)) (dj rfl (s _ _ gB)) (by simp only[bh,cu,df];lia)) (cN (bX cM) (by show 1≤100;decide)) (by simp only[bh,cu,df];lia)) (dj rfl (s _ _ uB)) (by simp only[bh,cu,df];lia)) (dj rfl (s _ _ gD)) (by simp only[bh,cu,df];lia)) (by simp[D1.Dr.aE]) (by simp[D1.Dr.aE]) (Wg hA hO hB hD) λH s g=>?_;refine j9 rfl s hl g (by decide) (de (cN (bX (bX cM)) (by show 2≤100;decide)) (dj rfl (s _ _ gA)) (by simp only[bh,cu,df];lia)) (dj rfl (s _ _ gA)) (by simp[D1.Dr.aE]) (by simp[D1.Dr.aE]) (Wh hA) λH s g=>?_;refine WB (A:=A) rfl rfl rfl hA (s _ _ gA) s hl g (by decide) ?_;intro H s g;refine j9 rfl s hl g (by decide) (cN (bX (bX (jm (nI rfl) (bX (jm (nI rfl) cM))))) (by show 5≤100;decide)) (cN (bX (jm (λ_ _ q=>⟨_,rfl,_,rfl,k,l,rfl,rfl,.inl ⟨by lia,by lia⟩,_,rfl,_,p,rfl,rfl,p0,q⟩) cM)) (by show 2≤100;decide)) (by simp[D1.Dr.aE]) (by simp[D1.Dr.aE]) (Wk k0 k1 l0 l1) λH s g=>?_;refine j9 rfl s hl g (by decide) (cN (bX (bX (jm (nI rfl) (bX cM)))) (by show 4≤100;decide)) (cN (bX (bX (bX (bX (jm (nI rfl) (bX (jm (nI rfl) cM))))))) (by show 7≤100;decide)) (by simp[D1.Dr.aE]) (by simp[D1.Dr.aE]) (Wl k0 k1) λH s g=>?_;refine j9 rfl s hl g (by decide) (cN (bX (bX (bX (jm (nI rfl) cM)))) (by show 4≤100;decide)) (cN (bX (bX (bX (jm (nI rfl) (bX (jm (nI rfl) (bX cM))))))) (by show 7≤100;decide)) (by simp[D1.Dr.aE]) (by simp[D1.Dr.aE]) (Wm k0 k1) λH s g=>?_;refine dr ⟨_,rfl,_,rfl,p,1,rfl,rfl,l,p-1,rfl,rfl,(by show(0:Int)<p-1;lia),_,_,rfl,rfl,?_⟩;dsimp only;have w0:1≤1+l%(p-1):=by have:=i6 l (show p-1≠0 by lia);lia
 have w1:1+l%(p-1)<p:=by have:=i7 l (show 0<p-1 by lia);lia
 generalize 1+l%(p-1)=wh at w0 w1 ⊢;refine dr (Wx rfl rfl pp w0 w1 λHb sb=>?_);replace s:=s.trans sb;replace g:=g.mono sb;clear sb;refine j9 rfl s hl g (by decide) (cN (bX (bX (jm (nI rfl) cM))) (by show 3≤100;decide)) (cN (bX (jm (nI rfl) cM)) (by show 2≤100;decide)) (by simp[D1.Dr.aE]) (by simp[D1.Dr.aE]) (Wn pp w0 w1) λH s g=>?_;refine j9 rfl s hl g (by decide) (cN (bX (jm Ke cM)) (by show 2≤100;decide)) (cN (bX cM) (by show 1≤100;decide)) (by simp[D1.Dr.aE]) (by simp[D1.Dr.aE]) (Wo p2) λH s g=>?_;refine j9 rfl s hl g (by decide) (cN (bX (jm Ke cM)) (by show 2≤100;decide)) (cN (bX (bX (bX cM))) (by show 3≤100;decide)) (by simp[D1.Dr.aE]) (by simp[D1.Dr.aE]) (Wq p2) λH s g=>?_;exact⟨_,rfl,fin ld _ s hl g⟩
theorem jH:cY ["p","cells","k","l","one","other","A","B","C","D","pairs","wide","cross","whole","back"] ["p","cells"] (bp qE):=dE rfl rfl rfl (by decide +kernel) rfl
theorem WG:(["j","p","whole"]:List Str).Nodup:=by decide +kernel
def Ko(_K:Frag):Sp:=λvs H Q _=>∃(p:Int)(a:Addr)(ns:List Int),vs=[.int p,.ref a]∧p∈cK∧H a=some (.lst (ns.map V.int))∧ns.length≤100∧∀ld H',aJ H H'→H ld=none→nJ p H' ld 14→Q (.ref ld) H'
theorem zQ(ns:List Int)(lo hi:Option Int):∃ms:List Int,eV (ns.map V.int) lo hi=ms.map V.int∧ms.length≤ns.length:=by
 unfold eV;refine⟨_,by rw[← List.map_drop,← List.map_take],?_⟩;rw[dD,eF];lia
theorem wZ{ns:List Int}{lo hi:TO}{a b:Option Int}(h:σ[1]?=some (some (.ref cl)))(g:H cl=some (.lst (ns.map V.int)))(sg:∀H' (Q:Option Int→Hp→Prop),Q a H'→lo σ H' Q)(wW:∀H' (Q:Option Int→Hp→Prop),Q b H'→hi σ H' Q)
  (q:∀n H',aJ H H'→R (.int n) H'):jV (uA K) (aI (jv (jd K) (aL 1) lo hi) aV) σ H R:=by
 refine⟨_,h,sg _ _ (wW _ _ ⟨cl,_,rfl,.of g,λl hl=>?_⟩)⟩;obtain⟨ms,e,_⟩:=zQ ns a b;exact⟨l,ms,rfl,by rw[e];exact .of aZ,q _ _ (.upd hl)⟩
theorem Kq{ns:List Int}{lo hi:TO}{a b:Option Int}(h0:σ[0]?=some (some (.int p)))(h:σ[1]?=some (some (.ref cl)))(pp:p∈cK)(g:H cl=some (.lst (ns.map V.int)))(hn:ns.length≤100)(sg:∀H' (Q:Option Int→Hp→Prop),Q a H'→lo σ H' Q)(wW:∀H' (Q:Option Int→Hp→Prop),Q b H'→hi σ H' Q)
  (q:∀f d H',aJ H H'→WT H' f d→iI p d→R (.ref f) H'):fw (wO K) [] E (aI (fw (wK K) [] E (aI (aL 0) (aI (jv (jd K) (aL 1) lo hi) (aI (tC (.int 9)) aV)))) aV) σ H R:=by
 refine⟨_,h0,_,h,sg _ _ (wW _ _ ⟨cl,_,rfl,.of g,λl hl=>?_⟩)⟩;obtain⟨ms,e,hm⟩:=zQ ns a b;refine⟨p,l,9,ms,rfl,pp,by rw[e];exact aZ,by lia,by decide,by decide,λf d H1 s1 hf w1 w2 w3 w4=>?_⟩;refine⟨f,d,rfl,hf,λf' d' H2 s2 pf hd=>q f' d' H2 ((aJ.upd hl).trans (s1.trans s2)) pf ?_⟩;rcases hd with rfl|⟨rfl,z1,z2⟩
 ·exact⟨True.intro,True.intro,by decide,by decide,by decide⟩
 ·exact⟨w1,w2,w3,z1,z2⟩
theorem WH{fG fS fF fR:Addr}{Kr jE pH wu:FuncData}(F:cL K "_law_sides" "_law_sides" qE f fd)(T:Txt mg)
  (GG:bN P w K mg base bO 3 fG Kr ["p","cells","most"] (wK K)) (kG:Kp K fG) (bG:Binds K Kr ["p","cells","most"] []) (mG:Mg mg "_law_grown" fG)
  (GS:bN P w K mg base bO 1 fS jE ["one"] (wO K)) (kS:Kp K fS) (bS:Binds K jE ["one"] []) (mS:Mg mg "_law_small" fS)
  (GF:bN P w K mg base bO 2 fF pH ["p","many","cell"] (wR K)) (kF:Kp K fF) (bF:Binds K pH ["p","many","cell"] []) (mF:Mg mg "_law_from" fF)
  (GR:bN P w K mg base bO 5 fR wu ["p","words"] (zJ K)) (kR:Kp K fR) (bR:Binds K wu ["p","words"] []) (mR:Mg mg "_law_right" fR) :
  bN P w K mg base bO 6 f fd ["p","cells"] (Ko K):=by
 refine F.ok jH (λvs H Q E h=>?_) (λcj A outer s H vs Q E hr h=>?_)
 ·obtain⟨p,a,ns,rfl,_⟩:=h;rfl
 ·obtain⟨p,a,ns,rfl,pp,ga,hn,q⟩:=h;have r1:dR 1 _:=hr.mono (by lia);have r2:dR 2 _:=hr.mono (by lia);have r3:dR 3 _:=hr.mono (by lia);have hu:=hr.units;have cT:=Nat.lt_of_le_of_lt (Nat.add_le_add_left (show 1≤64 by decide) _) hu;refine⟨Dl K E,?_,?_⟩
  ·unfold Dl;refine ba ?_ ?_
   ·exact bw (i:=2) jH.nd rfl (.inl rfl) (aU eC (gp (pq K rfl rfl) rfl T.sum pw (aG (eX (gu K rfl) (pv 1) gq (dy aY)) aK)) (pv 0))
   refine ba ?_ ?_
   ·exact bw (i:=3) jH.nd rfl (.inl rfl) (aU eC (gp (pq K rfl rfl) rfl T.sum pw (aG (eX (gu K rfl) (pv 1) (dy aY) (dy aY)) aK)) (pv 0))
   refine ba ?_ ?_
   ·exact bw (i:=4) jH.nd rfl (.inl rfl) (cO GS r1 rfl mS kS bS .nil cP (aG (cO GG r3 rfl mG kG bG .nil cP (aG (pv 0) (aG (eX (gu K rfl) (pv 1) gq (dy aY)) (aG aY aK)))) aK))
   refine ba ?_ ?_
   ·exact bw (i:=5) jH.nd rfl (.inl rfl) (bZ (cH K rfl) (cO GS r1 rfl mS kS bS .nil cP (aG (cO GG r3 rfl mG kG bG .nil cP (aG (pv 0) (aG (eX (gu K rfl) (pv 1) (dy aY) (dy aY)) (aG aY aK)))) aK)) aY (λ_ _=>rfl))
   refine ba ?_ ?_
   ·exact bw (i:=6) jH.nd rfl (.inl rfl) (bZ (cH K rfl) (pv 4) aY (λ_ _=>rfl))
   refine ba ?_ ?_
   ·exact bw (i:=7) jH.nd rfl (.inl rfl) (cO GF r2 rfl mF kF bF .nil cP (aG (pv 0) (aG (bZ (cH K rfl) (pv 4) aY (λ_ _=>rfl)) (aG (gp (pq K rfl rfl) rfl T.sum pw (aG (eX (gu K rfl) (pv 1) gq (dy aY)) aK)) aK))))
   refine ba ?_ ?_
   ·exact bw (i:=8) jH.nd rfl (.inl rfl) (cO GF r2 rfl mF kF bF .nil cP (aG (pv 0) (aG (cO GR hr rfl mR kR bR .nil cP (aG (pv 0) (aG (pv 7) aK))) (aG (gp (pq K rfl rfl) rfl T.sum pw (aG (eX (gu K rfl) (pv 1) (dy aY) (dy aY)) aK)) aK))))
   refine ba ?_ ?_
   ·exact bw (i:=9) jH.nd rfl (.inl rfl) (cO GF r2 rfl mF kF bF .nil cP (aG (pv 0) (aG (cO GR hr rfl mR kR bR .nil cP (aG (pv 0) (aG (pv 5) aK))) (aG (gp (pq K rfl rfl) rfl T.sum pw (aG (eX (gu K rfl) (pv 1) (dy aY) (dy aY)) aK)) aK))))
   unfold zP;refine ba ?_ ?_
   ·refine bw (i:=10) ?_ ?_ ?_ ?_ ?_ ?_
    ·exact jH.nd
    ·rfl
    ·exact Or.inl rfl
    ·refine PV ?_ ?_ ?_ ?_ ?_
     ·refine PU ?_ ?_ ?_
      ·exact aW
      ·exact(bc (aG (aU bV (bc (aG aW (aG aW aK))) (pv 6)) (aG (pv 6) aK)))
      ·exact PR
     ·rfl
     ·rfl
     ·exact λz=>nomatch z
     ·decide
    ·rfl
    ·exact .inl rfl
   refine ba ?_ ?_
   ·exact iT cT (pv 10) aW (bc (aG (aU bV (aU bV (bc (aG aW (aG aW aK))) (pv 6)) (pv 7)) (aG (aU bV (aU bV (aU bV (bc (aG aW (aG aW aK))) (pv 7)) (bc (aG aW aK))) (pv 6)) aK))) rfl
   refine ba ?_ ?_
   ·exact bw (i:=11) jH.nd rfl (.inl rfl) (aU bV (aU bV (aU bV (bc (aG aW (aG aW aK))) (pv 6)) (bc (aG aW aK))) (pv 5))
   refine ba ?_ ?_
   ·exact iT cT (pv 10) aW (bc (aG (aU bV (aU bV (bc (aG aW (aG aW aK))) (pv 6)) (pv 5)) (aG (pv 11) aK))) rfl
   refine ba ?_ ?_
   ·exact iT cT (pv 10) aW (bc (aG (aU bV (aU bV (aU bV (bc (aG aW (aG aW aK))) (pv 6)) (pv 7)) (pv 8)) (aG (aU bV (aU bV (aU bV (aU bV (bc (aG aW aK)) (pv 6)) (bc (aG aW aK))) (pv 7)) (pv 8)) aK))) rfl
   refine ba ?_ ?_
   ·exact iT cT (pv 10) aW (bc (aG (aU bV (aU bV (aU bV (bc (aG aW (aG aW aK))) (pv 6)) (pv 5)) (pv 7)) (aG (aU bV (aU bV (aU bV (aU bV (bc (aG aW aK)) (pv 6)) (bc (aG aW aK))) (pv 5)) (pv 7)) aK))) rfl
   refine ba ?_ ?_
   ·exact bw (i:=12) jH.nd rfl (.inl rfl) (aU bV (aU bV (aU bV (aU bV (aU bV (bc (aG aW (aG aW aK))) (pv 6)) (pv 5)) (bc (aG aW aK))) (pv 7)) (pv 9))
   refine ba ?_ ?_
   ·exact iT cT (pv 10) aW (bc (aG (pv 12) (aG (aU bV (aU bV (aU bV (aU bV (aU bV (bc (aG aW (aG aW aK))) (pv 6)) (pv 7)) (bc (aG aW aK))) (pv 5)) (pv 9)) aK))) rfl
   refine ba ?_ ?_
   ·exact iT cT (pv 10) aW (bc (aG (aU bV (bc (aG aW (aG aW aK))) (pv 6)) (aG (pv 6) aK))) rfl
   refine ba ?_ ?_
   ·exact cS (PW.pt (oS (cE dZ (aU eC (pv 2) aY) aY (cD _)) (qa (cE (qq K rfl hu) (pv 6) (bc (aG aW aK)) (cD _))))) (bj (iT cT (pv 10) aW (bc (aG (aU bV (aU bV (bc (aG aW aK)) (pv 6)) (bc (aG aW aK))) (aG (pv 6) aK))) rfl)) dW
   refine ba ?_ ?_
   ·exact iT cT (pv 10) aW (bc (aG (bc (aG aW (aG aW (aG (pv 2) (aG aW (aG (pv 3) aK)))))) (aG (bc (aG aW (aG (aU eC (aU qe (pv 2) (pv 3)) (pv 0)) aK))) aK))) rfl
   refine ba ?_ ?_
   ·exact iT cT (pv 10) aW (bc (aG (bc (aG aW (aG aW (aG (pv 2) (aG aW aK))))) (aG (bc (aG aW (aG aW (aG aW (aG aW (aG (pv 2) (aG aW (aG (pv 2) aK)))))))) aK))) rfl
   refine ba ?_ ?_
   ·exact iT cT (pv 10) aW (bc (aG (bc (aG aW (aG aW (aG aW (aG (pv 2) aK))))) (aG (bc (aG aW (aG aW (aG aW (aG (pv 2) (aG aW (aG (pv 2) (aG aW aK)))))))) aK))) rfl
   refine ba ?_ ?_
   ·exact bw (i:=13) jH.nd rfl (Or.inr rfl) (aU fu aY (aU eC (pv 3) (aU iM (pv 0) aY)))
   refine ba ?_ ?_
   ·refine bw (i:=14) ?_ ?_ ?_ ?_ ?_ ?_
    ·exact jH.nd
    ·rfl
    ·exact Or.inl rfl
    ·refine bZ (cH K rfl) ?_ ?_ ?_
     ·exact mV (N:=["j","p","whole"]) (own:=1) (caps:=[0,13]) rfl (qd rfl T.range (aG (pv 0) aK)) (show eZ ["p","cells","k","l","one","other","A","B","C","D","pairs","wide","cross","whole","back"] (bp qE) ["j","p","whole"] 1 [0,13] _ from .mk' (by decide +kernel)) (λ_ _ _ _ _=>cB (i:=0) WG rfl (.inl rfl)) (λ_ _ _ _ _=>A7 (cE dZ (aU eC (aU qe (pv 0) (pv 2)) (pv 1)) aY (cD _))) (λ_ _ _ _ _=>pv 0)
     ·exact aY
     ·exact λ_ _=>rfl
    ·rfl
    ·exact .inl rfl
   refine ba ?_ ?_
   ·exact iT cT (pv 10) aW (bc (aG (bc (aG aW (aG aW (aG (pv 13) aK)))) (aG (bc (aG aW (aG (pv 14) aK))) aK))) rfl
   refine ba ?_ ?_
   ·exact iT cT (pv 10) aW (bc (aG (bc (aG aW (aG aY aK))) (aG (bc (aG aW aK)) aK))) rfl
   refine ba ?_ ?_
   ·exact iT cT (pv 10) aW (bc (aG (bc (aG aW (aG aY aK))) (aG (bc (aG aW (aG aW (aG aW aK)))) aK))) rfl
   exact bj (cA (pv 10))
  unfold Dl;obtain⟨p2,gi⟩:=fK p pp;have p0:0<p:=by lia
  refine dr (wZ rfl ga (λ_ _ z=>z) (λ_ _ z=>⟨_,rfl,z⟩) λn1 H1 s1=>⟨_,rfl,n1,p,rfl,rfl,p0,?_⟩);have k0:=i6 n1 (show p≠0 by lia);have k1:=i7 n1 p0;dsimp only;generalize n1%p=k at k0 k1 ⊢;refine dr (wZ rfl (s1 _ _ ga) (λ_ _ z=>⟨_,rfl,z⟩) (λ_ _ z=>⟨_,rfl,z⟩) λn2 H2 s2=>⟨_,rfl,n2,p,rfl,rfl,p0,?_⟩);have l0:=i6 n2 (show p≠0 by lia);have l1:=i7 n2 p0;dsimp only;generalize n2%p=l at l0 l1 ⊢;refine dr (Kq rfl rfl pp (s2 _ _ (s1 _ _ ga)) hn (λ_ _ z=>z) (λ_ _ z=>⟨_,rfl,z⟩) λon A H3 s3 hA dA=>?_);have ij:=s1.trans (s2.trans s3);refine dr (Kq rfl rfl pp (ij _ _ ga) hn (λ_ _ z=>⟨_,rfl,z⟩) (λ_ _ z=>⟨_,rfl,z⟩) λWI O H4 s4 hO dO=>?_);obtain⟨aO,go,gO⟩:=hO;refine⟨WI,_,0,.ref aO,rfl,rfl,.of go,cb (j:=0) rfl,?_⟩;have jl:=ij.trans s4;obtain⟨aA,gn,gA⟩:=hA.mono s4;refine dr ⟨_,rfl,on,_,0,.ref aA,rfl,rfl,.of gn,cb (j:=0) rfl,?_⟩;refine dr ⟨_,rfl,_,rfl,on,_,2,.int (A.r:Int),rfl,rfl,.of gn,cb (j:=2) rfl,wZ rfl (jl _ _ ga) (λ_ _ z=>z) (λ_ _ z=>⟨_,rfl,z⟩) λn3 H5 s5=>⟨p,n3,A.r,rfl,pp,dA.r,λaB B H6 s6 gB hB=>?_⟩⟩;have Dm:=s5.trans s6;have Ks:=jl.trans Dm;refine dr ⟨_,rfl,_,rfl,_,rfl,p,aB,B,rfl,pp,gB,hB.wf,hB.bD,by have:=hB.len;lia,λH7 s7=>wZ rfl (s7 _ _ (Ks _ _ ga)) (λ_ _ z=>⟨_,rfl,z⟩) (λ_ _ z=>⟨_,rfl,z⟩) λn4 H8 s8=>⟨p,n4,B.r,rfl,pp,hB.r,λaC C H9 s9 gC hC=>?_⟩⟩;have zR:=s7.trans (s8.trans s9);have Kt:=Ks.trans zR;have Ku:WL H9 aO O:=zR _ _ (Dm _ _ gO);refine dr ⟨_,rfl,_,rfl,_,rfl,p,aO,O,rfl,pp,Ku,dO.wf,dO.bD,by have:=dO.len;lia,λHa sa=>wZ rfl (sa _ _ (Kt _ _ ga)) (λ_ _ z=>⟨_,rfl,z⟩) (λ_ _ z=>⟨_,rfl,z⟩) λn5 Hb sb=>⟨p,n5,O.r,rfl,pp,dO.r,λaD D Hc sc gD hD=>?_⟩⟩;have w6:=sa.trans (sb.trans sc);have Kv:=Kt.trans w6;exact WC pp k0 k1 l0 l1 (w6 _ _ (zR _ _ (Dm _ _ gA))) (w6 _ _ Ku) (w6 _ _ (zR _ _ gB)) (w6 _ _ gC) gD dA dO hB hC hD λld H' s' vc g'=>q ld H' (Kv.trans s') (eE Kv vc) g'
noncomputable def Dn:D1.Wd→Option Str
 | .w x=>some (Str.ofString x)
 | .n _=>none
theorem Dp:∀{l:List Str}{ws:List D1.Wd},l.map some=ws.map Dn→l.map V.str=ws.map bY
 | [],[],_=>rfl
 | [],_::_,h=>nomatch h
 |_::_,[],h=>nomatch h
 |a::l,.w x::ws,h=>by
  have h1:some a=some (Str.ofString x):=(List.cons.inj h).1;rw[iJ,iJ,Dp (List.cons.inj h).2,eM h1];rfl
 |a::l,.n _::ws,h=>by
  have h1:some a=none:=(List.cons.inj h).1;cases h1
noncomputable def Kw(y:Str)(X Y:D1.Dr):Bool:=decide (y.length≤100)&&match Txt.split y (Str.ofString " = ") with
 | [a,b]=>decide (a.length≤100)&&decide (b.length≤100)&&decide ((Txt.split a (Str.ofString " ")).map some=X.aE.map Dn)&&decide ((Txt.split b (Str.ofString " ")).map some=Y.aE.map Dn)
 |_=>false
structure Dq(y:Str)(X Y:D1.Dr):Prop where
 ly:y.length≤100
 sp:∃a b,Txt.split y (Str.ofString " = ")=[a,b]∧(a.length≤100∧b.length≤100)∧(Txt.split a (Str.ofString " ")).map V.str=X.aE.map bY∧(Txt.split b (Str.ofString " ")).map V.str=Y.aE.map bY
theorem gU(h:Kw y X Y=true):Dq y X Y:=by
 unfold Kw at h;rw[fq,ay]at h;obtain⟨h0,h⟩:=h;split at h
 ·rename_i a b e
  simp only[fq,ay]at h;exact⟨h0,a,b,e,⟨h.1.1.1,h.1.1.2⟩,Dp h.1.2,Dp h.2⟩
 ·cases h
def eK(kv:Key×V):Prop:=∃x y X Y,kv=(.inr x,.str y)∧Dq y X Y∧∀p,RR p x X Y
theorem gW(mv:∀p,Mv p x (cw X) (cw Y))(wx:∀p,X.wf p)(nx:X.bD 64)(lx:X.aE.length≤60)(wy:∀p,Y.wf p)(ly:Y.aE.length≤60):∀p,RR p x X Y:=λp=>⟨wx p,nx,lx,gT (wy p),ly,mv p⟩
theorem WJ:eK (.inr (Str.ofString "lone"),(.str (Str.ofString "then id copy = copy"))):=⟨_,_,(.aM .id .copy),.copy,rfl,gU (by decide +kernel),gW (λ_=>IJ (gT (d:=.copy) True.intro) (by decide)) (λ_=>by simp[D1.Dr.wf,D1.Dr.l,D1.Dr.r,D1.Dr.bq]) (by simp[D1.Dr.bD,D1.Dr.l,D1.Dr.r,D1.Dr.bq]) (by decide) (λ_=>by simp[D1.Dr.wf,D1.Dr.l,D1.Dr.r,D1.Dr.bq]) (by decide)⟩
theorem WK:eK (.inr (Str.ofString "undo"),(.str (Str.ofString "then swap swap = beside id id"))):=⟨_,_,(.aM .swap .swap),(.bf .id .id),rfl,gU (by decide +kernel),gW (λ_=>Tn) (λ_=>by simp[D1.Dr.wf,D1.Dr.l,D1.Dr.r,D1.Dr.bq]) (by simp[D1.Dr.bD,D1.Dr.l,D1.Dr.r,D1.Dr.bq]) (by decide) (λ_=>by simp[D1.Dr.wf,D1.Dr.l,D1.Dr.r,D1.Dr.bq]) (by decide)⟩
theorem WM:eK (.inr (Str.ofString "copyturn"),(.str (Str.ofString "then copy swap = copy"))):=⟨_,_,(.aM .copy .swap),.copy,rfl,gU (by decide +kernel),gW (λ_=>Tp) (λ_=>by simp[D1.Dr.wf,D1.Dr.l,D1.Dr.r,D1.Dr.bq]) (by simp[D1.Dr.bD,D1.Dr.l,D1.Dr.r,D1.Dr.bq]) (by decide) (λ_=>by simp[D1.Dr.wf,D1.Dr.l,D1.Dr.r,D1.Dr.bq]) (by decide)⟩
theorem WN:eK (.inr (Str.ofString "copyend"),(.str (Str.ofString "then copy beside end id = id"))):=⟨_,_,(.aM .copy (.bf .fin .id)),.id,rfl,gU (by decide +kernel),gW (λ_=>To) (λ_=>by simp[D1.Dr.wf,D1.Dr.l,D1.Dr.r,D1.Dr.bq]) (by simp[D1.Dr.bD,D1.Dr.l,D1.Dr.r,D1.Dr.bq]) (by decide) (λ_=>by simp[D1.Dr.wf,D1.Dr.l,D1.Dr.r,D1.Dr.bq]) (by decide)⟩
theorem WO:eK (.inr (Str.ofString "addnone"),(.str (Str.ofString "then beside none id add = id"))):=⟨_,_,(.aM (.bf .none .id) .add),.id,rfl,gU (by decide +kernel),gW (λ_=>Tr) (λ_=>by simp[D1.Dr.wf,D1.Dr.l,D1.Dr.r,D1.Dr.bq]) (by simp[D1.Dr.bD,D1.Dr.l,D1.Dr.r,D1.Dr.bq]) (by decide) (λ_=>by simp[D1.Dr.wf,D1.Dr.l,D1.Dr.r,D1.Dr.bq]) (by decide)⟩
theorem WQ:eK (.inr (Str.ofString "copycopy"),(.str (Str.ofString "then copy beside copy id = then copy beside id copy"))):=⟨_,_,(.aM .copy (.bf .copy .id)),(.aM .copy (.bf .id .copy)),rfl,gU (by decide +kernel),gW (λ_=>Tq) (λ_=>by simp[D1.Dr.wf,D1.Dr.l,D1.Dr.r,D1.Dr.bq]) (by simp[D1.Dr.bD,D1.Dr.l,D1.Dr.r,D1.Dr.bq]) (by decide) (λ_=>by simp[D1.Dr.wf,D1.Dr.l,D1.Dr.r,D1.Dr.bq]) (by decide)⟩
theorem WR:eK (.inr (Str.ofString "addturn"),(.str (Str.ofString "then swap add = add"))):=⟨_,_,(.aM .swap .add),.add,rfl,gU (by decide +kernel),gW (λ_=>Ts) (λ_=>by simp[D1.Dr.wf,D1.Dr.l,D1.Dr.r,D1.Dr.bq]) (by simp[D1.Dr.bD,D1.Dr.l,D1.Dr.r,D1.Dr.bq]) (by decide) (λ_=>by simp[D1.Dr.wf,D1.Dr.l,D1.Dr.r,D1.Dr.bq]) (by decide)⟩
theorem WU:eK (.inr (Str.ofString "addadd"),(.str (Str.ofString "then beside add id add = then beside id add add"))):=⟨_,_,(.aM (.bf .add .id) .add),(.aM (.bf .id .add) .add),rfl,gU (by decide +kernel),gW (λ_=>Tt) (λ_=>by simp[D1.Dr.wf,D1.Dr.l,D1.Dr.r,D1.Dr.bq]) (by simp[D1.Dr.bD,D1.Dr.l,D1.Dr.r,D1.Dr.bq]) (by decide) (λ_=>by simp[D1.Dr.wf,D1.Dr.l,D1.Dr.r,D1.Dr.bq]) (by decide)⟩
theorem WV:eK (.inr (Str.ofString "sumend"),(.str (Str.ofString "then add end = beside end end"))):=⟨_,_,(.aM .add .fin),(.bf .fin .fin),rfl,gU (by decide +kernel),gW (λ_=>Tz) (λ_=>by simp[D1.Dr.wf,D1.Dr.l,D1.Dr.r,D1.Dr.bq]) (by simp[D1.Dr.bD,D1.Dr.l,D1.Dr.r,D1.Dr.bq]) (by decide) (λ_=>by simp[D1.Dr.wf,D1.Dr.l,D1.Dr.r,D1.Dr.bq]) (by decide)⟩
theorem WW:eK (.inr (Str.ofString "sumcopy"),(.str (Str.ofString "then add copy = "++Str.ofString "then beside copy copy then beside id beside swap id beside add add"))):=⟨_,_,(.aM .add .copy),(.aM (.bf .copy .copy) (.aM (.bf .id (.bf .swap .id)) (.bf .add .add))),rfl,gU (by decide +kernel),gW (λ_=>Tx) (λ_=>by simp[D1.Dr.wf,D1.Dr.l,D1.Dr.r,D1.Dr.bq]) (by simp[D1.Dr.bD,D1.Dr.l,D1.Dr.r,D1.Dr.bq]) (by decide) (λ_=>by simp[D1.Dr.wf,D1.Dr.l,D1.Dr.r,D1.Dr.bq]) (by decide)⟩
theorem WX:eK (.inr (Str.ofString "nonecopy"),(.str (Str.ofString "then none copy = beside none none"))):=⟨_,_,(.aM .none .copy),(.bf .none .none),rfl,gU (by decide +kernel),gW (λ_=>TB) (λ_=>by simp[D1.Dr.wf,D1.Dr.l,D1.Dr.r,D1.Dr.bq]) (by simp[D1.Dr.bD,D1.Dr.l,D1.Dr.r,D1.Dr.bq]) (by decide) (λ_=>by simp[D1.Dr.wf,D1.Dr.l,D1.Dr.r,D1.Dr.bq]) (by decide)⟩
theorem WY:eK (.inr (Str.ofString "noneend"),(.str (Str.ofString "then none end = empty"))):=⟨_,_,(.aM .none .fin),.empty,rfl,gU (by decide +kernel),gW (λ_=>TC) (λ_=>by simp[D1.Dr.wf,D1.Dr.l,D1.Dr.r,D1.Dr.bq]) (by simp[D1.Dr.bD,D1.Dr.l,D1.Dr.r,D1.Dr.bq]) (by decide) (λ_=>by simp[D1.Dr.wf,D1.Dr.l,D1.Dr.r,D1.Dr.bq]) (by decide)⟩
theorem WZ:eK (.inr (Str.ofString "bend"),(.str (Str.ofString "then beside cup id beside id back cup = id"))):=⟨_,_,(.aM (.bf .ig .id) (.bf .id (.back .ig))),.id,rfl,gU (by decide +kernel),gW (λ_=>TJ) (λ_=>by simp[D1.Dr.wf,D1.Dr.l,D1.Dr.r,D1.Dr.bq]) (by simp[D1.Dr.bD,D1.Dr.l,D1.Dr.r,D1.Dr.bq]) (by decide) (λ_=>by simp[D1.Dr.wf,D1.Dr.l,D1.Dr.r,D1.Dr.bq]) (by decide)⟩
theorem W0:eK (.inr (Str.ofString "meet"),(.str (Str.ofString "then copy back copy = id"))):=⟨_,_,(.aM .copy (.back .copy)),.id,rfl,gU (by decide +kernel),gW (λ_=>TL) (λ_=>by simp[D1.Dr.wf,D1.Dr.l,D1.Dr.r,D1.Dr.bq]) (by simp[D1.Dr.bD,D1.Dr.l,D1.Dr.r,D1.Dr.bq]) (by decide) (λ_=>by simp[D1.Dr.wf,D1.Dr.l,D1.Dr.r,D1.Dr.bq]) (by decide)⟩
theorem W2:eK (.inr (Str.ofString "turnid"),(.str (Str.ofString "back id = id"))):=⟨_,_,(.back .id),.id,rfl,gU (by decide +kernel),gW (λ_=>TM) (λ_=>by simp[D1.Dr.wf,D1.Dr.l,D1.Dr.r,D1.Dr.bq]) (by simp[D1.Dr.bD,D1.Dr.l,D1.Dr.r,D1.Dr.bq]) (by decide) (λ_=>by simp[D1.Dr.wf,D1.Dr.l,D1.Dr.r,D1.Dr.bq]) (by decide)⟩
theorem W3:eK (.inr (Str.ofString "turnid"),(.str (Str.ofString "back swap = swap"))):=⟨_,_,(.back .swap),.swap,rfl,gU (by decide +kernel),gW (λ_=>TN) (λ_=>by simp[D1.Dr.wf,D1.Dr.l,D1.Dr.r,D1.Dr.bq]) (by simp[D1.Dr.bD,D1.Dr.l,D1.Dr.r,D1.Dr.bq]) (by decide) (λ_=>by simp[D1.Dr.wf,D1.Dr.l,D1.Dr.r,D1.Dr.bq]) (by decide)⟩
theorem W4:eK (.inr (Str.ofString "turnid"),(.str (Str.ofString "back empty = empty"))):=⟨_,_,(.back .empty),.empty,rfl,gU (by decide +kernel),gW (λ_=>TQ) (λ_=>by simp[D1.Dr.wf,D1.Dr.l,D1.Dr.r,D1.Dr.bq]) (by simp[D1.Dr.bD,D1.Dr.l,D1.Dr.r,D1.Dr.bq]) (by decide) (λ_=>by simp[D1.Dr.wf,D1.Dr.l,D1.Dr.r,D1.Dr.bq]) (by decide)⟩
theorem W5:eK (.inr (Str.ofString "lone"),(.str (Str.ofString "then add id = add"))):=⟨_,_,(.aM .add .id),.add,rfl,gU (by decide +kernel),gW (λ_=>IK (gT (d:=.add) True.intro) (by decide) (by decide +kernel)) (λ_=>by simp[D1.Dr.wf,D1.Dr.l,D1.Dr.r,D1.Dr.bq]) (by simp[D1.Dr.bD,D1.Dr.l,D1.Dr.r,D1.Dr.bq]) (by decide) (λ_=>by simp[D1.Dr.wf,D1.Dr.l,D1.Dr.r,D1.Dr.bq]) (by decide)⟩
theorem W6:eK (.inr (Str.ofString "lone"),(.str (Str.ofString "then id id = id"))):=⟨_,_,(.aM .id .id),.id,rfl,gU (by decide +kernel),gW (λ_=>IJ (gT (d:=.id) True.intro) (by decide)) (λ_=>by simp[D1.Dr.wf,D1.Dr.l,D1.Dr.r,D1.Dr.bq]) (by simp[D1.Dr.bD,D1.Dr.l,D1.Dr.r,D1.Dr.bq]) (by decide) (λ_=>by simp[D1.Dr.wf,D1.Dr.l,D1.Dr.r,D1.Dr.bq]) (by decide)⟩
theorem W7:eK (.inr (Str.ofString "lone"),(.str (Str.ofString "then back copy id = back copy"))):=⟨_,_,(.aM (.back .copy) .id),(.back .copy),rfl,gU (by decide +kernel),gW (λ_=>IK (gT (d:=.back .copy) True.intro) (by decide) (by decide +kernel)) (λ_=>by simp[D1.Dr.wf,D1.Dr.l,D1.Dr.r,D1.Dr.bq]) (by simp[D1.Dr.bD,D1.Dr.l,D1.Dr.r,D1.Dr.bq]) (by decide) (λ_=>by simp[D1.Dr.wf,D1.Dr.l,D1.Dr.r,D1.Dr.bq]) (by decide)⟩
section
variable{K:Frag}{σ:St}{H:Hp}
def pT(K:Frag)(H:Hp)(l:Addr)(n:Nat):Prop:=∃zs aH,H l=some (.lst zs)∧dJ K H zs aH∧aH.length≤n∧∀kv∈aH,eK kv
def rj(K:Frag)(ta:TA)(σ:St)(H:Hp)(aH:List (Key×V)):Prop:=∀H',aJ H H'→∀Q:List V→Hp→Prop,(∀vs di,aJ H' di→dJ K di vs aH→Q vs di)→ta σ H' Q
theorem nK:rj K aV σ H []:=λH' _ _ q=>q [] H' (.refl _) .nil
theorem dJ.W8{t:Addr}{kv:Key×V}(g:bQ K H t [kV kv.1,kv.2])(h:dJ K H zs aH):dJ K H (.ref t::zs) (kv::aH):=
 ⟨by rw[cu,cu,h.1],λi x q e1 e2=>by
  cases i with
  |zero=>cases e1;cases e2;exact⟨t,rfl,g⟩
  |succ i=>exact h.2 i x q e1 e2⟩
theorem dJ.app{ys:List V}{Kx:List (Key×V)}(h:dJ K H zs aH)(k:dJ K H ys Kx):dJ K H (zs++ys) (aH++Kx):=by
 refine⟨by rw[bh,bh,h.1,k.1],λi x q e1 e2=>?_⟩;by_cases hi:i<zs.length
 ·rw[iA hi]at e1;rw[iA (by rw[← h.1];exact hi)]at e2;exact h.2 i x q e1 e2
 ·rw[i5 (by lia)]at e1;rw[i5 (by rw[← h.1];lia),← h.1]at e2;exact k.2 _ x q e1 e2
theorem Ds{ty:TE}(hy:∀H',aJ H H'→∀R:VK,R (.str y) H'→ty σ H' R)(k:rj K ta σ H aH):rj K (aI (mx (aI (tC (.str x)) (aI ty aV))) ta) σ H ((.inr x,.str y)::aH):=λH' s Q q=>by
 refine hy H' s _ ⟨by show 2≤sizeLine;decide,λt ht=>k _ (s.trans (.upd ht)) _ λvs H2 s2 hv=>?_⟩;exact q _ H2 ((aJ.upd ht).trans s2) (dJ.W8 (s2.cG (.of aZ)) hv)
theorem ka{x y:String}(k:rj K ta σ H aH):rj K (aI (mx (aI (tS x) (aI (tS y) aV))) ta) σ H ((.inr (Str.ofString x),.str (Str.ofString y))::aH):=Ds (λ_ _ _ q=>q) k
theorem all1{a:Key×V}(h:eK a):∀kv∈[a],eK kv:=λkv z=>by rw[cX.mp z];exact h
theorem all2{a b:Key×V}(h:eK a)(k:eK b):∀kv∈[a,b],eK kv:=λkv z=>by
 rcases(e9.mp z)with(z|z)
 ·rw[z];exact h
 ·rw[cX.mp z];exact k
theorem oH{u:TS}{l:Addr}(h1:σ[1]?=some (some (.ref l)))(g:pT K H l n)(hn:n+aH.length≤50)(e:rj K ta σ H aH)(hk:∀kv∈aH,eK kv)
  (q:∀l' H',aJ H H'→H l'=none→pT K H' l' (n+aH.length)→u D (σ.set 1 (some (.ref l'))) H'):bu (cx (aT cc (aL 1) (bg ta)) (bo 1)) u D σ H:=by
 obtain⟨zs,js,gl,hz,hj,hK⟩:=g;refine dr (wQ ⟨_,h1,lstK (e H (.refl _) _ λvs H1 s1 hv=>⟨by rw[hv.1];exact eu (eu (Nat.le_add_left _ _) hn) (by decide),λb hb=>?_⟩)⟩);refine⟨l,b,zs,vs,rfl,rfl,aJ.upd hb _ _ (s1 _ _ gl),aZ,by rw[hz.1,hv.1];exact eu (by lia:_≤50) (by decide),λc hc=>?_⟩;have sc:=(s1.trans (aJ.upd hb (o:=.lst vs))).trans (aJ.upd hc (o:=.lst (zs++vs)));refine q c _ sc (eE (s1.trans (aJ.upd hb (o:=.lst vs))) hc) ⟨zs++vs,js++aH,aZ,dJ.app (hz.mono sc) (hv.mono ((aJ.upd hb).trans (.upd hc))),by rw[bh];lia,λkv h=>?_⟩;rcases(dM.mp h)with(h|h)
 ·exact hK kv h
 ·exact hk kv h
theorem Ky{i:Nat}{te:TE}{a:Addr}{z:Str}(h:σ[i]?=some (some (.ref a)))(g:H a=some (.lst [.str x,.str y,.str z]))(ht:∀(H':Hp)(R:VK),R (.int (c%3)) H'→te σ H' R)(P:Str→Prop)(hx:P x)(hy:P y)(hz:P z) :
  ∃w,P w∧∀H',aJ H H'→∀R:VK,R (.str w) H'→aT (ff K) (aL i) te σ H' R:=by
 obtain⟨j,w,e,ec⟩:=zN (xs:=[x,y,z]) (n:=3) rfl (by decide) c;refine⟨w,?_,λH' s R q=>⟨_,h,ht _ _ ?_⟩⟩
 ·match j,e with
  |0,e=>cases e;exact hx
  |1,e=>cases e;exact hy
  |2,e=>cases e;exact hz
  |j+3,e=>cases e
 ·rw[show(c%3:Int)=(j:Int) from ec]
  exact⟨a,_,_,.str w,rfl,rfl,.of (s _ _ g),cb (j:=j) (by rw[show([V.str x,.str y,.str z])=[x,y,z].map V.str from rfl,fj,e];rfl),q⟩
theorem dJ.tup{H':Hp}(h:dJ K H zs aH)(e:eo H H'):dJ K H' zs aH:=⟨h.1,λi x kv e1 e2=>let ⟨t,e',g⟩:=h.2 i x kv e1 e2;⟨t,e',e.cG g⟩⟩
theorem pT.mono{H':Hp}{l:Addr}{n:Nat}(g:pT K H l n)(s:aJ H H'):pT K H' l n:=let ⟨zs,aH,w1,w2,w3⟩:=g;⟨zs,aH,s _ _ w1,w2.mono s,w3⟩
end
def tT(x y:String):TE:=mx (aI (tS x) (aI (tS y) aV))
def kN(ta:TA):TS:=cx (aT cc (aL 1) (bg ta)) (bo 1)
def Dt:V→List V→Hp→VK→Prop:=λx xs H Q=>∃z lK,x=.str z∧xs=[.str lK]∧(lK.length==0)=false∧z.length+2≤sizeLine∧(Txt.split z lK).length≤sizeLine∧∀l,H l=none→Q (.ref l) (upd H l (.lst ((Txt.split z lK).map V.str)))
def Du(K:Frag):TE:=n9 (qc K (qi K "str" Dt (aL 1) (aI (tS " = ") aV))) 1 [] (bo 0) mK (qi K "str" Dt (aL 0) (aI (tS " ") aV))
def Dv(K:Frag):TE:=n9 (qc K (aL 1)) 2 [] (F0 K 0 1) mK (mx (aI (aL 0) (aI (Du K) aV)))
def zS(K:Frag):TS:=bu (cx (bg (aI (tS "back id = id") (aI (tS "back swap = swap") (aI (tS "back empty = empty") aV)))) (bo 3))
 (bu (kN (aI (tT "meet" "then copy back copy = id") (aI (mx (aI (tS "turnid") (aI (aT (ff K) (aL 3) (aT ik (aL 0) (tC (.int 3)))) aV))) aV))) (bu (cx (bg (aI (tS "then add id = add") (aI (tS "then id id = id") (aI (tS "then back copy id = back copy") aV)))) (bo 4)) (bu (rS (qi K "list" u0 (aL 1) (aI (mx (aI (tS "lone") (aI (aT (ff K) (aL 4) (aT ik (aT rh (aL 0) (tC (.int 3))) (tC (.int 3)))) aV))) aV))) (ft (Dv K)))))
def zT(K:Frag):TS:=bu (cx (bg (aI (tT "lone" "then id copy = copy") (aI (tT "undo" "then swap swap = beside id id") aV))) (bo 1))
 (bu (kN (aI (tT "copyturn" "then copy swap = copy") aV)) (bu (kN (aI (tT "copyend" "then copy beside end id = id") (aI (tT "addnone" "then beside none id add = id") aV))) (bu (kN (aI (tT "copycopy" "then copy beside copy id = then copy beside id copy") aV)) (bu (kN (aI (tT "addturn" "then swap add = add") aV)) (bu (kN (aI (tT "addadd" "then beside add id add = then beside id add add") aV)) (bu (kN (aI (tT "sumend" "then add end = beside end end") aV)) (bu (cx (tS "then beside copy copy then beside id beside swap id beside add add") (bo 2)) (bu (kN (aI (mx (aI (tS "sumcopy") (aI (aT (λx y H Q=>∃i j,x=.str i∧y=.str j∧i.length+j.length≤sizeLine∧Q (.str (i++j)) H) (tS "then add copy = ") (aL 2)) aV))) (aI (tT "nonecopy" "then none copy = beside none none") aV))) (bu (kN (aI (tT "noneend" "then none end = empty") (aI (tT "bend" "then beside cup id beside id back cup = id") aV))) (zS K))))))))))
section
variable{K:Frag}
theorem W9(h:σ[1]?=some (some (.str y)))(hp:Dq y X Y)(hX:X.aE.length≤60)(hY:Y.aE.length≤60)(q:∀v H',aJ H H'→kq H' v X Y→R v H'):Du K σ H R:=by
 obtain⟨hy,a,b,e,⟨la,lb⟩,ea,eb⟩:=hp;have z:(1000:Nat)≤sizeLine:=by decide
 have hw:∀{d:D1.Dr}{x:Str},x.length≤100→(Txt.split x (Str.ofString " ")).map V.str=d.aE.map bY→d.aE.length≤60→x.length+2≤sizeLine∧(Txt.split x (Str.ofString " ")).length≤sizeLine:=λh1 h2 h3=>⟨by lia,by have:=aj List.length h2;rw[br,br]at this;lia⟩;refine⟨_,h,rfl,y,Str.ofString " = ",rfl,rfl,by decide +kernel,by lia,by rw[e];show 2≤sizeLine;decide,λl hl=>?_⟩;rw[e];have s1:=aJ.upd (o:=.lst ([a,b].map V.str)) hl;have g1:(upd H l (.lst ([a,b].map V.str))) l=some (.lst ([a,b].map V.str)):=aZ;generalize upd H l (.lst ([a,b].map V.str))=H1 at s1 g1 ⊢;refine⟨l,rfl,⟨_,.of g1⟩,mX (cp:=[]) (λi H' zs=>dU H' zs ([X,Y].take i)) (.of g1) (by show 2≤sizeLine;decide) ⟨rfl,λi v d e=>by cases e⟩ (λi H' zs h=>by rw[h.1];exact nP _ _) ?_ ?_⟩
 ·rintro i x H' zs hx sm pv
  match i,hx with
  |0,hx=>
   cases hx;obtain⟨w1,w2⟩:=hw la ea hX;refine ki ⟨_,rfl,rfl,a,Str.ofString " ",rfl,rfl,by decide +kernel,w1,w2,λl2 h2=>⟨⟨[_],rfl,rfl⟩,sm.trans (.upd h2),?_⟩⟩;exact(pv.mono (.upd h2)).append (.one (by show _=_;rw[aZ,ea]))
  |1,hx=>
   cases hx;obtain⟨w1,w2⟩:=hw lb eb hY;refine ki ⟨_,rfl,rfl,b,Str.ofString " ",rfl,rfl,by decide +kernel,w1,w2,λl2 h2=>⟨⟨[_],rfl,rfl⟩,sm.trans (.upd h2),?_⟩⟩;exact(pv.mono (.upd h2)).append (.one (by show _=_;rw[aZ,eb]))
  |i+2,hx=>cases hx
 ·rintro H' zs sm pv l2 h2;have gI:dU H' zs [X,Y]:=pv
  match zs,gI with
  | [v1,v2],gI=>
   obtain⟨u,rfl,hu⟩:=gI.2 0 v1 X rfl rfl;obtain⟨w,rfl,hw⟩:=gI.2 1 v2 Y rfl rfl;exact q _ _ ((s1.trans sm).trans (.upd h2)) ⟨l2,u,w,rfl,aZ,aJ.upd h2 _ _ hu,aJ.upd h2 _ _ hw⟩
  | [],gI=>cases gI.1
  | [_],gI=>cases gI.1
  |_::_::_::_,gI=>cases gI.1
theorem Xa{l:Addr}(h:σ[1]?=some (some (.ref l)))(g:pT K H l n)(hn:n≤50)(q:∀l2 zs aH H',aJ H H'→H' l2=some (.lst zs)→dJ K H' zs aH→aH.length≤n→(∀p,∀kv∈aH,ri p H' kv)→R (.ref l2) H'):Dv K σ H R:=by
 obtain⟨LS,js,gl,hz,hj,hK⟩:=g;have z:(1000:Nat)≤sizeLine:=by decide
 have eL:=hz.1;refine⟨_,h,l,rfl,⟨_,.of gl⟩,Bh (n:=LS.length) (own:=2) (cp:=[]) (λi H' zs=>∃aH,dJ K H' zs aH∧aH.length=i∧∀p,∀kv∈aH,ri p H' kv) (by lia) ⟨[],.nil,rfl,λp kv h=>by cases h⟩ (λi H' zs ⟨aH,h1,h2,_⟩=>by rw[h1.1,h2];exact bH _) (λi H sm hi=>⟨LS,LS[i],.of (sm _ _ gl),by simp[hi]⟩) (λH sm=>⟨LS,.of (sm _ _ gl),bH _⟩) (λi o H' zs hi ho sm pv x H2 y=>?_) (λH' zs sm pv p hp=>?_)⟩
 ·obtain⟨o1,o2,rfl⟩:=OZ ho;obtain⟨rfl,y⟩:=y;have hx:=y LS (.of (sm _ _ gl));obtain⟨kv,fQ⟩:∃kv,js[i]?=some kv:=⟨_,cg (by rw[← eL];exact hi)⟩;obtain⟨t,rfl,ht⟩:=hz.2 i x kv hx fQ;obtain⟨xr,ys,X,Y,rfl,hp,hr⟩:=hK kv (d8 fQ);obtain⟨aH,h1,h2,h3⟩:=pv;refine Ga (sm.cG ht) (ki ⟨_,rfl,?_⟩);refine W9 rfl hp (hr 2).lx (hr 2).ly λv H3 s3 hv=>⟨by show 2≤sizeLine;decide,λt2 qN=>?_⟩;have s4:=s3.trans (aJ.upd (o:=.tup [.str xr,v]) qN);refine⟨⟨[_,_],rfl,rfl⟩,sm.trans s4,aH++[(.inr xr,v)],(h1.mono s4).snoc (.of aZ),by rw[bh,h2];rfl,λp kv fQ=>?_⟩;rcases(dM.mp fQ)with(fQ|fQ)
  ·obtain⟨x',X',Y',e1,e2,e3⟩:=h3 p kv fQ;exact⟨x',X',Y',e1,e2.mono s4,e3⟩
  ·rw[cX.mp fQ];exact⟨xr,X,Y,rfl,hv.mono (.upd qN),hr p⟩
 ·obtain⟨aH,h1,h2,h3⟩:=pv;exact q p zs aH _ (sm.trans (.upd hp)) aZ (h1.mono (.upd hp)) (by lia) λp' kv fQ=>let ⟨x',X',Y',e1,e2,e3⟩:=h3 p' kv fQ;⟨x',X',Y',e1,e2.mono (.upd hp),e3⟩
theorem Xb{H0:Hp}{l:Addr}{s2:Option V}(s:aJ H0 H)(g:pT K H l n)(hn:n≤40)(q:∀l2 zs aH H',aJ H0 H'→H' l2=some (.lst zs)→dJ K H' zs aH→aH.length≤50→(∀p,∀kv∈aH,ri p H' kv)→D.rt (.ref l2) H'):zS K D [some (.int c),some (.ref l),s2,none,none] H:=by
 unfold zS;have z3:(3:Nat)≤sizeLine:=by decide
 refine dr ⟨z3,λa3 h3=>?_⟩;obtain⟨y1,k1,r1⟩:=Ky (K:=K) (σ:=[some (.int c),some (.ref l),s2,some (.ref a3),none]) (i:=3) (te:=aT ik (aL 0) (tC (.int 3))) (c:=c) rfl (aZ (H:=H) (o:=.lst [.str (Str.ofString "back id = id"),.str (Str.ofString "back swap = swap"),.str (Str.ofString "back empty = empty")])) (λ_ _ q=>⟨_,rfl,c,3,rfl,rfl,(by decide:(0:Int)<3),q⟩) (λy=>eK (.inr (Str.ofString "turnid"),.str y)) W2 W3 W4;refine oH rfl (g.mono (.upd h3)) (by show n+2≤50;lia) (ka (Ds r1 nK)) (all2 W0 k1) λl4 H4 s4 Kz g4=>?_;have Xc:=(s.trans (.upd h3)).trans s4;have n4:=eE (s.trans (.upd h3)) Kz;clear r1 Kz;refine dr ⟨z3,λa5 h5=>?_⟩;obtain⟨y2,k2,r2⟩:=Ky (K:=K) (σ:=[some (.int c),some (.ref l4),s2,some (.ref a3),some (.ref a5)]) (i:=4) (te:=aT ik (aT rh (aL 0) (tC (.int 3))) (tC (.int 3))) (c:=c/3) rfl (aZ (H:=H4) (o:=.lst [.str (Str.ofString "then add id = add"),.str (Str.ofString "then id id = id"),.str (Str.ofString "then back copy id = back copy")])) (λ_ _ q=>⟨_,rfl,c,3,rfl,rfl,⟨by decide,by decide⟩,c/3,3,rfl,rfl,(by decide:(0:Int)<3),q⟩) (λy=>eK (.inr (Str.ofString "lone"),.str y)) W5 W6 W7;obtain⟨zs,js,gl,hz,hj,hK⟩:=g4.mono (.upd h5 (o:=.lst [.str (Str.ofString "then add id = add"),.str (Str.ofString "then id id = id"),.str (Str.ofString "then back copy id = back copy")]));have Ht:js.length≤n+2:=hj;refine⟨_,rfl,.inl ⟨rfl,_,.of gl⟩,r2 _ (.refl _) _ ⟨by show 2≤sizeLine;decide,λt ht=>?_⟩⟩;have zi:=aJ.upd (o:=.tup [.str (Str.ofString "lone"),.str y2]) ht _ _ gl;refine⟨l4,zs,.ref t,rfl,rfl,zi,by rw[hz.1];exact Nat.lt_of_le_of_lt (by lia:_≤50) (by decide),?_⟩;refine Xa (n:=n+3) rfl ⟨zs++[.ref t],js++[(.inr (Str.ofString "lone"),.str y2)],aZ,?_,by rw[bh];show _+1≤n+3;lia,λkv h=>?_⟩ (by lia) λl2 jX w8 H' s' w1 w2 w3 w4=>q l2 jX w8 H' ((((Xc.trans (.upd h5)).trans (.upd ht)).put n4).trans s') w1 w2 (by lia) w4
 ·exact dJ.tup ((hz.mono (.upd ht)).snoc (kv:=(.inr (Str.ofString "lone"),.str y2)) (.of aZ)) (eo.lst zi)
 ·rcases(dM.mp h)with(h|h)
  ·exact hK kv h
  ·rw[cX.mp h];exact k2
theorem Xd(q:∀l2 zs aH H',aJ H H'→H' l2=some (.lst zs)→dJ K H' zs aH→aH.length≤50→(∀p,∀kv∈aH,ri p H' kv)→D.rt (.ref l2) H'):zT K D [some (.int c),none,none,none,none] H:=by
 unfold zT kN tT;refine dr (lstK ((ka (ka nK):rj K _ [some (.int c),none,none,none,none] H _) H (.refl _) _ λvs H1 s1 hv=>⟨by rw[hv.1];show 2≤sizeLine;decide,λl1 h1=>?_⟩));have S:=s1.trans (aJ.upd (o:=.lst vs) h1);have g:pT K (upd H1 l1 (.lst vs)) l1 2:=⟨vs,_,aZ,hv.mono (.upd h1),bH _,all2 WJ WK⟩;clear hv s1;generalize upd H1 l1 (.lst vs)=Hx at S g ⊢;clear h1;refine oH rfl g (by decide) (ka nK) (all1 WM) λl2 H2 s2 _ g2=>?_;refine oH rfl g2 (by decide) (ka (ka nK)) (all2 WN WO) λl3 H3 s3 _ g3=>?_;refine oH rfl g3 (by decide) (ka nK) (all1 WQ) λl4 H4 s4 _ g4=>?_;refine oH rfl g4 (by decide) (ka nK) (all1 WR) λl5 H5 s5 _ g5=>?_;refine oH rfl g5 (by decide) (ka nK) (all1 WU) λl6 H6 s6 _ g6=>?_;refine oH rfl g6 (by decide) (ka nK) (all1 WV) λl7 H7 s7 _ g7=>?_;refine dr ?_;refine oH rfl g7 (by decide) (Ds (λ_ _ _ q=>⟨_,rfl,_,_,rfl,rfl,by decide +kernel,q⟩) (ka nK)) (all2 WW WX) λl8 H8 s8 _ g8=>?_;refine oH rfl g8 (by decide) (ka (ka nK)) (all2 WY WZ) λl9 H9 s9 _ g9=>?_;exact Xb (S.trans (s2.trans (s3.trans (s4.trans (s5.trans (s6.trans (s7.trans (s8.trans s9)))))))) g9 (by decide) q
end
noncomputable abbrev Xe:List Str:=["cell","rows","wide","turned_ones","alone"]
theorem jI:cY ["cell","rows","wide","turned_ones","alone"] ["cell"] (bp qF):=dE rfl rfl rfl (by decide +kernel) rfl
theorem KA:(["rule","said"]:List Str).Nodup:=by decide +kernel
theorem Xf:(["side"]:List Str).Nodup:=by decide +kernel
def KC(K:Frag):Sp:=λvs H Q _=>∃c:Int,vs=[.int c]∧∀l2 zs aH H',aJ H H'→H' l2=some (.lst zs)→dJ K H' zs aH→aH.length≤50→(∀p,∀kv∈aH,ri p H' kv)→Q (.ref l2) H'
theorem Xg(F:cL K "_law_plain_rules" "_law_plain_rules" qF f fd)(T:Txt mg):bN P w K mg base bO 1 f fd ["cell"] (KC K):=by
 refine F.ok jI (λvs H Q E h=>?_) (λcj A outer s H vs Q E hr h=>?_)
 ·obtain⟨c,rfl,_⟩:=h;rfl
 ·obtain⟨c,rfl,q⟩:=h;refine⟨zT K,?_,Xd q⟩;unfold zT kN tT;refine ba ?_ ?_
  ·refine bw (i:=1) ?_ ?_ ?_ ?_ ?_ ?_
   ·exact jI.nd
   ·rfl
   ·exact Or.inl rfl
   ·exact bc (aG (eJ (aG aW (aG aW aK))) (aG (eJ (aG aW (aG aW aK))) aK))
   ·rfl
   ·exact .inl rfl
  refine ba ?_ ?_
  ·exact bw (i:=1) jI.nd rfl (.inl rfl) (aU bV (pv 1) (bc (aG (eJ (aG aW (aG aW aK))) aK)))
  refine ba ?_ ?_
  ·exact bw (i:=1) jI.nd rfl (.inl rfl) (aU bV (pv 1) (bc (aG (eJ (aG aW (aG aW aK))) (aG (eJ (aG aW (aG aW aK))) aK))))
  refine ba ?_ ?_
  ·exact bw (i:=1) jI.nd rfl (.inl rfl) (aU bV (pv 1) (bc (aG (eJ (aG aW (aG aW aK))) aK)))
  refine ba ?_ ?_
  ·exact bw (i:=1) jI.nd rfl (.inl rfl) (aU bV (pv 1) (bc (aG (eJ (aG aW (aG aW aK))) aK)))
  refine ba ?_ ?_
  ·exact bw (i:=1) jI.nd rfl (.inl rfl) (aU bV (pv 1) (bc (aG (eJ (aG aW (aG aW aK))) aK)))
  refine ba ?_ ?_
  ·exact bw (i:=1) jI.nd rfl (.inl rfl) (aU bV (pv 1) (bc (aG (eJ (aG aW (aG aW aK))) aK)))
  refine ba ?_ ?_
  ·exact bw (i:=2) jI.nd rfl (.inl rfl) aW
  refine ba ?_ ?_
  ·exact bw (i:=1) jI.nd rfl (.inl rfl) (aU bV (pv 1) (bc (aG (eJ (aG aW (aG (aU Nh aW (pv 2)) aK))) (aG (eJ (aG aW (aG aW aK))) aK))))
  refine ba ?_ ?_
  ·exact bw (i:=1) jI.nd rfl (.inl rfl) (aU bV (pv 1) (bc (aG (eJ (aG aW (aG aW aK))) (aG (eJ (aG aW (aG aW aK))) aK))))
  unfold zS kN tT;refine ba ?_ ?_
  ·exact bw (i:=3) jI.nd rfl (.inl rfl) (bc (aG aW (aG aW (aG aW aK))))
  refine ba ?_ ?_
  ·exact bw (i:=1) jI.nd rfl (.inl rfl) (aU bV (pv 1) (bc (aG (eJ (aG aW (aG aW aK))) (aG (eJ (aG aW (aG (bZ (cH K rfl) (pv 3) (aU eC (pv 0) aY) (λ_ _=>rfl)) aK))) aK))))
  refine ba ?_ ?_
  ·exact bw (i:=4) jI.nd rfl (.inl rfl) (bc (aG aW (aG aW (aG aW aK))))
  refine ba ?_ ?_
  ·exact jS (iP ke nN nO lC (pv 1) (aG (eJ (aG aW (aG (bZ (cH K rfl) (pv 4) (aU eC (aU jT (pv 0) aY) aY) (λ_ _=>rfl)) aK))) aK))
  refine bj ?_;refine cA ?_;unfold Dv;refine mV (N:=["rule","said"]) (own:=2) (caps:=[]) rfl ?_ ?_ ?_ ?_ ?_
  ·exact gg K rfl (pv 1)
  ·exact(show eZ Xe (bp qF) ["rule","said"] 2 [] _ from .mk' (by decide +kernel))
  ·exact λ_ _ _ _ _=>Gi (n:=2) K rfl rfl (eh (cB (i:=0) KA rfl (.inl rfl)) (eh (cB (i:=1) KA rfl (.inl rfl)) kZ))
  ·exact λ_ _ _ _ _=>jw
  ·intro _ _ _ _ _;refine eJ ?_;refine aG ?_ ?_ ?_
   ·exact pv 0
   ·refine aG ?_ ?_ ?_
    ·unfold Du Dt;refine mV (N:=["side"]) (own:=1) (caps:=[]) rfl ?_ ?_ ?_ ?_ ?_
     ·exact gg K rfl (iP PySem.F.plainAttrs_str PySem.F.slot_str_split PySem.F.type_str_split yv (pv 1) (aG aW aK))
     ·exact(show eZ ["rule","said"] { kind:=.function,names:=[(Str.ofString ".0",.local),(Str.ofString "rule",.local),(Str.ofString "said",.local)],isGenerator:=false,isCoroutine:=false } ["side"] 1 [] _ from .mk' (by decide +kernel))
     ·exact λ_ _ _ _ _=>cB (i:=0) Xf rfl (.inl rfl)
     ·exact λ_ _ _ _ _=>jw
     ·exact λ_ _ _ _ _=>iP PySem.F.plainAttrs_str PySem.F.slot_str_split PySem.F.type_str_split yv (pv 0) (aG aW aK)
    ·exact aK
    ·rfl
   ·rfl
noncomputable def i0:Nat→D1.Dr→D1.Dr
 |0,Z=>Z
 |n+1,Z=>.back (i0 n Z)
theorem uC:∀(n:Nat)(Z:D1.Dr),(i0 n Z).aE=List.replicate n (.w "back")++Z.aE
 |0,_=>rfl
 |n+1,Z=>by
  show D1.Wd.w "back"::(i0 n Z).aE=_;rw[uC n Z,uE];rfl
theorem zU{p:Int}:∀{n:Nat}{Z:D1.Dr},(cw Z).ok p→(cw (i0 n Z)).ok p
 |0,_,h=>h
 |n+1,_,h=>zU (n:=n) h
theorem At.i0{d:Dw}:∀{n i:Nat}{Z:D1.Dr},At d i (cw (i0 n Z))→At d (i+n) (cw Z)
 |0,_,_,h=>h
 |n+1,i,Z,h=>by
  have:=At.i0 (n:=n) (At.back h)
  rwa[show i+1+n=i+(n+1) by lia]at this
structure SI(p:Int)(X:D1.Dr)(C:D1.Dr→D1.Dr)(pre post:List D1.Wd):Prop where
 ws:∀Z,(C Z).aE=pre++Z.aE++post
 ok:∀Z,(cw Z).ok p→(cw (C Z)).ok p
 at':∀Z,At (cw (C Z)) pre.length (cw Z)
 po:post.length≤2
 pr:pre.length≤4∨∃m,pre=List.replicate (m+2) (.w "back")∧post=[]∧C=i0 (m+2)∧m+2+X.aE.length=80
section
variable{p:Int}{X:D1.Dr}
theorem Xh:SI p X (λZ=>Z) [] []:=⟨λZ=>by rw[gJ];rfl,λ_ h=>h,λ_=>At.here,by decide,.inl (by decide)⟩
theorem Xi:SI p X .back [.w "back"] []:=⟨λZ=>by rw[gJ];rfl,λ_ h=>h,λ_=>At.back At.here,by decide,.inl (by decide)⟩
theorem Xj:SI p X (λZ=>.back (.back Z)) [.w "back",.w "back"] []:=⟨λZ=>by rw[gJ];rfl,λ_ h=>h,λ_=>At.back (At.back At.here),by decide,.inl (by decide)⟩
theorem Xk:SI p X (.bf .copy) [.w "beside",.w "copy"] []:=⟨λZ=>by rw[gJ];rfl,λ_ h=>⟨gT (d:=.copy) True.intro,h⟩,λ_=>At.snd At.here,by decide,.inl (by decide)⟩
theorem Xl:SI p X (.bf (.back .add)) [.w "beside",.w "back",.w "add"] []:=⟨λZ=>by rw[gJ];rfl,λ_ h=>⟨gT (d:=.back .add) True.intro,h⟩,λ_=>At.snd At.here,by decide,.inl (by decide)⟩
theorem Xm{n:Int}(h0:0≤n)(h1:n<p):SI p X (λZ=>.bf Z (.times n)) [.w "beside"] [.w "times",.n n]:=⟨λZ=>rfl,λ_ h=>⟨h,⟨h0,h1⟩⟩,λ_=>At.fst At.here,bH _,.inl (by decide)⟩
theorem Xn:SI p X (.aM (.bf .none .id)) [.w "then",.w "beside",.w "none",.w "id"] []:=⟨λZ=>by rw[gJ];rfl,λ_ h=>⟨gT (d:=.bf .none .id) ⟨True.intro,True.intro⟩,h⟩,λ_=>At.Tc At.here,by decide,.inl (by decide)⟩
theorem Xo(h2:2≤n)(h:n+X.aE.length=80):SI p X (i0 n) (List.replicate n (.w "back")) []:=by
 refine⟨λZ=>by rw[gJ];exact uC n Z,λ_ h=>zU h,λZ=>?_,by decide,.inr ⟨n-2,by rw[show n-2+2=n by lia],rfl,by rw[show n-2+2=n by lia],by lia⟩⟩;rw[eA]
 have:=At.i0 (n:=n) (i:=0) (Z:=Z) At.here
 rwa[oM]at this
end
def iz(H:Hp)(vs:List V)(jn:List (List D1.Wd)):Prop:=vs.length=jn.length∧∀(i:Nat)(v:V)(ws:List D1.Wd),vs[i]?=some v→jn[i]?=some ws→∃b,v=.ref b∧H b=some (.lst (ws.map bY))
def xa(ta:TA)(σ:St)(H:Hp)(jn:List (List D1.Wd)):Prop:=∀H',aJ H H'→∀Q:List V→Hp→Prop,(∀vs di,aJ H' di→iz di vs jn→Q vs di)→ta σ H' Q
section
variable{σ:St}{H:Hp}
theorem iz.mono{H':Hp}{vs:List V}(h:iz H vs jn)(s:aJ H H'):iz H' vs jn:=⟨h.1,λi v ws e1 e2=>let ⟨b,e,g⟩:=h.2 i v ws e1 e2;⟨b,e,s _ _ g⟩⟩
theorem iz.cons{b:Addr}{vs:List V}(g:H b=some (.lst (ws.map bY)))(h:iz H vs jn):iz H (.ref b::vs) (ws::jn):=⟨by rw[cu,cu,h.1],λi v us e1 e2=>by
 cases i with
 |zero=>cases e1;cases e2;exact⟨b,rfl,g⟩
 |succ i=>exact h.2 i v us e1 e2⟩
theorem iz.app:∀{vs us:List V}{jn Dx:List (List D1.Wd)},iz H vs jn→iz H us Dx→iz H (vs++us) (jn++Dx)
 | [],_,[],_,_,k=>k
 | [],_,_::_,_,h,_=>nomatch h.1
 |_::_,_,[],_,h,_=>nomatch h.1
 |v::vs,us,ws::jn,Dx,h,k=>by
  obtain⟨b,rfl,g⟩:=h.2 0 v ws rfl rfl;exact iz.cons g (iz.app ⟨Nat.succ.inj h.1,λi v ws e1 e2=>h.2 (i+1) v ws e1 e2⟩ k)
theorem KD:xa aV σ H []:=λH' _ _ q=>q [] H' (.refl _) ⟨rfl,λi v d e=>by cases e⟩
theorem rl{te:TE}(h:iZ te σ H ws)(k:xa ta σ H jn):xa (aI te ta) σ H (ws::jn):=λH' s Q q=>
 h H' s _ λa H1 s1 ga=>k H1 (s.trans s1) _ λvs H2 s2 hv=>q _ H2 (s1.trans s2) (iz.cons (s2 _ _ ga) hv)
end
def Dy(K:Frag):TE:=aT (ff K) (aL 1) (tC (.int 0))
def Xp(K:Frag):TE:=aT xN (bg (aI (tS "back") aV)) (aT (dX λi j=>.int (i-j)) (tC (.int 80)) (jV (C6 K) (aI (Dy K) aV)))
def Dz:TA:=aI (bg aV) (aI (bg (aI (tS "back") aV)) (aI (bg (aI (tS "beside") (aI (tS "copy") aV))) (aI (bg (aI (tS "beside") (aI (tS "back") (aI (tS "add") aV)))) (aI (bg (aI (tS "beside") aV)) aV))))
def DA(K:Frag):TA:=aI (bg (aI (tS "then") (aI (tS "beside") (aI (tS "none") (aI (tS "id") aV))))) (aI (Xp K) aV)
def KG(K:Frag):TE:=n9 (qc K (aL 1)) 1 [6,5] (bo 0) mK (aT cc (aT cc (aL 2) (aL 0)) (aL 1))
def zV(K:Frag):TE:=aT cc (KG K) (bg (aI (jV (C6 K) (aI (aL 5) aV)) aV))
def DB(K:Frag)(E:XK):TS:=bu (dQ (oR (eU (aT iN (aL 3) (tC (.int 5)))) (eU (aT AD (aT (ff K) (fw (wk K) [] E (aI (aL 0) (aI (Dy K) aV))) (tC (.int 0))) (tC (.int 2))))) (cx (bg (aI (tS "back") (aI (tS "back") aV))) (bo 5)) gk)
 (bu (cx (bg aV) (bo 6)) (bu (dQ (eU (aT iN (aL 3) (tC (.int 4)))) (cx (bg (aI (tS "times") (aI (aT ik (aT rh (aL 2) (tC (.int 6))) (aL 0)) aV))) (bo 6)) gk) (ft (zV K))))
def zW(K:Frag)(E:XK):TS:=bu (cx (aT ik (aL 2) (tC (.int 7))) (bo 3))
 (bu (cx (bg Dz) (bo 4)) (bu (cx (aT cc (aL 4) (bg (DA K))) (bo 4)) (bu (cx (aT (ff K) (aL 4) (aL 3)) (bo 5)) (DB K E))))
noncomputable abbrev Xq:List Str:=["p","pair","cell","way","some","ahead","after"]
theorem pU:cY ["p","pair","cell","way","some","ahead","after"] ["p","pair","cell"] (bp qG):=dE rfl rfl rfl (by decide +kernel) rfl
theorem Xr:(["side","after","ahead"]:List Str).Nodup:=by decide +kernel
def uD(p:Int)(X Y:D1.Dr)(H:Hp)(Q:VK):Prop:=∀t b d C pre post H',aJ H H'→H' t=some (.lst [.ref b,.ref d,.int ((pre.length:Nat):Int)])→H' b=some (.lst ((pre++X.aE++post).map bY))→H' d=some (.lst ((pre++Y.aE++post).map bY))→SI p X C pre post→Q (.ref t) H'
def KH(_K:Frag):Sp:=λvs H Q _=>∃(p c:Int)(v:V)(X Y:D1.Dr),vs=[.int p,v,.int c]∧p∈cK∧kq H v X Y∧X.wf p∧X.bD 64∧X.aE.length≤60∧Y.aE.length≤60∧uD p X Y H Q
theorem KI{a6:Addr}{C:D1.Dr→D1.Dr}{pre post:List D1.Wd}{Q:VK}(h1:σ[1]?=some (some (.ref pr)))(h5:σ[5]?=some (some (.ref a5)))(h6:σ[6]?=some (some (.ref a6)))(g:H pr=some (.lst [.ref u,.ref w5]))(gX:WL H u X)(gY:WL H w5 Y)
  (g5:H a5=some (.lst (pre.map bY))) (g6:H a6=some (.lst (post.map bY))) (hS:SI p X C pre post) (lX:X.aE.length≤60) (lY:Y.aE.length≤60) (q:uD p X Y H Q):zV K σ H Q:=by
 have z:(1000:Nat)≤sizeLine:=by decide
 have Xs:=hS.po;have ug:pre.length≤80:=by
  rcases hS.pr with h|⟨m,e,_,_,h⟩
  ·lia
  ·rw[e,eA];lia
 have eb:mH 1 [6,5] σ=List.replicate 1 none++[some (.ref a6),some (.ref a5)]:=by
  simp[mH,h5,h6]
 refine wQ ⟨_,h1,pr,rfl,⟨_,.of g⟩,?_⟩;rw[eb];have one:∀{H1:Hp}{d:D1.Dr}{b:Addr}{R:VK},aJ H H1→WL H1 b d→d.aE.length≤60→(∀l H2,aJ H1 H2→H2 l=some (.lst ((pre++d.aE++post).map bY))→R (.ref l) H2)→aT cc (aT cc (aL 2) (aL 0)) (aL 1) [some (.ref b),some (.ref a6),some (.ref a5)] H1 R:=λ{H1 d b R} s gb lb k=>
  de (de (dj rfl (s _ _ g5)) (dj rfl gb) (by lia)) (dj rfl (s _ _ g6)) (by rw[bh];lia) H1 (.refl _) R k
 refine mX (cp:=[some (.ref a6),some (.ref a5)]) (λi H' zs=>iz H' zs ([pre++X.aE++post,pre++Y.aE++post].take i)) (.of g) (by show 2≤sizeLine;lia) ⟨rfl,λi v d e=>by cases e⟩ (λi H' zs h=>by rw[h.1];exact nP _ _) ?_ ?_
 ·rintro i x H' zs hx sm pv
  match i,hx with
  |0,hx=>
   cases hx;refine ki (one sm (sm _ _ gX) lX λl H2 s2 gl=>⟨⟨[_],rfl,rfl⟩,sm.trans s2,?_⟩);exact(pv.mono s2).app (iz.cons gl ⟨rfl,λi v d e=>by cases e⟩)
  |1,hx=>
   cases hx;refine ki (one sm (sm _ _ gY) lY λl H2 s2 gl=>⟨⟨[_],rfl,rfl⟩,sm.trans s2,?_⟩);exact(pv.mono s2).app (iz.cons gl ⟨rfl,λi v d e=>by cases e⟩)
  |i+2,hx=>cases hx
 ·rintro H' zs sm pv l hl;have gI:iz H' zs [pre++X.aE++post,pre++Y.aE++post]:=pv
  match zs,gI with
  | [v1,v2],gI=>
   obtain⟨b,rfl,hb⟩:=gI.2 0 v1 _ rfl rfl;obtain⟨d,rfl,hd⟩:=gI.2 1 v2 _ rfl rfl;have s1:=sm.trans (aJ.upd (o:=.lst [.ref b,.ref d]) hl);refine⟨_,h5,a5,_,rfl,.inl (.of (s1 _ _ g5)),by show 1≤sizeLine;lia,λl2 h2=>⟨l,l2,_,_,rfl,rfl,aJ.upd h2 _ _ aZ,aZ,by show 3≤sizeLine;lia,λt ht=>?_⟩⟩;have s2:=(aJ.upd (o:=.lst [.ref b,.ref d]) hl).trans ((aJ.upd (o:=.lst [.int (((pre.map bY).length:Nat):Int)]) h2).trans (aJ.upd (o:=.lst ([.ref b,.ref d]++[.int (((pre.map bY).length:Nat):Int)])) ht));refine q t b d C pre post _ (sm.trans s2) ?_ (s2 _ _ hb) (s2 _ _ hd) hS;rw[aZ,br];rfl
  | [],gI=>cases gI.1
  | [_],gI=>cases gI.1
  |_::_::_::_,gI=>cases gI.1
def rn(K:Frag):TS:=bu (cx (bg aV) (bo 6))
 (bu (dQ (eU (aT iN (aL 3) (tC (.int 4)))) (cx (bg (aI (tS "times") (aI (aT ik (aT rh (aL 2) (tC (.int 6))) (aL 0)) aV))) (bo 6)) gk) (ft (zV K)))
theorem ro{j:Int}{C:D1.Dr→D1.Dr}{pre:List D1.Wd}(hj:j≠4)(g:H pr=some (.lst [.ref u,.ref w5]))(gX:WL H u X)(gY:WL H w5 Y)(g5:H a5=some (.lst (pre.map bY)))(hS:SI p X C pre [])(lX:X.aE.length≤60)(lY:Y.aE.length≤60)
  (q:uD p X Y H D.rt):rn K D [some (.int p),some (.ref pr),some (.int c),some (.int j),s4,some (.ref a5),none] H:=by
 unfold rn;refine dr ⟨by decide,λa6 h6=>?_⟩;refine⟨_,rfl,rfl,_,rfl,?_⟩;rw[show decide (V.int j=V.int 4)=false from ae λz=>hj (V.int.inj z)]
 refine cW ?_;have s6:=aJ.upd (o:=.lst []) h6;exact KI (C:=C) (post:=[]) rfl rfl rfl (s6 _ _ g) (s6 _ _ gX) (s6 _ _ gY) (s6 _ _ g5) aZ hS lX lY λt b d C' oI oJ H' s'=>q t b d C' oI oJ H' (s6.trans s')
theorem Xt(p0:0<p)(g:H pr=some (.lst [.ref u,.ref w5]))(gX:WL H u X)(gY:WL H w5 Y)(g5:H a5=some (.lst ([D1.Wd.w "beside"].map bY)))(lX:X.aE.length≤60)(lY:Y.aE.length≤60)
  (q:uD p X Y H D.rt):rn K D [some (.int p),some (.ref pr),some (.int c),some (.int 4),s4,some (.ref a5),none] H:=by
 unfold rn;refine dr ⟨by decide,λa6 h6=>?_⟩;refine⟨_,rfl,rfl,_,rfl,?_⟩;rw[show decide (V.int 4=V.int 4)=true from ax rfl]
 refine eP ⟨_,rfl,c,6,rfl,rfl,⟨by decide,by decide⟩,_,rfl,c/6,p,rfl,rfl,p0,by show 2≤sizeLine;decide,λa7 h7=>?_⟩;have s6:=(aJ.upd (o:=.lst []) h6).trans (aJ.upd (o:=.lst [.str (Str.ofString "times"),.int (c/6%p)]) h7);exact KI (C:=λZ=>.bf Z (.times (c/6%p))) (post:=[.w "times",.n (c/6%p)]) rfl rfl rfl (s6 _ _ g) (s6 _ _ gX) (s6 _ _ gY) (s6 _ _ g5) aZ (Xm (i6 _ (by lia)) (i7 _ p0)) lX lY λt b d C' oI oJ H' s'=>q t b d C' oI oJ H' (s6.trans s')
noncomputable def KJ(n:Nat):List (List D1.Wd):=[[],[.w "back"],[.w "beside",.w "copy"],[.w "beside",.w "back",.w "add"],[.w "beside"]]++[[.w "then",.w "beside",.w "none",.w "id"],List.replicate n (.w "back")]
theorem Xu:xa Dz σ H [[],[.w "back"],[.w "beside",.w "copy"],[.w "beside",.w "back",.w "add"],[.w "beside"]]:=
 rl (cN cM (by decide)) (rl (cN (bX cM) (by decide)) (rl (cN (bX (bX cM)) (by decide)) (rl (cN (bX (bX (bX cM))) (by decide)) (rl (cN (bX cM) (by decide)) KD))))
theorem Xv(h1:σ[1]?=some (some (.ref pr)))(g:H pr=some (.lst [.ref u,.ref w5]))(gX:WL H u X)(lX:X.aE.length≤60):xa (DA K) σ H [[.w "then",.w "beside",.w "none",.w "id"],List.replicate (80-X.aE.length) (.w "back")]:=by
 refine rl (cN (bX (bX (bX (bX cM)))) (by decide)) (rl (λH' s R q=>?_) KD);refine wQ ⟨by show 1≤sizeLine;decide,λl hl=>?_⟩;have s1:=s.trans (aJ.upd (o:=.lst [.str (Str.ofString "back")]) hl);have z:(1000:Nat)≤sizeLine:=by decide
 refine⟨_,h1,pr,_,0,.ref u,rfl,rfl,.of (s1 _ _ g),cb (j:=0) rfl,u,_,rfl,.inl (.of (s1 _ _ gX)),80,_,rfl,rfl,l,_,_,rfl,rfl,aZ,?_,?_,?_,λc hc=>?_⟩
 ·rw[br];lia
 ·rw[br];lia
 ·rw[br];show 1*_≤sizeLine;lia
 ·refine q c _ ((aJ.upd hl).trans (.upd hc)) ?_;rw[aZ,yM,br,show((80:Int)-(X.aE.length:Int)).toNat=80-X.aE.length by lia,List.map_replicate];rfl
theorem Xw{j:Nat}(pp:p∈cK)(hj:(KJ (80-X.aE.length))[j]?=some ws)(g:H pr=some (.lst [.ref u,.ref w5]))(gX:WL H u X)(gY:WL H w5 Y)(g5:H a5=some (.lst (ws.map bY)))(wf:X.wf p)(nr:X.bD 64)(lX:X.aE.length≤60)(lY:Y.aE.length≤60)
  (q:uD p X Y H D.rt):DB K E D [some (.int p),some (.ref pr),some (.int c),some (.int (j:Int)),s4,some (.ref a5),none] H:=by
 have p0:0<p:=by have:=(fK p pp).1;lia
 show bu _ (rn K) D _ H;have nt:∀(k:Nat),k≠5→rn K D [some (.int p),some (.ref pr),some (.int c),some (.int (k:Int)),s4,some (.ref a5),none] H→bu (dQ (oR (eU (aT iN (aL 3) (tC (.int 5)))) (eU (aT AD (aT (ff K) (fw (wk K) [] E (aI (aL 0) (aI (Dy K) aV))) (tC (.int 0))) (tC (.int 2))))) (cx (bg (aI (tS "back") (aI (tS "back") aV))) (bo 5)) gk) (rn K) D [some (.int p),some (.ref pr),some (.int c),some (.int (k:Int)),s4,some (.ref a5),none] H:=λk hk h=>by
  refine⟨_,rfl,rfl,_,rfl,?_⟩;rw[show decide (V.int (k:Int)=V.int 5)=false from ae λz=>hk (by have:=V.int.inj z;lia)]
  exact cW (cW h)
 match j,hj with
 |0,hj=>cases hj;exact nt 0 (by decide) (ro (by decide) g gX gY g5 Xh lX lY q)
 |1,hj=>cases hj;exact nt 1 (by decide) (ro (by decide) g gX gY g5 Xi lX lY q)
 |2,hj=>cases hj;exact nt 2 (by decide) (ro (by decide) g gX gY g5 Xk lX lY q)
 |3,hj=>cases hj;exact nt 3 (by decide) (ro (by decide) g gX gY g5 Xl lX lY q)
 |4,hj=>cases hj;exact nt 4 (by decide) (Xt p0 g gX gY g5 lX lY q)
 |5,hj=>
  cases hj;refine⟨_,rfl,rfl,_,rfl,?_⟩;rw[show decide (V.int ((5:Nat):Int)=V.int 5)=true from ax rfl]
  refine eP ⟨_,rfl,_,rfl,pr,_,0,.ref u,rfl,rfl,.of g,cb (j:=0) rfl,p,u,X,rfl,pp,gX,wf,nr,by lia,λt H' b TS s1 g1 _ _=>?_⟩;refine⟨t,_,0,_,rfl,rfl,.of g1,cb (j:=0) rfl,rfl,_,rfl,vx (λ_=>?_) (λ_=>?_)⟩
  ·refine⟨by show 2≤sizeLine;decide,λa7 h7=>?_⟩;have s7:=s1.trans (aJ.upd (o:=.lst [.str (Str.ofString "back"),.str (Str.ofString "back")]) h7);exact ro (C:=λZ=>.back (.back Z)) (pre:=[.w "back",.w "back"]) (by decide) (s7 _ _ g) (s7 _ _ gX) (s7 _ _ gY) aZ Xj lX lY λt b d C' oI oJ H' s'=>q t b d C' oI oJ H' (s7.trans s')
  ·exact ro (by decide) (s1 _ _ g) (s1 _ _ gX) (s1 _ _ gY) (s1 _ _ g5) Xn lX lY λt b d C' oI oJ H' s'=>q t b d C' oI oJ H' (s1.trans s')
 |6,hj=>cases hj;exact nt 6 (by decide) (ro (by decide) g gX gY g5 (Xo (by lia) (by lia)) lX lY q)
 |j+7,hj=>cases hj
theorem Xx{v:V}(pp:p∈cK)(hv:kq H v X Y)(wf:X.wf p)(nr:X.bD 64)(lX:X.aE.length≤60)(lY:Y.aE.length≤60)(q:uD p X Y H D.rt):zW K E D [some (.int p),some v,some (.int c),none,none,none,none] H:=by
 obtain⟨pr,u,w5,rfl,g,gX,gY⟩:=hv;have z:(1000:Nat)≤sizeLine:=by decide
 unfold zW;refine dr ⟨_,rfl,c,7,rfl,rfl,(by decide:(0:Int)<7),?_⟩;refine dr (lstK (Xu H (.refl _) _ λvs H1 s1 hv=>⟨by rw[hv.1];show 5≤sizeLine;lia,λl hl=>?_⟩));have s2:=s1.trans (aJ.upd (o:=.lst vs) hl);have nj:=hv.mono (aJ.upd (o:=.lst vs) hl);have gl:(upd H1 l (.lst vs)) l=some (.lst vs):=aZ;clear hv;generalize upd H1 l (.lst vs)=H2 at s2 nj gl ⊢;refine dr (wQ ⟨_,rfl,lstK (Xv (K:=K) rfl (s2 _ _ g) (s2 _ _ gX) lX H2 (.refl _) _ λus H3 s3 hu=>⟨by rw[hu.1];show 2≤sizeLine;lia,λl2 o9=>?_⟩)⟩);refine⟨l,l2,vs,us,rfl,rfl,aJ.upd o9 _ _ (s3 _ _ gl),aZ,by rw[nj.1,hu.1];show 5+2≤sizeLine;lia,λl3 KL=>?_⟩;have s4:=(aJ.upd (o:=.lst us) o9).trans (aJ.upd (o:=.lst (vs++us)) KL);have hw:=((nj.mono s3).app hu).mono s4;have S:=s2.trans (s3.trans s4);have g3:(upd (upd H3 l2 (.lst us)) l3 (.lst (vs++us))) l3=some (.lst (vs++us)):=aZ;clear KL o9 hu nj;generalize upd (upd H3 l2 (.lst us)) l3 (.lst (vs++us))=H4 at S hw g3 ⊢;obtain⟨j,ws,hj,ej⟩:=zN (xs:=KJ (80-X.aE.length)) (n:=7) rfl (by decide) c;obtain⟨x,hx⟩:∃x,(vs++us)[j]?=some x:=⟨_,cg (by rw[hw.1];exact(dB.mp hj).1)⟩;obtain⟨a5,rfl,g5⟩:=hw.2 j x ws hx hj;dsimp only;rw[show(c%7:Int)=(j:Int) from ej]
 refine dr ⟨_,rfl,_,rfl,l3,_,_,.ref a5,rfl,rfl,.of g3,cb hx,?_⟩;exact Xw pp hj (S _ _ g) (S _ _ gX) (S _ _ gY) g5 wf nr lX lY λt b d C' oI oJ H' s'=>q t b d C' oI oJ H' (S.trans s')
theorem Xy{fM:Addr}{fO:FuncData}(F:cL K "_law_set_in" "_law_set_in" qG f fd)(T:Txt mg)
  (GM:bN P w K mg base bO 4 fM fO ["p","words"] (wk K)) (kM:Kp K fM) (bM:Binds K fO ["p","words"] []) (mM:Mg mg "_law_meaning" fM):bN P w K mg base bO 5 f fd ["p","pair","cell"] (KH K):=by
 refine F.ok pU (λvs H Q E h=>?_) (λcj A outer s H vs Q E hr h=>?_)
 ·obtain⟨p,c,v,X,Y,rfl,_⟩:=h;rfl
 ·obtain⟨p,c,v,X,Y,rfl,pp,hv,wf,nr,lX,lY,q⟩:=h;refine⟨zW K E,?_,Xx pp hv wf nr lX lY q⟩;unfold zW;refine ba ?_ ?_
  ·exact bw (i:=3) pU.nd rfl (.inl rfl) (aU eC (pv 2) aY)
  refine ba ?_ ?_
  ·refine bw (i:=4) ?_ ?_ ?_ ?_ ?_ ?_
   ·exact pU.nd
   ·rfl
   ·exact Or.inl rfl
   ·refine bc ?_;unfold Dz;refine aG ?_ ?_ ?_
    ·exact bc aK
    rotate_left
    ·rfl
    refine aG ?_ ?_ ?_
    ·exact bc (aG aW aK)
    rotate_left
    ·rfl
    refine aG ?_ ?_ ?_
    ·exact bc (aG aW (aG aW aK))
    rotate_left
    ·rfl
    refine aG ?_ ?_ ?_
    ·exact bc (aG aW (aG aW (aG aW aK)))
    rotate_left
    ·rfl
    refine aG ?_ ?_ ?_
    ·exact bc (aG aW aK)
    ·exact aK
    ·rfl
   ·rfl
   ·exact .inl rfl
  refine ba ?_ ?_
  ·refine bw (i:=4) ?_ ?_ ?_ ?_ ?_ ?_
   ·exact pU.nd
   ·rfl
   ·exact Or.inl rfl
   ·refine aU bV (pv 4) ?_;refine bc ?_;unfold DA;refine aG ?_ ?_ ?_
    ·exact bc (aG aW (aG aW (aG aW (aG aW aK))))
    rotate_left
    ·rfl
    refine aG ?_ ?_ ?_
    ·exact aU lD (bc (aG aW aK)) (aU iM aY (gp (og K rfl) rfl T.len oh (aG (bZ (cH K rfl) (pv 1) aY (λ_ _=>rfl)) aK)))
    ·exact aK
    ·rfl
   ·rfl
   ·exact .inl rfl
  refine ba ?_ ?_
  ·exact bw (i:=5) pU.nd rfl (Or.inr rfl) (bZ (cH K rfl) (pv 4) (pv 3) (λ_ _=>rfl))
  unfold DB;refine ba ?_ ?_
  ·refine cS (PW.pt (oS ?_ (qa ?_))) ?_ ?_
   ·exact cE dZ (pv 3) aY (cD _)
   ·exact cE xD (bZ (cH K rfl) (cO GM hr rfl mM kM bM .nil cP (aG (pv 0) (aG (bZ (cH K rfl) (pv 1) aY (λ_ _=>rfl)) aK))) aY (λ_ _=>rfl)) aY (cD _)
   ·exact bj (bw (i:=5) pU.nd rfl (Or.inr rfl) (bc (aG aW (aG aW aK))))
   ·exact dW
  refine ba ?_ ?_
  ·exact bw (i:=6) pU.nd rfl (Or.inr rfl) (bc aK)
  refine ba ?_ ?_
  ·refine cS ?_ ?_ ?_
   ·exact cE dZ (pv 3) aY (cD _)
   ·exact bj (bw (i:=6) pU.nd rfl (Or.inr rfl) (bc (aG aW (aG (aU eC (aU jT (pv 2) aY) (pv 0)) aK))))
   ·exact dW
  refine bj ?_;refine cA ?_;unfold zV KG;refine aU bV ?_ ?_
  ·refine mV (N:=["side","after","ahead"]) (own:=1) (caps:=[6,5]) rfl ?_ ?_ ?_ ?_ ?_
   ·exact gg K rfl (pv 1)
   ·exact(show eZ Xq (bp qG) ["side","after","ahead"] 1 [6,5] _ from .mk' (by decide +kernel))
   ·exact λ_ _ _ _ _=>cB (i:=0) Xr rfl (.inl rfl)
   ·exact λ_ _ _ _ _=>jw
   ·exact λ_ _ _ _ _=>aU bV (aU bV (pv 2) (pv 0)) (pv 1)
  ·exact bc (aG (gp (og K rfl) rfl T.len oh (aG (pv 5) aK)) aK)
end S21
namespace L2
open PySem PySem.Spec PyProof.Rows PySem.W
def Xz(K:Frag)(ta:TE):TE:=λσ H Q=>ta σ H λx H1=>∃d aH,x=.ref d∧H1 d=some (.dK aH)∧∀l zs H2,aJ H1 H2→H2 l=some (.lst zs)→dJ K H2 zs aH→Q (.ref l) H2
theorem dJ.cons{K:Frag}{H:Hp}{zs:List V}{aH:List (Key×V)}{t:Addr}{kv:Key×V}(g:bQ K H t [kV kv.1,kv.2])(h:dJ K H zs aH):dJ K H (.ref t::zs) (kv::aH):=
 ⟨by rw[cu,cu,h.1],λi x q e1 e2=>by
  cases i with
  |zero=>cases e1;cases e2;exact⟨t,rfl,g⟩
  |succ i=>exact h.2 i x q e1 e2⟩
section
variable{X:Cx}{aF:List (Addr×Obj)}{σ:St}{s:Shared}
theorem KN:∀(as:List Addr)(aH:List (Key×V))(H:Hp),as.length=aH.length→Inv X aF σ H s→as.Pairwise (· < ·)→(∀a∈as,iC X aF H a)→
  (∀(j:Nat)(a:Addr)(kv:Key×V),as[j]?=some a→aH[j]?=some kv→∃key u,RelV (kV kv.1) key∧RelV kv.2 u∧s.heap.get? a=some { cls:=.type "tuple",data:=.seq #[key,u] })→
  ∃H',Inv X aF σ H' s∧aJ H H'∧dJ X.K H' (as.map V.ref) aH∧∀b,b ∉ as→H' b=H b
 | [],[],H,_,I,_,_,_=>⟨H,I,.refl _,.nil,λ_ _=>rfl⟩
 | [],_::_,_,h,_,_,_,_=>nomatch h
 |_::_,[],_,h,_,_,_,_=>nomatch h
 |a::as,kv::aH,H,hl,I,hp,hf,hv=>by
  obtain⟨key,u,r1,r2,g⟩:=hv 0 a kv rfl rfl;have fa:=hf a dv;have vb:=List.pairwise_cons.mp hp;have I1:=I.Be (o:=.tup [kV kv.1,kv.2]) fa ⟨by show 2≤sizeLine;decide,[key,u],.cons r1 (.cons r2 .nil),⟨_,g,rfl,rfl,0,rfl⟩⟩;obtain⟨H',I',s',P',k'⟩:=KN as aH _ (Nat.succ.inj hl) I1 vb.2 (λb hb=>⟨by rw[cC (Nat.ne_of_gt (vb.1 b hb))];exact(hf b (eR _ hb)).1,(hf b (eR _ hb)).2⟩) λj b q e1 e2=>hv (j+1) b q e1 e2;refine⟨H',I',(aJ.upd fa.1).trans s',.cons (s'.cG (.of aZ)) P',λb hb=>?_⟩;rw[e9,not_or]at hb;rw[k' b hb.2,cC hb.1]
theorem KO:∀{a:List (Key×V)}{b:List (Key×Value)},KV a b→∀{j:Nat}{x:Key×V}{y:Key×Value},a[j]?=some x→b[j]?=some y→x.1=y.1∧RelV x.2 y.2
 |_,_,.nil,_,_,_,e,_=>by cases e
 |_,_,.cons r t,0,_,_,e1,e2=>by cases e1;cases e2;exact r
 |_,_,.cons r t,j+1,_,_,e1,e2=>KO t (j:=j) e1 e2
end
theorem XA{X:Cx}(K:Frag)(hK:X.K=K)(hc:X.calm=true){e:Expr}{te:TE}{p1 p2 q1 q2:Pos}(hl:Gl X "list")(GV:X.mg "list"=none)(he:PE X e te)
  (yQ:starEach [Expr.Call (.Attribute e "items" p2) [] [] q2] X.env=[(false,eval (.Call (.Attribute e "items" p2) [] [] q2) X.env)]:=by rfl)
  (qj:attributeBase e "items" X.env (eval e X.env)=eval e X.env:=by rfl) (qk:(p2.endLine==q2.line)=true:=by rfl) :
  PE X (.Call (.Name "list" p1) [.Call (.Attribute e "items" p2) [] [] q2] [] q1) (Xz K te):=by
 subst hK;intro aF s σ H Q I h;refine ar (rO I hl GV vd ?_);refine Ej ?_ (by rw[yQ];rfl) rfl;rw[yQ];show wpAny _ _ (spliced ((false,eval (.Call (.Attribute e "items" p2) [] [] q2) X.env)::[])) _ _ s;refine xh (wpAny_Call_method0_late qj qk (aM (he aF s σ H _ I h) λv s1 ⟨x,H1,I1,r1,d,aH,hx,g,q⟩=>?_));subst hx;cases r1;obtain⟨z,hd,vs,rel,dd⟩:=Bx I1.bz g;refine⟨"dict","dict.items",PySem.F.plainAttrs_dict,PySem.F.slot_dict_items,PySem.F.type_dict_items,dd.typeIs,λb eb=>?_,Ag rfl (PySem.evalArgs_none ?_)⟩
 ·cases eb;obtain⟨ob,_,_,h1,h2,_⟩:=dd;exact⟨ob,h1,h2.2.1⟩
 refine call_meetsIn PySem.F.slot_dict_items dd.typeIs PySem.F.entry_dict_items (PySem.F.args_dict_items_1 _) (meets_dict_items (gj X.prog X.w) d hd) ⟨⟨vs,dd⟩,?_⟩;refine Calls.spliced_nil ?_;obtain⟨ob,es,ep,ge,hr⟩:=id dd;have up:∀b o,s1.heap.get? b=some o→(s1.heap.push { cls:=.type "dict_items",data:=.fields #[.ref d] }).get? b=some o:=λb o e=>fc _ e;have KP:(s1.heap.push { cls:=.type "dict_items",data:=.fields #[.ref d] }).objs.size=s1.heap.objs.size+1:=Heap.size_push ..;have Bt:(s1.heap.push { cls:=.type "dict_items",data:=.fields #[.ref d] }).IsItemsView s1.heap.objs.size d:=⟨_,jL _ rfl,rfl,rfl⟩;generalize s1.heap.push { cls:=.type "dict_items",data:=.fields #[.ref d] }=hp at up KP Bt;have hm:Heap.DictAt (gj X.prog X.w) hp d vs ep:=⟨ob,es,up _ _ ge,hr⟩;refine kdx_call (s:={ s1 with heap:=hp }) (I1.ok.hd hc) Bt hm (by rw[← rel.length];exact z) λh' tk acc c as hk hS vp hG KQ=>?_;have k2:∀b o,s1.heap.get? b=some o→h'.get? b=some o:=λb o e=>hk b o (up b o e);have I2:Inv X aF σ H1 { s1 with heap:=h',toks:=tk }:=I1.kept k2;have big:s1.heap.objs.size≤hp.objs.size:=by rw[KP];exact Nat.le_succ _
 have fS:iC X aF H1 hp.objs.size:=I1.nY big (I1.bz.fresh big);obtain⟨H2,I3,s3,P3,k3⟩:=KN (X:=X) as aH H1 (by rw[vp,rel.length]) I2 hG.rise (λa ha=>by
  have hb:s1.heap.objs.size≤a:=eu big (Nat.le_of_lt (hG.above a ha));exact I1.nY hb (I1.bz.fresh hb)) λj a kv e1 e2=>by
   obtain⟨key,k,x,e3,e4,e5⟩:=hG.pairs j a e1;obtain⟨w1,w2⟩:=KO rel e2 e3;exact⟨key,x,by rw[w1];exact Wv e4,w2,e5⟩
 have zX:H2 hp.objs.size=none:=by rw[k3 _ λz=>rq _ (hG.above _ z)];exact fS.1
 have hv:Vals (as.map V.ref) acc.toList:=by
  rw[KQ];clear KQ hG vp hS P3 k3 zX;induction as with
  |nil=>exact .nil
  |cons a as ih=>exact .cons rfl ih
 have I4:=I3.Be (o:=.lst (as.map V.ref)) ⟨zX,fS.2⟩ ⟨by rw[br,vp,← rel.length];exact z,acc.toList,c,hv,hS⟩;exact⟨.ref _,_,I4,rfl,q _ _ _ (s3.trans (.upd zX)) aZ (P3.mono (.upd zX))⟩
end L2
namespace S21
open PySem L2 Bw
variable{fd:FuncData}{ps:List Str}
section
variable{K:Frag}{H:Hp}{Q:VK}{E:XK}{p:Int}{X Y:D1.Dr}{C:D1.Dr→D1.Dr}{pre post:List D1.Wd}
theorem SI.len(hS:SI p X C pre post):pre.length≤80:=by
 rcases hS.pr with h|⟨m,e,_,_,h⟩
 ·lia
 ·rw[e,eA];lia
theorem SI.ow(hS:SI p X C pre post)(Z:D1.Dr):(cw (C Z)).aE=(pre++Z.aE++post).map bY:=by rw[nH,hS.ws]
theorem KR{x:Str}{hd:Addr}(pp:p∈cK)(hS:SI p X C pre post)(r:RR p x X Y)(g:bQ K H hd ((pre++X.aE++post).map bY))(q:gK K H ((pre++Y.aE++post).map bY) Q):vL K nq [.int p,.ref hd,.int ((pre.length:Nat):Int),.str x] H Q E:=by
 obtain⟨p2,gi⟩:=fK p pp;have h1:=hS.len;have h2:=hS.po;have h3:=r.lx;have h4:=r.ly;refine IL (d:=cw (C X)) (hS.ok X (gT r.wf)) p2 gi ?_ (by rw[hS.ow];exact g) (hS.at' X) r.mv (by rw[ux];lia) ?_
 ·rw[ux,hS.ws,bh,bh];lia
 ·have e:(cw (C X)).aE.take pre.length++(cw Y).aE++(cw (C X)).aE.drop (pre.length+(cw X).aE.length)=(pre++Y.aE++post).map bY:=by
   rw[hS.ow,ux,nH,fe,fe,fe,fe];have e1:(pre.map bY++X.aE.map bY++post.map bY).take pre.length=pre.map bY:=by
    rw[pX,show pre.length=(pre.map bY).length by rw[br],List.take_left]
   have e2:(pre.map bY++X.aE.map bY++post.map bY).drop (pre.length+X.aE.length)=post.map bY:=by
    rw[show pre.length+X.aE.length=(pre.map bY++X.aE.map bY).length by rw[bh,br,br],List.drop_left]
   rw[e1,e2]
  rw[e];exact q
theorem XB{m:Nat}{fd:Addr}(pp:p∈cK)(oy:(cw Y).ok p)(ly:Y.aE.length≤60)(hm:m≤80)(g:bQ K H fd ((List.replicate (m+2) (D1.Wd.w "back")++Y.aE).map bY))(q:gK K H ((List.replicate m (D1.Wd.w "back")++Y.aE).map bY) Q):vL K nq [.int p,.ref fd,.int 0,.str (Str.ofString "twice")] H Q E:=by
 obtain⟨p2,gi⟩:=fK p pp;have lm:(cw (i0 m Y)).aE.length≤140:=by rw[ux,uC,bh,eA];lia
 have l2:(cw (i0 (m+2) Y)).aE.length=(cw (i0 m Y)).aE.length+2:=rfl;refine IL (i:=0) (d:=cw (i0 (m+2) Y)) (zU (n:=m+2) oy) p2 gi (by lia) (by rw[nH,uC];exact g) At.here (II (a:=cw (i0 m Y)) (zU oy) (by lia)) (by lia) ?_;rw[List.take_zero,List.nil_append,oM,List.drop_of_length_le (bH _),gJ,nH,uC];exact q
theorem neT{x y:Addr}{ws:List D1.Wd}(hk:∀x,D1.Wd.w x∈ws→x∈pQ)(h1:bQ K H x (ws.map bY))(h2:bQ K H y (ws.map bY))(q:Q (.bl false) H):pj K true (.ref x) (.ref y) H Q:=
 ⟨.tuple (ws.map jF),.tuple (ws.map jF),.tuple h1 (uy _),.tuple h2 (uy _),Kc hk,Kc hk,by simpa using q⟩
theorem DC{cs:List Int}:∀{ys:List V},(∀y∈ys,y∈cs.map V.int)→∃ms:List Int,ys=ms.map V.int
 | [],_=>⟨[],rfl⟩
 |y::ys,h=>by
  obtain⟨ms,e⟩:=DC (cs:=cs) (ys:=ys) λz hz=>h z (eR _ hz);obtain⟨n,_,en⟩:=dN.mp (h y dv);exact⟨n::ms,by rw[e,← en];rfl⟩
theorem XC(K:Frag):kitOne K (.type "str") (.type "bool")=some false:=by kernel_rfl
end
def zY(K:Frag):Sp:=λvs H Q _=>∃(a:Addr)(ns:List Int),vs=[.ref a]∧cR K H a (ns.map V.int)∧ns.length≤63∧∀H',Q (.bl true) H'
theorem jJ:cY ["script","cells","p","rows","k","rule","pair","before","due","at","handed","found","word"] ["script"] (bp ou):=dE rfl rfl rfl (by decide +kernel) rfl
set_option maxRecDepth 100000 in
theorem XD{f fP fS fL fI fM:Addr}{vK jE lO KS fO:FuncData}(F:cL K "law" "law" ou f fd)(T:Txt mg)
  (GP:bN P w K mg base bO 1 fP vK ["cell"] IV) (kP:Kp K fP) (bP:Binds K vK ["cell"] []) (mP:Mg mg "_law_prime" fP)
  (GS:bN P w K mg base bO 6 fS jE ["p","cells"] (Ko K)) (kS:Kp K fS) (bS:Binds K jE ["p","cells"] []) (mS:Mg mg "_law_sides" fS)
  (GL:bN P w K mg base bO 1 fL lO ["cell"] (KC K)) (kL:Kp K fL) (bL:Binds K lO ["cell"] []) (mL:Mg mg "_law_plain_rules" fL)
  (GI:bN P w K mg base bO 5 fI KS ["p","pair","cell"] (KH K)) (kI:Kp K fI) (bI:Binds K KS ["p","pair","cell"] []) (mI:Mg mg "_law_set_in" fI)
  (GM:bN P w K mg base bO 9 fM fO ["p","words","at","rule"] (vL K nq)) (kM:Kp K fM) (bM:Binds K fO ["p","words","at","rule"] []) (mM:Mg mg "moved" fM):bN P w K mg base bO 10 f fd ["script"] (zY K):=by
 refine F.ok jJ (λvs H Q E h=>?_) (λcj A outer s H vs Q E hr h=>?_)
 ·obtain⟨a,ns,rfl,_⟩:=h;rfl
 ·obtain⟨a,ns,rfl,ha,hn,q⟩:=h;have r1:dR 1 _:=hr.mono (by lia);have r5:dR 5 _:=hr.mono (by lia);have r6:dR 6 _:=hr.mono (by lia);have hu:=hr.units;have z:(1000:Nat)≤sizeLine:=by decide
  refine⟨_,ba (bw (i:=1) jJ.nd rfl (.inl rfl) (eX (gu K rfl) (pv 0) gq (dy aY))) (ba (bw (i:=2) jJ.nd rfl (.inl rfl) (cO GP r1 rfl mP kP bP .nil cP (aG (gp (pq K rfl rfl) rfl T.sum pw (aG (pv 1) aK)) aK))) (ba (bw (i:=3) jJ.nd rfl (.inl rfl) (aU bV (XA K rfl rfl rfl T.list (cO GS r6 rfl mS kS bS .nil cP (aG (pv 2) (aG (eX (gu K rfl) (pv 1) gq (dy aY)) aK)))) (cO GL r1 rfl mL kL bL .nil cP (aG (gp (pq K rfl rfl) rfl T.sum pw (aG (Kl (K:=K) rfl (pv 1) (dy aY) (dy aY) (by decide)) aK)) aK)))) (ba (bw (i:=4) jJ.nd rfl (.inl rfl) aY) (ba (ja jq rfl (gg K rfl (pv 3)) (Gi (n:=2) K rfl rfl (eh (cB (i:=5) jJ.nd rfl (.inl rfl)) (eh (cB (i:=6) jJ.nd rfl (.inl rfl)) kZ))) (ba (nX (cO GI r5 rfl mI kI bI .nil cP (aG (pv 2) (aG (pv 6) (aG (aU fu (gp (pq K rfl rfl) rfl T.sum pw (aG (Kl (K:=K) rfl (pv 1) (dy (pv 4)) gq (by decide)) aK)) (pv 4)) aK)))) (oi rfl (eh (cB (i:=7) jJ.nd rfl (.inl rfl)) (eh (cB (i:=8) jJ.nd rfl (.inl rfl)) (eh (cB (i:=9) jJ.nd rfl (.inl rfl)) kZ))))) (ba (bw (i:=4) jJ.nd rfl (.inl rfl) (aU fu (pv 4) aY)) (ba (bw (i:=10) jJ.nd rfl (.inl rfl) (jc (su K rfl) rfl T.tuple qr (aG (pv 7) aK))) (ba (bw (i:=11) jJ.nd rfl (.inl rfl) (cO GM hr rfl mM kM bM .nil cP (aG (pv 2) (aG (pv 10) (aG (pv 9) (aG (pv 5) aK)))))) (ba (cS (PW.pt (rP (MO (uN (gp (O7 K rfl (T := "tuple")) rfl T.isinstance xZ (aG (pv 11) (aG (xY rfl T.tuple qr) aK))))) (rP (cE (qq K rfl hu) (pv 11) (jc (su K rfl) rfl T.tuple qr (aG (pv 8) aK)) (cD _)) (xu (cE (qq K rfl hu) (pv 10) (jc (su K rfl) rfl T.tuple qr (aG (pv 7) aK)) (cD _)))))) (bj (cA rN)) dW) (ba (ja jq rfl (Gh K rfl (pv 11)) (cB (i:=12) jJ.nd rfl (.inl rfl)) (bj (cS (uN (gp (JN K rfl (T := "bool")) rfl T.isinstance xZ (aG (pv 12) (aG (xY rfl T.bool Pb) aK)))) (bj (cA rN)) dW))) (ba (cS (cE (qq K rfl hu) (cO GM hr rfl mM kM bM .nil cP (aG (pv 2) (aG (pv 10) (aG (pv 9) (aG (pv 5) aK))))) (pv 11) (cD _)) (bj (cA rN)) dW) (bj (cS (PW.pt (oS (cE dZ (gp (og K rfl) rfl T.len oh (aG (pv 10) aK)) aY (cD _)) (qa (cE (qq K rfl hu) (cO GM hr rfl mM kM bM .nil cP (aG (pv 2) (aG (pv 11) (aG aY (aG aW aK))))) (jc (su K rfl) rfl T.tuple qr (aG (eX (gu K rfl) (pv 8) (dy aY) gq) aK)) (cD _))))) (bj (cA rN)) dW)))))))))) (bj (cA rN)))))),?_⟩;obtain⟨cs,vU,lcs⟩:=zQ ns none (some 63);refine⟨_,rfl,63,rfl,a,_,rfl,ha,λlc Ct=>?_⟩;rw[vU];have g0:(upd H lc (.lst (cs.map V.int))) lc=some (.lst (cs.map V.int)):=aZ;generalize upd H lc (.lst (cs.map V.int))=H0 at g0 ⊢;refine⟨_,rfl,lc,cs,rfl,.of g0,_,rfl,λp H1 pp s1=>?_⟩;obtain⟨ms,XE,lms⟩:=zQ cs none (some 9);refine⟨_,rfl,_,rfl,9,rfl,lc,_,rfl,.of (s1 _ _ g0),λl2 h2=>?_⟩;rw[XE];refine⟨p,l2,ms,rfl,pp,aZ,by lia,λld H2 s2 o9 hP=>?_⟩;obtain⟨aH,gd,hk,fQ⟩:=hP;refine⟨ld,aH,rfl,gd,λl3 zs H3 s3 g3 hz=>?_⟩;have ij:=(aJ.upd (o:=.lst (ms.map V.int)) h2).trans (s2.trans s3);refine⟨_,rfl,9,rfl,63,rfl,lc,_,rfl,.of (ij _ _ (s1 _ _ g0)),λl4 ys h4 hm _=>?_⟩;obtain⟨KU,rfl⟩:=DC hm;refine⟨l4,KU,rfl,.of aZ,_,rfl,λl5 jX w8 H5 s5 g5 DD hk5 KW=>?_⟩;have qO:=(aJ.upd (o:=.lst (KU.map V.int)) h4).trans s5;refine⟨l3,l5,zs,jX,rfl,rfl,qO _ _ g3,g5,by rw[hz.1,DD.1];lia,λl6 h6=>?_⟩;have zZ:=qO.trans (aJ.upd (o:=.lst (zs++jX)) h6);have g6:(upd H5 l6 (.lst (zs++jX))) l6=some (.lst (zs++jX)):=aZ;have DE:dJ K (upd H5 l6 (.lst (zs++jX))) (zs++jX) (aH++w8):=dJ.app (hz.mono zZ) (DD.mono (.upd h6));have so:∀kv∈aH++w8,ri p (upd H5 l6 (.lst (zs++jX))) kv:=λkv h=>by
   rcases(dM.mp h)with(h|h)
   ·obtain⟨x,X,Y,e1,e2,e3⟩:=fQ kv h;exact⟨x,X,Y,e1,e2.mono (s3.trans zZ),e3⟩
   ·obtain⟨x,X,Y,e1,e2,e3⟩:=KW p kv h;exact⟨x,X,Y,e1,e2.mono (.upd h6),e3⟩
  have gc:=zZ _ _ (ij _ _ (s1 _ _ g0));clear KW DD fQ hz zZ qO ij g5 g3 gd hm h4 h2;generalize upd H5 l6 (.lst (zs++jX))=H6 at g6 DE so gc ⊢;refine⟨_,rfl,l6,rfl,⟨_,.of g6⟩,oY (xs:=zs++jX) (λi σ H'=>aJ H6 H'∧∃(k:Int)(s5 s6 s7 s8 s9 mQ uk s12:Option V),σ=[some (.ref a),some (.ref lc),some (.int p),some (.ref l6),some (.int k),s5,s6,s7,s8,s9,mQ,uk,s12]) ⟨.refl _,0,none,none,none,none,none,none,none,none,rfl⟩ (λi σ H' _ ⟨sm,_⟩=>.of (sm _ _ g6)) ?_ ?_⟩
  ·rintro i x σ H7 hx ⟨sm,k,s5,s6,s7,s8,s9,mQ,uk,s12,rfl⟩;obtain⟨kv,fQ⟩:∃kv,(aH++w8)[i]?=some kv:=⟨_,cg (by rw[← DE.1];exact(dB.mp hx).1)⟩;obtain⟨t,rfl,ht⟩:=DE.2 i x kv hx fQ;obtain⟨xr,X,Y,ek,hv,rr⟩:=so kv (d8 fQ);obtain⟨kk,v⟩:=kv;cases ek;refine Ga (sm.cG ht) ?_;refine⟨_,rfl,_,rfl,_,rfl,_,rfl,k,rfl,lc,_,rfl,.of (sm _ _ gc),λl8 ys h8 XF _=>?_⟩;obtain⟨KY,rfl⟩:=DC XF;refine⟨l8,KY,rfl,.of aZ,_,rfl,_,_,rfl,rfl,?_⟩;have KZ:=sm.trans (aJ.upd (o:=.lst (KY.map V.int)) h8);refine⟨p,_,v,X,Y,rfl,pp,hv.mono KZ,rr.wf,rr.bD,rr.lx,rr.ly,λtt b d C pre post H9 CO gt gb gd hS=>?_⟩;have XG:=KZ.trans CO;refine oD (.of gt) ?_;refine⟨_,rfl,_,_,rfl,rfl,?_⟩;refine⟨_,rfl,b,_,rfl,.inl ⟨.of gb,λhd K0=>?_⟩⟩;have sA:=aJ.upd (o:=.tup ((pre++X.aE++post).map bY)) K0;have gh:bQ K (upd H9 hd (.tup ((pre++X.aE++post).map bY))) hd ((pre++X.aE++post).map bY):=.of aZ;have K1:=sA _ _ gb;have z0:=sA _ _ gd;have ny:=XG.trans sA;clear K0;generalize upd H9 hd (.tup ((pre++X.aE++post).map bY))=HA at sA gh K1 z0 ny ⊢;refine⟨_,rfl,_,rfl,_,rfl,_,rfl,KR (E:=E0) pp hS rr gh λfo HB sB gf=>?_⟩;refine⟨_,rfl,fo,_,true,rfl,gf,O1 K,_,rfl,cW ?_⟩;refine⟨_,rfl,_,rfl,d,_,rfl,.inl ⟨.of (sB _ _ z0),λt1 h1=>?_⟩⟩;have wY:∀x,D1.Wd.w x∈pre++Y.aE++post→x∈pQ:=λx hx=>wM (C Y) x (by rw[hS.ws];exact hx);have wX:∀x,D1.Wd.w x∈pre++X.aE++post→x∈pQ:=λx hx=>wM (C X) x (by rw[hS.ws];exact hx);have sC:=aJ.upd (o:=.tup ((pre++Y.aE++post).map bY)) h1;refine neT wY (sC.cG gf) (.of aZ) ⟨_,rfl,cW ?_⟩;have Aa:=sB.trans sC;have K2:=sC.cG gf;clear h1;generalize upd HB t1 (.tup ((pre++Y.aE++post).map bY))=HC at Aa K2 ⊢;refine⟨_,rfl,_,rfl,b,_,rfl,.inl ⟨.of (Aa _ _ K1),λt2 h2=>?_⟩⟩;have sD:=aJ.upd (o:=.tup ((pre++X.aE++post).map bY)) h2;refine neT wX (sD.cG (Aa.cG gh)) (.of aZ) ⟨_,rfl,cW ?_⟩;have K3:=Aa.trans sD;have uj:=sD.cG K2;clear h2;generalize upd HC t2 (.tup ((pre++X.aE++post).map bY))=HD at K3 uj ⊢;refine⟨_,rfl,fo,rfl,⟨_,uj⟩,EL (xs:=(pre++Y.aE++post).map bY) (λi σ H'=>aJ HD H'∧∃s12:Option V,σ=[some (.ref a),some (.ref lc),some (.int p),some (.ref l6),some (.int (k+1)),some (.str xr),some v,some (.ref b),some (.ref d),some (.int ((pre.length:Nat):Int)),some (.ref hd),some (.ref fo),s12]) ⟨.refl _,s12,rfl⟩ (λi σ H' _ ⟨sm,_⟩=>sm.cG uj) ?_ ?_⟩
   ·rintro i x σ H' hx ⟨fN,s12,rfl⟩;dsimp only[bo];rw[fj]at hx;obtain⟨u,_,rfl⟩:=Option.map_eq_some_iff.mp hx;cases u with
    |w y=>exact⟨_,rfl,_,false,rfl,.inr ⟨_,rfl,XC K⟩,_,rfl,cW ⟨fN,_,rfl⟩⟩
    |n y=>exact⟨_,rfl,_,false,rfl,.inl ⟨_,rfl,O0 K⟩,_,rfl,cW ⟨fN,_,rfl⟩⟩
   rintro σ HE ⟨sE,acv,rfl⟩;have K4:=K3.trans sE;have DF:=sE.cG uj;refine⟨_,rfl,_,rfl,_,rfl,_,rfl,KR (E:=E0) pp hS rr (K4.cG gh) λf2 HF sF XH=>⟨_,rfl,neT wY XH (sF.cG DF) ⟨_,rfl,cW ?_⟩⟩⟩;have DG:=K4.trans sF;refine⟨_,rfl,hd,_,rfl,.inr (DG.cG gh),rfl,_,rfl,?_⟩;have lx:=rr.lx;have fin:∀H',aJ HF H'→aJ H6 H':=λH' s'=>ny.trans (DG.trans s');by_cases Ab:(((pre++X.aE++post).map bY).length:Int)=80
   ·rw[show decide (V.int (((pre++X.aE++post).map bY).length:Int)=V.int 80)=true from ax (aj V.int Ab)]
    have Xs:=hS.po;rw[br,bh,bh]at Ab;rcases hS.pr with h|⟨m,e1,e2,e3,e4⟩
    ·exact absurd Ab (by lia)
    subst e1 e2 e3;rw[gJ]at DF gd z0;refine eP ⟨_,rfl,_,rfl,XB (E:=E0) (m:=m) pp rr.oy rr.ly (by lia) (sF.cG DF) λf5 HG sG XI=>?_⟩;have XJ:(List.replicate (m+2) (D1.Wd.w "back")++Y.aE).map bY=V.str (Str.ofString "back")::V.str (Str.ofString "back")::(List.replicate m (D1.Wd.w "back")++Y.aE).map bY:=rfl;have yD:eV ((List.replicate (m+2) (D1.Wd.w "back")++Y.aE).map bY) (some 2) none=(List.replicate m (D1.Wd.w "back")++Y.aE).map bY:=by
     rw[XJ];generalize (List.replicate m (D1.Wd.w "back")++Y.aE).map bY=ws;unfold eV;have h1:HT.ck (V.str (Str.ofString "back")::V.str (Str.ofString "back")::ws).length 0 (some 2)=2:=by
      show(if(2:Int)<0 then((2:Int)+((ws.length+1+1:Nat):Int)).toNat else min (2:Int).toNat (ws.length+1+1))=2
      rw[ag (by decide)];show min 2 (ws.length+1+1)=2;lia
     rw[h1,HT.rZ];show ws.take (ws.length+1+1-2)=ws;rw[show ws.length+1+1-2=ws.length by lia,mh]
    refine⟨_,rfl,2,rfl,d,_,rfl,.of (sG _ _ (DG _ _ z0)),λl9 h9=>?_⟩;rw[yD];have s9:=aJ.upd (o:=.lst ((List.replicate m (D1.Wd.w "back")++Y.aE).map bY)) h9;refine⟨l9,_,rfl,.inl ⟨.of aZ,λt3 h3=>?_⟩⟩;have mQ:=aJ.upd (o:=.tup ((List.replicate m (D1.Wd.w "back")++Y.aE).map bY)) h3;refine neT (λx hx=>wM (i0 m Y) x (by rw[uC];exact hx)) (mQ.cG (s9.cG XI)) (.of aZ) ⟨_,rfl,cW ?_⟩;exact⟨fin _ (sG.trans (s9.trans mQ)),k+1,_,_,_,_,_,_,_,_,rfl⟩
   ·rw[show decide (V.int (((pre++X.aE++post).map bY).length:Int)=V.int 80)=false from ae λz=>Ab (V.int.inj z)]
    exact cW (cW ⟨fin _ (.refl _),k+1,_,_,_,_,_,_,_,_,rfl⟩)
  ·rintro σ H7 ⟨sm,_⟩;exact q H7
noncomputable def jK(K:Frag)(x:Str):Addr:=match nsIn K mainGlobals x with
 |some (some (.ref a))=>a
 |_=>0
noncomputable def rp(K:Frag)(x:Str):Bool:=match nsIn K mainGlobals x with
 |some (some (.ref _))=>true
 |_=>false
theorem xb{K:Frag}{x:Str}(h:rp K x=true):nsIn K mainGlobals x=some (some (.ref (jK K x))):=by
 unfold rp at h;split at h
 case h_2=>cases h
 case h_1 a e=>
  unfold jK;rw[e]
noncomputable def DH(K:Frag):Bool:=(rp K "PARTS"&&yk K (jK K "PARTS")&&decide (jj K (jK K "PARTS")=yn))&&(rp K "SIDES"&&vD K (jK K "SIDES"))&&(rp K "RULES"&&Cf K (jK K "RULES")) &&
 ((rp K "ANY_DRAWING"&&decide (pK K (jK K "ANY_DRAWING")=some (jz.map V.str)))&&(rp K "ANY_NUMBER"&&decide (pK K (jK K "ANY_NUMBER")=some (ko.map V.str))))
section
variable{K:Frag}{h:Heap}{mg:Str→Option Value}
theorem XM(X:K.In h)(G:h.Ns mainGlobals mg)(e:DH K=true):Parts K mg (jK K "PARTS")∧ng K mg (jK K "SIDES")∧B9 K mg (jK K "RULES") (jj K (jK K "RULES")) nq∧Lets K mg (jK K "ANY_DRAWING") (jK K "ANY_NUMBER"):=by
 simp only[DH,fq,ay]at e;obtain⟨⟨⟨⟨⟨a1,a2⟩,a3⟩,b1,b2⟩,c1,c2⟩,⟨d1,d2⟩,e1,e2⟩:=e;exact⟨⟨dq X G (xb a1),λh X=>a3▸BC X a2⟩,⟨dq X G (xb b1),b2⟩,RJ (dq X G (xb c1)) c2,RK (dq X G (xb d1)) (dq X G (xb e1)) d2 e2⟩
end
theorem pV:∀(us:List Value),us.length=1→(∀a0,bindArgs fd ⟨[a0],[]⟩=pure (ps.zip [a0]))→bindArgs fd ⟨us,[]⟩=pure (ps.zip us)
 | [a0],_,h=>h a0
theorem nL:∀(us:List Value),us.length=2→(∀a0 a1,bindArgs fd ⟨[a0,a1],[]⟩=pure (ps.zip [a0,a1]))→bindArgs fd ⟨us,[]⟩=pure (ps.zip us)
 | [a0,a1],_,h=>h a0 a1
theorem me:∀(us:List Value),us.length=3→(∀a0 a1 a2,bindArgs fd ⟨[a0,a1,a2],[]⟩=pure (ps.zip [a0,a1,a2]))→bindArgs fd ⟨us,[]⟩=pure (ps.zip us)
 | [a0,a1,a2],_,h=>h a0 a1 a2
theorem xc:∀(us:List Value),us.length=4→(∀a0 a1 a2 a3,bindArgs fd ⟨[a0,a1,a2,a3],[]⟩=pure (ps.zip [a0,a1,a2,a3]))→bindArgs fd ⟨us,[]⟩=pure (ps.zip us)
 | [a0,a1,a2,a3],_,h=>h a0 a1 a2 a3
theorem all_mk{l:PySem.W.OpenLaw}{w:World}{K:Frag}{h:Heap}{mg:Str→Option Value}{fa f1 f2 f3 f4 f5 f6 f7 f8 f9 DI DJ DK DM DN DO DP DQ DR DT DU DV DW DX DY DZ D0 D2 D3 D4 D5 D6 D7 D8 D9 Ea:Addr}(X:K.In h)(G:h.Ns mainGlobals mg)(XN:Mg mg "law" fa)
  {XO XQ XR XT XU XW XX XY XZ X0 X1 X2 X3 X4 X5 X6 X7 X8 X9 Ya Yb Yc Yd Ye Yf Yg Yh Yi Yj Yk Yl Ym Yn Yo Yp Yq Yr Ys Yt Yu Yv Yw Yx Yy Yz YA YB YC YD YE YF YG YH YI YJ YK YL YM YN YO YQ YR YS YT YU YV YW YX YY K5:Option Addr} {YZ rX Y0 Y1 Y2 Y3 Y4 Y5 Y6 Y7 Y8 Y9 Za Zb Zc Zd Ze Zf Zg Zh Zi Zj Zk Zl Zm Zn Zo Zp Zq Zr Zs Zt Zu Zv Zw:Array (Option Value)} {Zx Zy Zz ZA K6 ZC ZD ZE ZF ZG K7 ZH ZI ZJ ZK ZL K8 ZM ZN ZO ZP ZQ K9 ZR ZT ZU ZV ZW La ZX ZY ZZ Z0 Z1 Lb Z2 Z3 Z4 Z5 Z6 Lc Z7 Z8 Z9 dc8 pm8 Ld ct8 oc9 kV9 dc9 pm9 Le ct9 aaa aab aac aad Lf aae aaf aag aah aai Lg aaj aak aal aam aan Lh aao aap aaq aar aas Li aat aau aav aaw aax Lj aay aaz aaA aaB aaC Lk aaD aaE aaF aaG aaH Ll aaI aaJ aaK aaL aaM Lm aaN aaO aaP aaQ aaR Ln aaS aaT aaU aaV aaW Lo aaX aaY aaZ aa0 aa1 Lp aa2 aa3 aa4 aa5 aa6 Lq aa7 aa8 aa9 aba abb Lr abc abd abe abf abg Ls abh abi abj abk abl Lu abm abn abo abp abq Lv abr abt abu abv abw Lw abx aby abz abA abB Lx abC abD abE abF abG Ly abH abI abJ abK abL Lz abM abN abO abP abQ LB abR abS abT abU abV LC abW abX abY abZ ab0 LD ab1 ab2 ab3 ab4 ab5 LF ab6 ab7 ab8 ab9 aca LG acb acd LH LI LJ Eb LK:Value}
  (a1:nsIn K mainGlobals "turned"=some (some (.ref f1))) (l1:K.lookup f1=some ⟨Zx,XO,.func (fnOf "turned" "turned" (cZ sR) (cV sR) (bp sR) .none Zy Zz ZA XQ K6 ZC),YZ⟩) (c1:codeIn K K6 "turned"=true) (k1:keepIn K (.ref f1)=true)
  (a2:nsIn K mainGlobals "wires"=some (some (.ref f2))) (l2:K.lookup f2=some ⟨ZD,XR,.func (fnOf "wires" "wires" (cZ sS) (cV sS) (bp sS) .none ZE ZF ZG XT K7 ZH),rX⟩) (c2:codeIn K K7 "wires"=true) (k2:keepIn K (.ref f2)=true)
  (a3:nsIn K mainGlobals "folded"=some (some (.ref f3))) (l3:K.lookup f3=some ⟨ZI,XU,.func (fnOf "folded" "folded" (cZ sT) (cV sT) (bp sT) .none ZJ ZK ZL XW K8 ZM),Y0⟩) (c3:codeIn K K8 "folded"=true) (k3:keepIn K (.ref f3)=true)
  (a4:nsIn K mainGlobals "all_folded"=some (some (.ref f4))) (l4:K.lookup f4=some ⟨ZN,XX,.func (fnOf "all_folded" "all_folded" (cZ qx) (cV qx) (bp qx) .none ZO ZP ZQ XY K9 ZR),Y1⟩) (c4:codeIn K K9 "all_folded"=true) (k4:keepIn K (.ref f4)=true)
  (a5:nsIn K mainGlobals "ends"=some (some (.ref f5))) (l5:K.lookup f5=some ⟨ZT,XZ,.func (fnOf "ends" "ends" (cZ sU) (cV sU) (bp sU) .none ZU ZV ZW X0 La ZX),Y2⟩) (c5:codeIn K La "ends"=true) (k5:keepIn K (.ref f5)=true)
  (a6:nsIn K mainGlobals "end_of"=some (some (.ref f6))) (l6:K.lookup f6=some ⟨ZY,X1,.func (fnOf "end_of" "end_of" (cZ qy) (cV qy) (bp qy) .none ZZ Z0 Z1 X2 Lb Z2),Y3⟩) (c6:codeIn K Lb "end_of"=true) (k6:keepIn K (.ref f6)=true)
  (a7:nsIn K mainGlobals "measured"=some (some (.ref f7))) (l7:K.lookup f7=some ⟨Z3,X3,.func (fnOf "measured" "measured" (cZ sV) (cV sV) (bp sV) .none Z4 Z5 Z6 X4 Lc Z7),Y4⟩) (c7:codeIn K Lc "measured"=true) (k7:keepIn K (.ref f7)=true)
  (a8:nsIn K mainGlobals "measure"=some (some (.ref f8))) (l8:K.lookup f8=some ⟨Z8,X5,.func (fnOf "measure" "measure" (cZ qz) (cV qz) (bp qz) .none Z9 dc8 pm8 X6 Ld ct8),Y5⟩) (c8:codeIn K Ld "measure"=true) (k8:keepIn K (.ref f8)=true)
  (a9:nsIn K mainGlobals "joined_sides"=some (some (.ref f9))) (l9:K.lookup f9=some ⟨oc9,X7,.func (fnOf "joined_sides" "joined_sides" (cZ sW) (cV sW) (bp sW) .none kV9 dc9 pm9 X8 Le ct9),Y6⟩) (c9:codeIn K Le "joined_sides"=true) (k9:keepIn K (.ref f9)=true)
  (a10:nsIn K mainGlobals "first_unmet"=some (some (.ref DI))) (l10:K.lookup DI=some ⟨aaa,X9,.func (fnOf "first_unmet" "first_unmet" (cZ qA) (cV qA) (bp qA) .none aab aac aad Ya Lf aae),Y7⟩) (c10:codeIn K Lf "first_unmet"=true) (k10:keepIn K (.ref DI)=true)
  (a11:nsIn K mainGlobals "moved"=some (some (.ref DJ))) (l11:K.lookup DJ=some ⟨aaf,Yb,.func (fnOf "moved" "moved" (cZ sX) (cV sX) (bp sX) .none aag aah aai Yc Lg aaj),Y8⟩) (c11:codeIn K Lg "moved"=true) (k11:keepIn K (.ref DJ)=true)
  (a12:nsIn K mainGlobals "fitting"=some (some (.ref DK))) (l12:K.lookup DK=some ⟨aak,Yd,.func (fnOf "fitting" "fitting" (cZ sY) (cV sY) (bp sY) .none aal aam aan Ye Lh aao),Y9⟩) (c12:codeIn K Lh "fitting"=true) (k12:keepIn K (.ref DK)=true)
  (a13:nsIn K mainGlobals "matched"=some (some (.ref DM))) (l13:K.lookup DM=some ⟨aap,Yf,.func (fnOf "matched" "matched" (cZ sZ) (cV sZ) (bp sZ) .none aaq aar aas Yg Li aat),Za⟩) (c13:codeIn K Li "matched"=true) (k13:keepIn K (.ref DM)=true)
  (a14:nsIn K mainGlobals "allowed"=some (some (.ref DN))) (l14:K.lookup DN=some ⟨aau,Yh,.func (fnOf "allowed" "allowed" (cZ tf) (cV tf) (bp tf) .none aav aaw aax Yi Lj aay),Zb⟩) (c14:codeIn K Lj "allowed"=true) (k14:keepIn K (.ref DN)=true)
  (a15:nsIn K mainGlobals "filled"=some (some (.ref DO))) (l15:K.lookup DO=some ⟨aaz,Yj,.func (fnOf "filled" "filled" (cZ tm) (cV tm) (bp tm) .none aaA aaB aaC Yk Lk aaD),Zc⟩) (c15:codeIn K Lk "filled"=true) (k15:keepIn K (.ref DO)=true)
  (a16:nsIn K mainGlobals "filled_piece"=some (some (.ref DP))) (l16:K.lookup DP=some ⟨aaE,Yl,.func (fnOf "filled_piece" "filled_piece" (cZ tq) (cV tq) (bp tq) .none aaF aaG aaH Ym Ll aaI),Zd⟩) (c16:codeIn K Ll "filled_piece"=true) (k16:keepIn K (.ref DP)=true)
  (a17:nsIn K mainGlobals "_law_prime"=some (some (.ref DQ))) (l17:K.lookup DQ=some ⟨aaJ,Yn,.func (fnOf "_law_prime" "_law_prime" (cZ tD) (cV tD) (bp tD) .none aaK aaL aaM Yo Lm aaN),Ze⟩) (c17:codeIn K Lm "_law_prime"=true) (k17:keepIn K (.ref DQ)=true)
  (a18:nsIn K mainGlobals "_law_cleared"=some (some (.ref DR))) (l18:K.lookup DR=some ⟨aaO,Yp,.func (fnOf "_law_cleared" "_law_cleared" (cZ kl) (cV kl) (bp kl) .none aaP aaQ aaR Yq Ln aaS),Zf⟩) (c18:codeIn K Ln "_law_cleared"=true) (k18:keepIn K (.ref DR)=true)
  (a19:nsIn K mainGlobals "_law_less"=some (some (.ref DT))) (l19:K.lookup DT=some ⟨aaT,Yr,.func (fnOf "_law_less" "_law_less" (cZ qB) (cV qB) (bp qB) .none aaU aaV aaW Ys Lo aaX),Zg⟩) (c19:codeIn K Lo "_law_less"=true) (k19:keepIn K (.ref DT)=true)
  (a20:nsIn K mainGlobals "_law_reduced"=some (some (.ref DU))) (l20:K.lookup DU=some ⟨aaY,Yt,.func (fnOf "_law_reduced" "_law_reduced" (cZ qC) (cV qC) (bp qC) .none aaZ aa0 aa1 Yu Lp aa2),Zh⟩) (c20:codeIn K Lp "_law_reduced"=true) (k20:keepIn K (.ref DU)=true)
  (a21:nsIn K mainGlobals "_law_box"=some (some (.ref DV))) (l21:K.lookup DV=some ⟨aa3,Yv,.func (fnOf "_law_box" "_law_box" (cZ tE) (cV tE) (bp tE) .none aa4 aa5 aa6 Yw Lq aa7),Zi⟩) (c21:codeIn K Lq "_law_box"=true) (k21:keepIn K (.ref DV)=true)
  (a22:nsIn K mainGlobals "_law_then"=some (some (.ref DW))) (l22:K.lookup DW=some ⟨aa8,Yx,.func (fnOf "_law_then" "_law_then" (cZ ot) (cV ot) (bp ot) .none aa9 aba abb Yy Lr abc),Zj⟩) (c22:codeIn K Lr "_law_then"=true) (k22:keepIn K (.ref DW)=true)
  (a23:nsIn K mainGlobals "_law_beside"=some (some (.ref DX))) (l23:K.lookup DX=some ⟨abd,Yz,.func (fnOf "_law_beside" "_law_beside" (cZ tF) (cV tF) (bp tF) .none abe abf abg YA Ls abh),Zk⟩) (c23:codeIn K Ls "_law_beside"=true) (k23:keepIn K (.ref DX)=true)
  (a24:nsIn K mainGlobals "_law_meaning"=some (some (.ref DY))) (l24:K.lookup DY=some ⟨abi,YB,.func (fnOf "_law_meaning" "_law_meaning" (cZ qD) (cV qD) (bp qD) .none abj abk abl YC Lu abm),Zl⟩) (c24:codeIn K Lu "_law_meaning"=true) (k24:keepIn K (.ref DY)=true)
  (a25:nsIn K mainGlobals "_law_some_box"=some (some (.ref DZ))) (l25:K.lookup DZ=some ⟨abn,YD,.func (fnOf "_law_some_box" "_law_some_box" (cZ tG) (cV tG) (bp tG) .none abo abp abq YE Lv abr),Zm⟩) (c25:codeIn K Lv "_law_some_box"=true) (k25:keepIn K (.ref DZ)=true)
  (a26:nsIn K mainGlobals "_law_beside_all"=some (some (.ref D0))) (l26:K.lookup D0=some ⟨abt,YF,.func (fnOf "_law_beside_all" "_law_beside_all" (cZ tH) (cV tH) (bp tH) .none abu abv abw YG Lw abx),Zn⟩) (c26:codeIn K Lw "_law_beside_all"=true) (k26:keepIn K (.ref D0)=true)
  (a27:nsIn K mainGlobals "_law_more"=some (some (.ref D2))) (l27:K.lookup D2=some ⟨aby,YH,.func (fnOf "_law_more" "_law_more" (cZ tI) (cV tI) (bp tI) .none abz abA abB YI Lx abC),Zo⟩) (c27:codeIn K Lx "_law_more"=true) (k27:keepIn K (.ref D2)=true)
  (a28:nsIn K mainGlobals "_law_grown"=some (some (.ref D3))) (l28:K.lookup D3=some ⟨abD,YJ,.func (fnOf "_law_grown" "_law_grown" (cZ tJ) (cV tJ) (bp tJ) .none abE abF abG YK Ly abH),Zp⟩) (c28:codeIn K Ly "_law_grown"=true) (k28:keepIn K (.ref D3)=true)
  (a29:nsIn K mainGlobals "_law_from"=some (some (.ref D4))) (l29:K.lookup D4=some ⟨abI,YL,.func (fnOf "_law_from" "_law_from" (cZ tK) (cV tK) (bp tK) .none abJ abK abL YM Lz abM),Zq⟩) (c29:codeIn K Lz "_law_from"=true) (k29:keepIn K (.ref D4)=true)
  (a30:nsIn K mainGlobals "_law_right"=some (some (.ref D5))) (l30:K.lookup D5=some ⟨abN,YN,.func (fnOf "_law_right" "_law_right" (cZ tL) (cV tL) (bp tL) .none abO abP abQ YO LB abR),Zr⟩) (c30:codeIn K LB "_law_right"=true) (k30:keepIn K (.ref D5)=true)
  (a31:nsIn K mainGlobals "_law_small"=some (some (.ref D6))) (l31:K.lookup D6=some ⟨abS,YQ,.func (fnOf "_law_small" "_law_small" (cZ tM) (cV tM) (bp tM) .none abT abU abV YR LC abW),Zs⟩) (c31:codeIn K LC "_law_small"=true) (k31:keepIn K (.ref D6)=true)
  (a32:nsIn K mainGlobals "_law_sides"=some (some (.ref D7))) (l32:K.lookup D7=some ⟨abX,YS,.func (fnOf "_law_sides" "_law_sides" (cZ qE) (cV qE) (bp qE) .none abY abZ ab0 YT LD ab1),Zt⟩) (c32:codeIn K LD "_law_sides"=true) (k32:keepIn K (.ref D7)=true)
  (a33:nsIn K mainGlobals "_law_plain_rules"=some (some (.ref D8))) (l33:K.lookup D8=some ⟨ab2,YU,.func (fnOf "_law_plain_rules" "_law_plain_rules" (cZ qF) (cV qF) (bp qF) .none ab3 ab4 ab5 YV LF ab6),Zu⟩) (c33:codeIn K LF "_law_plain_rules"=true) (k33:keepIn K (.ref D8)=true)
  (a34:nsIn K mainGlobals "_law_set_in"=some (some (.ref D9))) (l34:K.lookup D9=some ⟨ab7,YW,.func (fnOf "_law_set_in" "_law_set_in" (cZ qG) (cV qG) (bp qG) .none ab8 ab9 aca YX LG acb),Zv⟩) (c34:codeIn K LG "_law_set_in"=true) (k34:keepIn K (.ref D9)=true)
  (a35:nsIn K mainGlobals "law"=some (some (.ref Ea))) (l35:K.lookup Ea=some ⟨acd,YY,.func (fnOf "law" "law" (cZ ou) (cV ou) (bp ou) .none LH LI LJ K5 Eb LK),Zw⟩) (c35:codeIn K Eb "law"=true) (k35:keepIn K (.ref Ea)=true)
  (z1:nsIn K mainGlobals "range"=some none) (z2:nsIn K mainGlobals "zip"=some none) (z3:nsIn K mainGlobals "tuple"=some none) (z4:nsIn K mainGlobals "list"=some none) (z5:nsIn K mainGlobals "int"=some none) (z6:nsIn K mainGlobals "bool"=some none) (z7:nsIn K mainGlobals "isinstance"=some none) (z8:nsIn K mainGlobals "len"=some none) (z9:nsIn K mainGlobals "sum"=some none) (z10:nsIn K mainGlobals "max"=some none) (z11:nsIn K mainGlobals "min"=some none) (z12:nsIn K mainGlobals "enumerate"=some none) (z13:nsIn K mainGlobals "any"=some none) (z14:nsIn K mainGlobals "all"=some none) (z15:nsIn K mainGlobals "str"=some none)
  (hx1:DH K=true) :
  ∃fd:FuncData,(∀(s:Shared)(v:Value),BindsTo s fd ⟨[v],[]⟩ [("script",v)])∧∀base:Heap,K.In base→base.Ns mainGlobals mg→bN l.prog w K mg base bO 10 fa fd ["script"] (zY K):=by
 have e:=XN.symm.trans (dq X G a35);cases e;have T:Txt mg:=⟨jP X G z1,jP X G z2,jP X G z3,jP X G z4,jP X G z5,jP X G z6,jP X G z7,jP X G z8,jP X G z9,jP X G z10,jP X G z11,jP X G z12,jP X G z13,jP X G z14,jP X G z15⟩;obtain⟨PT,SD,RT,LT⟩:=XM X G hx1;have F1:=dF (st:=sR) l1 c1 k1;have F2:=dF (st:=sS) l2 c2 k2;have F3:=dF (st:=sT) l3 c3 k3;have F4:=dF (st:=qx) l4 c4 k4;have F5:=dF (st:=sU) l5 c5 k5;have F6:=dF (st:=qy) l6 c6 k6;have F7:=dF (st:=sV) l7 c7 k7;have F8:=dF (st:=qz) l8 c8 k8;have F9:=dF (st:=sW) l9 c9 k9;have LM:=dF (st:=qA) l10 c10 k10;have LN:=dF (st:=sX) l11 c11 k11;have LO:=dF (st:=sY) l12 c12 k12;have LP:=dF (st:=sZ) l13 c13 k13;have LQ:=dF (st:=tf) l14 c14 k14;have LU:=dF (st:=tm) l15 c15 k15;have LV:=dF (st:=tq) l16 c16 k16;have LW:=dF (st:=tD) l17 c17 k17;have xf:=dF (st:=kl) l18 c18 k18;have xg:=dF (st:=qB) l19 c19 k19;have Ec:=dF (st:=qC) l20 c20 k20;have Ed:=dF (st:=tE) l21 c21 k21;have Ee:=dF (st:=ot) l22 c22 k22;have Ef:=dF (st:=tF) l23 c23 k23;have Eg:=dF (st:=qD) l24 c24 k24;have Eh:=dF (st:=tG) l25 c25 k25;have Ei:=dF (st:=tH) l26 c26 k26;have LX:=dF (st:=tI) l27 c27 k27;have LY:=dF (st:=tJ) l28 c28 k28;have LZ:=dF (st:=tK) l29 c29 k29;have L0:=dF (st:=tL) l30 c30 k30;have L1:=dF (st:=tM) l31 c31 k31;have L3:=dF (st:=qE) l32 c32 k32;have L4:=dF (st:=qF) l33 c33 k33;have L5:=dF (st:=qG) l34 c34 k34;have F35:=dF (st:=ou) l35 c35 k35;have b1:=F1.binds (ps:=["p","number"]) λ_ _ _ _ _ _ us hl=>nL us hl λ_ _=>rfl;have m1:=dq X G a1;have b2:=F2.binds (ps:=["words"]) λ_ _ _ _ _ _ us hl=>pV us hl λ_=>rfl;have m2:=dq X G a2;have b3:=F3.binds (ps:=["words","made"]) λ_ _ _ _ _ _ us hl=>nL us hl λ_ _=>rfl;have m3:=dq X G a3;have b4:=F4.binds (ps:=["words","made"]) λ_ _ _ _ _ _ us hl=>nL us hl λ_ _=>rfl;have m4:=dq X G a4;have b5:=F5.binds (ps:=["words"]) λ_ _ _ _ _ _ us hl=>pV us hl λ_=>rfl;have m5:=dq X G a5;have b6:=F6.binds (ps:=["place","word","parts"]) λ_ _ _ _ _ _ us hl=>me us hl λ_ _ _=>rfl;have m6:=dq X G a6;have b7:=F7.binds (ps:=["words"]) λ_ _ _ _ _ _ us hl=>pV us hl λ_=>rfl;have m7:=dq X G a7;have b8:=F8.binds (ps:=["place","word","parts"]) λ_ _ _ _ _ _ us hl=>me us hl λ_ _ _=>rfl;have m8:=dq X G a8;have b9:=F9.binds (ps:=["word","parts"]) λ_ _ _ _ _ _ us hl=>nL us hl λ_ _=>rfl;have m9:=dq X G a9;have b10:=LM.binds (ps:=["parts"]) λ_ _ _ _ _ _ us hl=>pV us hl λ_=>rfl;have m10:=dq X G a10;have b11:=LN.binds (ps:=["p","words","at","rule"]) λ_ _ _ _ _ _ us hl=>xc us hl λ_ _ _ _=>rfl;have m11:=dq X G a11;have b12:=LO.binds (ps:=["words","behind","at","rule"]) λ_ _ _ _ _ _ us hl=>xc us hl λ_ _ _ _=>rfl;have m12:=dq X G a12;have b13:=LP.binds (ps:=["words","behind","at","text"]) λ_ _ _ _ _ _ us hl=>xc us hl λ_ _ _ _=>rfl;have m13:=dq X G a13;have b14:=LQ.binds (ps:=["rule","found"]) λ_ _ _ _ _ _ us hl=>nL us hl λ_ _=>rfl;have m14:=dq X G a14;have b15:=LU.binds (ps:=["p","found","text"]) λ_ _ _ _ _ _ us hl=>me us hl λ_ _ _=>rfl;have m15:=dq X G a15;have b16:=LV.binds (ps:=["p","found","piece"]) λ_ _ _ _ _ _ us hl=>me us hl λ_ _ _=>rfl;have m16:=dq X G a16;have b17:=LW.binds (ps:=["cell"]) λ_ _ _ _ _ _ us hl=>pV us hl λ_=>rfl;have m17:=dq X G a17;have Ac:=xf.binds (ps:=["p","rows","places"]) λ_ _ _ _ _ _ us hl=>me us hl λ_ _ _=>rfl;have Ad:=dq X G a18;have Ae:=xg.binds (ps:=["p","row","head","place"]) λ_ _ _ _ _ _ us hl=>xc us hl λ_ _ _ _=>rfl;have Af:=dq X G a19;have L6:=Ec.binds (ps:=["p","rows","size"]) λ_ _ _ _ _ _ us hl=>me us hl λ_ _ _=>rfl;have L7:=dq X G a20;have L8:=Ed.binds (ps:=["p","word","number"]) λ_ _ _ _ _ _ us hl=>me us hl λ_ _ _=>rfl;have L9:=dq X G a21;have Ma:=Ee.binds (ps:=["p","one","other"]) λ_ _ _ _ _ _ us hl=>me us hl λ_ _ _=>rfl;have Mb:=dq X G a22;have Mc:=Ef.binds (ps:=["one","other"]) λ_ _ _ _ _ _ us hl=>nL us hl λ_ _=>rfl;have Md:=dq X G a23;have Me:=Eg.binds (ps:=["p","words"]) λ_ _ _ _ _ _ us hl=>nL us hl λ_ _=>rfl;have Mf:=dq X G a24;have Mh:=Eh.binds (ps:=["p","cell"]) λ_ _ _ _ _ _ us hl=>nL us hl λ_ _=>rfl;have Mi:=dq X G a25;have Mj:=Ei.binds (ps:=["parts"]) λ_ _ _ _ _ _ us hl=>pV us hl λ_=>rfl;have Mk:=dq X G a26;have b27:=LX.binds (ps:=["p","one","cell","most"]) λ_ _ _ _ _ _ us hl=>xc us hl λ_ _ _ _=>rfl;have m27:=dq X G a27;have b28:=LY.binds (ps:=["p","cells","most"]) λ_ _ _ _ _ _ us hl=>me us hl λ_ _ _=>rfl;have m28:=dq X G a28;have b29:=LZ.binds (ps:=["p","many","cell"]) λ_ _ _ _ _ _ us hl=>me us hl λ_ _ _=>rfl;have m29:=dq X G a29;have b30:=L0.binds (ps:=["p","words"]) λ_ _ _ _ _ _ us hl=>nL us hl λ_ _=>rfl;have m30:=dq X G a30;have b31:=L1.binds (ps:=["one"]) λ_ _ _ _ _ _ us hl=>pV us hl λ_=>rfl;have m31:=dq X G a31;have b32:=L3.binds (ps:=["p","cells"]) λ_ _ _ _ _ _ us hl=>nL us hl λ_ _=>rfl;have m32:=dq X G a32;have b33:=L4.binds (ps:=["cell"]) λ_ _ _ _ _ _ us hl=>pV us hl λ_=>rfl;have m33:=dq X G a33;have b34:=L5.binds (ps:=["p","pair","cell"]) λ_ _ _ _ _ _ us hl=>me us hl λ_ _ _=>rfl;have m34:=dq X G a34;exact⟨fnOf "law" "law" (cZ ou) (cV ou) (bp ou) .none LH LI LJ K5 Eb LK,λs v=>.of_eq rfl,λbase _ _=>XD F35 T (TY LW) k17 b17 m17 (WH L3 T (VQ LY T (JV Eh) k25 Mh Mi (VN LX T (JV Eh) k25 Mh Mi (JW Ei) k26 Mj Mk) k27 b27 m27) k28 b28 m28 (VZ L1) k31 b31 m31 (V9 LZ T (JW Ei) k26 Mj Mk) k29 b29 m29 (V1 L0 (JP Eg T (JK Ee T (y4 xf T (yO xg T) k19 Ae Af) k18 Ac Ad) k22 Ma Mb (JJ Ef) k23 Mc Md (JH Ed) k21 L8 L9 (Jz Ec T (y4 xf T (yO xg T) k19 Ae Af) k18 Ac Ad) k20 L6 L7) k24 Me Mf) k30 b30 m30) k32 b32 m32 (Xg L4 T) k33 b33 m33 (Xy L5 T (JP Eg T (JK Ee T (y4 xf T (yO xg T) k19 Ae Af) k18 Ac Ad) k22 Ma Mb (JJ Ef) k23 Mc Md (JH Ed) k21 L8 L9 (Jz Ec T (y4 xf T (yO xg T) k19 Ae Af) k18 Ac Ad) k20 L6 L7) k24 Me Mf) k34 b34 m34 (RF LN (Q5 F5 (Hz F4 T PT) k4 b4 m4 (Q3 F6) F6 b6 m6) k5 b5 m5 (RC LO RT (Rf LP T LT) k13 b13 m13 (Rx LQ (QY F2 (QX F7 (QG F3 (Hz F4 T PT) k4 b4 m4) k3 b3 m3 (QT F8 SD (QN LM) k10 b10 m10 (QP F9) k9 b9 m9) F8 b8 m8) k7 b7 m7) k2 b2 m2) k14 b14 m14) k12 b12 m12 (Rr LU (Rp LV (Rj F1 T) k1 b1 m1) k16 b16 m16) k15 b15 m15) k11 b11 m11⟩
theorem walk{l:PySem.W.OpenLaw}{q:Program}{sf:List Str}{XP:(Str→Option Value)→Heap→Prop}{YP:World→Heap→Prop}{d:DefRec}{K:Params→Frag}(hn:l.most=some 63)(u7:d.params.defaults=[])
  (hY:∀(w:World)(h:Heap),YP w h→(K w.params).In h)
  (F:∀(w:World)(mg:Str→Option Value)(fa:Addr)(h:Heap),(K w.params).In h→h.Ns mainGlobals mg→mg d.name=some (.ref fa)→
   ∃fd:FuncData,(∀(s:Shared)(u:Value),BindsTo s fd ⟨[u],[]⟩ [("script",u)])∧∀base:Heap,(K w.params).In base→base.Ns mainGlobals mg→bN l.prog w (K w.params) mg base bO 10 fa fd ["script"] (zY (K w.params))) :
  PySem.W.WalkO q sf XP YP l.row.toRowW d [] (λf vs=>PySem.call f vs):=
 L2.Oe (n:=63) (k:=10) (x := "script") (CX:=λ_=>bO) (sp:=λw=>zY (K w.params)) hn (by decide) u7 ⟨rfl,by decide,by decide⟩ hY F (λ_ _ a ns hl _ hS=>⟨a,ns,rfl,hS,hl,λ_=>rfl⟩) λ_ _ _ _ _ z=>z
end S21
structure PySem.W.Fast:Prop where
 (tw13208790840402383880 tw15532592513433048510 tw3854118270340656461 tw11685671286713394061 tw3221224352089238191 tw7871208267632953681 tw5815305361546146479 tw18267904782233099202 tw13159953790778606001 tw5707789082195538595 tw1226412179159883077 tw7594802921823871634 tw6056749735539914400 tw15795430342808938375 tw6021354080033934449 tw6808846247793038507 tw6932834144662764059 tw14386373088632214736 tw6792964197290680254 tw7357811969197758252 tw5372944184220369582 tw6400523893531961903 tw10334966154900680250 tw7509774153364171626 tw13199030688468935756 tw15423958667194403016 tw17835005118542763534 tw11124121298994908696 tw1159076649406850120 tw7974451136688927668 tw16376471691086613657 tw4263973024673384753 tw16834738569848230164 tw1180086501099947225 tw8336714827411142178 tw6434258757938267936 tw12117868803156132799 tw10823171564250819599 tw12581736690351284614 tw5280513783344412672 tw3327223293235752329 tw7295891038912484995 tw1924800150198006806 tw11660486396190281707 tw5861741756256756138 tw8211002295612697542 tw15792922618482040253 tw16075874322534059307 tw12143723892122138084 tw5523778257281125185 tw189179107120625795 tw6378932585245557661 tw11168932797536510548 tw12676132121791774580 tw487214635734233244 tw1392251184827121585 tw8518411066922753713 tw17163226168386323772 tw15527435707899917245 tw16435355874419150511 tw12238211129545308146 tw15701306477777429493 tw16706165486938795575 tw2074191574628295922 tw11457765961003471108 tw6049826520920347043 tw14350209496170832454 tw9108346481091237592 tw12030007553050633615 tw15891253628053065629 tw10711437416647353259 tw12198517401941529080 tw15236954507567028809 tw15274913419486259997 tw3110172652782602860 tw5108461154082422364 tw715014393910725003 tw3812620913299564038 tw14744615467304597548 tw17718055902974141249 tw9619938524122338683 tw1856914169873923734 tw17356773609691888415 tw2643702234822768197 tw6564266379703112381 tw11541637893954692169 tw12938135362967484480 tw14380868948295600502 tw4098223844541726052 tw16711608226117066077 tw17072434871165501813 tw13345855885080228260 tw17605726082347924578 tw14449273036644344071 tw9571858553145450588 tw16336276924732524092 tw17915713430194999223 tw3762095738598084240 tw5293721782715754725 tw9347982950348472792:True)
open PySem PySem.W PyProof.Rows
set_option maxRecDepth 100000 in
set_option maxHeartbeats 0 in
theorem PySem.Challenge.cw_bentwires_k51_each_rule_holds : PySem.Challenge.rw_bentwires_k51_each_rule.Holds := by
 w_on;o_law;k_head;(case hw=>w_witness2)
 k_fill
 refine S21.walk (l:=PySem.Challenge.rw_bentwires_k51_each_rule) rfl rfl (fun w h Y=>PySem.W.kIn_of Y) ?F
 case F =>
  intro w mg fa h KX G hmg
  refine' S21.all_mk KX G hmg ?a1 ?l1 ?c1 ?k1 ?a2 ?l2 ?c2 ?k2 ?a3 ?l3 ?c3 ?k3 ?a4 ?l4 ?c4 ?k4 ?a5 ?l5 ?c5 ?k5 ?a6 ?l6 ?c6 ?k6 ?a7 ?l7 ?c7 ?k7 ?a8 ?l8 ?c8 ?k8 ?a9 ?l9 ?c9 ?k9 ?a10 ?l10 ?c10 ?k10 ?a11 ?l11 ?c11 ?k11 ?a12 ?l12 ?c12 ?k12 ?a13 ?l13 ?c13 ?k13 ?a14 ?l14 ?c14 ?k14 ?a15 ?l15 ?c15 ?k15 ?a16 ?l16 ?c16 ?k16 ?a17 ?l17 ?c17 ?k17 ?a18 ?l18 ?c18 ?k18 ?a19 ?l19 ?c19 ?k19 ?a20 ?l20 ?c20 ?k20 ?a21 ?l21 ?c21 ?k21 ?a22 ?l22 ?c22 ?k22 ?a23 ?l23 ?c23 ?k23 ?a24 ?l24 ?c24 ?k24 ?a25 ?l25 ?c25 ?k25 ?a26 ?l26 ?c26 ?k26 ?a27 ?l27 ?c27 ?k27 ?a28 ?l28 ?c28 ?k28 ?a29 ?l29 ?c29 ?k29 ?a30 ?l30 ?c30 ?k30 ?a31 ?l31 ?c31 ?k31 ?a32 ?l32 ?c32 ?k32 ?a33 ?l33 ?c33 ?k33 ?a34 ?l34 ?c34 ?k34 ?a35 ?l35 ?c35 ?k35 ?z1 ?z2 ?z3 ?z4 ?z5 ?z6 ?z7 ?z8 ?z9 ?z10 ?z11 ?z12 ?z13 ?z14 ?z15 ?hx1
  (case a1=>k_is)
  (case l1=>k_is)
  (case c1=>k_is)
  (case k1=>k_is)
  (case a2=>k_is)
  (case l2=>k_is)
  (case c2=>k_is)
  (case k2=>k_is)
  (case a3=>k_is)
  (case l3=>k_is)
  (case c3=>k_is)
  (case k3=>k_is)
  (case a4=>k_is)
  (case l4=>k_is)
  (case c4=>k_is)
  (case k4=>k_is)
  (case a5=>k_is)
  (case l5=>k_is)
  (case c5=>k_is)
  (case k5=>k_is)
  (case a6=>k_is)
  (case l6=>k_is)
  (case c6=>k_is)
  (case k6=>k_is)
  (case a7=>k_is)
  (case l7=>k_is)
  (case c7=>k_is)
  (case k7=>k_is)
  (case a8=>k_is)
  (case l8=>k_is)
  (case c8=>k_is)
  (case k8=>k_is)
  (case a9=>k_is)
  (case l9=>k_is)
  (case c9=>k_is)
  (case k9=>k_is)
  (case a10=>k_is)
  (case l10=>k_is)
  (case c10=>k_is)
  (case k10=>k_is)
  (case a11=>k_is)
  (case l11=>k_is)
  (case c11=>k_is)
  (case k11=>k_is)
  (case a12=>k_is)
  (case l12=>k_is)
  (case c12=>k_is)
  (case k12=>k_is)
  (case a13=>k_is)
  (case l13=>k_is)
  (case c13=>k_is)
  (case k13=>k_is)
  (case a14=>k_is)
  (case l14=>k_is)
  (case c14=>k_is)
  (case k14=>k_is)
  (case a15=>k_is)
  (case l15=>k_is)
  (case c15=>k_is)
  (case k15=>k_is)
  (case a16=>k_is)
  (case l16=>k_is)
  (case c16=>k_is)
  (case k16=>k_is)
  (case a17=>k_is)
  (case l17=>k_is)
  (case c17=>k_is)
  (case k17=>k_is)
  (case a18=>k_is)
  (case l18=>k_is)
  (case c18=>k_is)
  (case k18=>k_is)
  (case a19=>k_is)
  (case l19=>k_is)
  (case c19=>k_is)
  (case k19=>k_is)
  (case a20=>k_is)
  (case l20=>k_is)
  (case c20=>k_is)
  (case k20=>k_is)
  (case a21=>k_is)
  (case l21=>k_is)
  (case c21=>k_is)
  (case k21=>k_is)
  (case a22=>k_is)
  (case l22=>k_is)
  (case c22=>k_is)
  (case k22=>k_is)
  (case a23=>k_is)
  (case l23=>k_is)
  (case c23=>k_is)
  (case k23=>k_is)
  (case a24=>k_is)
  (case l24=>k_is)
  (case c24=>k_is)
  (case k24=>k_is)
  (case a25=>k_is)
  (case l25=>k_is)
  (case c25=>k_is)
  (case k25=>k_is)
  (case a26=>k_is)
  (case l26=>k_is)
  (case c26=>k_is)
  (case k26=>k_is)
  (case a27=>k_is)
  (case l27=>k_is)
  (case c27=>k_is)
  (case k27=>k_is)
  (case a28=>k_is)
  (case l28=>k_is)
  (case c28=>k_is)
  (case k28=>k_is)
  (case a29=>k_is)
  (case l29=>k_is)
  (case c29=>k_is)
  (case k29=>k_is)
  (case a30=>k_is)
  (case l30=>k_is)
  (case c30=>k_is)
  (case k30=>k_is)
  (case a31=>k_is)
  (case l31=>k_is)
  (case c31=>k_is)
  (case k31=>k_is)
  (case a32=>k_is)
  (case l32=>k_is)
  (case c32=>k_is)
  (case k32=>k_is)
  (case a33=>k_is)
  (case l33=>k_is)
  (case c33=>k_is)
  (case k33=>k_is)
  (case a34=>k_is)
  (case l34=>k_is)
  (case c34=>k_is)
  (case k34=>k_is)
  (case a35=>k_is)
  (case l35=>k_is)
  (case c35=>k_is)
  (case k35=>k_is)
  (case z1=>k_is)
  (case z2=>k_is)
  (case z3=>k_is)
  (case z4=>k_is)
  (case z5=>k_is)
  (case z6=>k_is)
  (case z7=>k_is)
  (case z8=>k_is)
  (case z9=>k_is)
  (case z10=>k_is)
  (case z11=>k_is)
  (case z12=>k_is)
  (case z13=>k_is)
  (case z14=>k_is)
  (case z15=>k_is)
  (case hx1=>kernel_rfl)

import PyProof.Rows.All
import KE.KTabLook
import KE.KLam
import Wide.All
import OpenK.AllK
import Wide.FinOn
import Lean
import PyProof.EqAt
import PyProof.EqKinds
import PyProof.TupleCall
import PySem.Challenge.RW_bentwires_k64_whole_any_drawing
set_option compiler.extract_closed false
set_option maxHeartbeats 3900000
set_option maxRecDepth 100000
set_option Elab.async false
set_option linter.all false
open PySem.W(Frag keepIn nsIn codeIn fnOf kitOne CodeHd tabIn kqdOk Dat)
noncomputable section
abbrev bj:=@List.length_map
abbrev cf:=@Nat.le_refl
abbrev cn:=@List.getElem?_eq_getElem
abbrev cx:=@List.length_append
abbrev cz:=@List.getD_eq_getElem?_getD
abbrev cN:=@Option.some.inj
abbrev cP:=@List.mem_cons_self
abbrev cQ:=@List.mem_singleton
abbrev cS:=@List.mem_cons
abbrev cY:=@List.map_append
abbrev dm:=@List.mem_append
abbrev dq:=@List.mem_map
abbrev du:=@List.getElem?_map
abbrev dv:=@List.length_take
abbrev dB:=@List.length_cons
abbrev dE:=@List.size_toArray
abbrev dF:=@PySem.W.mg_of
abbrev dN:=@PySem.Heap.lt_size
abbrev dO:=@List.getElem?_eq_some_iff
abbrev dU:=@List.mem_cons_of_mem
abbrev dX:=@PySem.Heap.get?_push_of_some
abbrev dY:=@List.mem_of_getElem?
abbrev eJ:=@Nat.le_trans
abbrev fg:=@Bool.and_eq_true
abbrev fE:=@List.length_drop
abbrev fV:=@Int.one_mul
abbrev gG:=@List.length_replicate
abbrev gH:=@List.append_assoc
abbrev gU:=@Nat.ne_of_lt
abbrev gX:=@Bool.false_ne_true
abbrev gY:=@List.getElem_mem
abbrev gZ:=@List.take_add_one
abbrev iA:=@List.getElem?_append_left
abbrev iK:=@List.append_nil
abbrev iL:=@List.getElem?_append_right
abbrev iW:=@PySem.Heap.get?_push_size
abbrev iX:=@List.mem_append_right
abbrev ji:=@Nat.lt_of_lt_of_le
abbrev jj:=@List.getElem?_eq_none
abbrev jI:=@Int.dvd_sub
abbrev jJ:=@PySem.F.plainAttrs_list
abbrev jZ:=@List.mem_filter
abbrev kj:=@Nat.zero_le
abbrev lA:=@Int.zero_add
abbrev lB:=@List.take_of_length_le
abbrev lY:=@Int.emod_nonneg
abbrev lZ:=@Int.emod_lt_of_pos
abbrev l5:=@List.mem_iff_getElem
abbrev l6:=@Nat.add_assoc
abbrev nc:=@List.mem_append_left
abbrev nh:=@Int.dvd_neg
abbrev nN:=@List.mem_range
abbrev nO:=@PySem.mem_of_lookup
abbrev nP:=@List.map_cons
abbrev nQ:=@Nat.le_add_right
abbrev nR:=@Int.mul_comm
abbrev nS:=@PySem.PassesOwn.never
abbrev nT:=@PySem.W.mg_none_of
abbrev oK:=@PySem.Heap.size_push
abbrev oM:=@List.length_range
abbrev oO:=@List.mem_of_mem_take
abbrev oP:=@List.range_succ
abbrev pE:=@List.replicate_succ
abbrev pF:=@PySem.Heap.SameBut.update
abbrev pG:=@List.all_eq_true
abbrev pH:=@Int.dvd_add
abbrev pI:=@List.filter_append
abbrev pJ:=@List.filter_nil
abbrev pK:=@List.length_take_le
abbrev pL:=@List.mem_of_mem_drop
abbrev pM:=@List.reverse_append
abbrev qD:=@Nat.le_of_lt
abbrev qE:=@PySem.W.kia_one
abbrev qF:=@PySem.F.slot_list_append
abbrev qG:=@PySem.F.type_list_append
abbrev r9:=@List.take_length
abbrev tZ:=@List.lookup_cons
abbrev t8:=@List.getElem?_drop
abbrev t9:=@PySem.AutoSeq1.wpAny_loadPart'
abbrev ua:=@List.reverse_cons
abbrev vK:=@Nat.lt_irrefl
abbrev vL:=@List.getElem?_replicate
abbrev vM:=@PySem.Heap.get?_update_self
abbrev vN:=@List.flatten_cons
abbrev vO:=@List.filter_cons_of_pos
abbrev vP:=@List.length_filter_le
abbrev xR:=@List.of_mem_zip
abbrev xS:=@List.not_mem_nil
abbrev xT:=@Int.dvd_mul_of_dvd_right
abbrev xU:=@List.filter_cons_of_neg
abbrev xV:=@List.mem_map_of_mem
abbrev xW:=@PySem.F.slot_list_pop
abbrev xX:=@PySem.F.type_list_pop
abbrev xY:=@List.flatMap_cons
abbrev xZ:=@List.length_reverse
abbrev Ba:=@PyProof.Rows.callWith_type1
abbrev Bb:=@PyProof.Rows.slot_tuple_getitem
abbrev Bc:=@List.map_congr_left
abbrev Bd:=@List.pairwise_cons
abbrev Be:=@List.reverse_reverse
abbrev Bf:=@List.getD_cons_zero
abbrev Bg:=@List.getD_cons_succ
abbrev E7:=@PySem.W.cellsFrom_some
abbrev E8:=@PySem.F.slot_tuple_count
abbrev E9:=@PySem.F.type_tuple_count
abbrev LC:=@PySem.F.slot_tuple_iterator_next
abbrev LD:=@Int.mul_le_mul_of_nonneg_left
abbrev aa:=@decide_eq_false
abbrev ae:=@if_pos
abbrev af:=@if_neg
abbrev ag:=@PySem.wpAny_mono
abbrev ah:=@PySem.wpAny_truthy_bool
abbrev ai:=@congrArg
abbrev aj:=@PySem.wpAny_execs_nil
abbrev ak:=@PySem.wpAny_bind
abbrev ao:=@PySem.wpAny_holding
abbrev aq:=@PySem.wpAny_pure
abbrev au:=@PySem.wpAny_passesOwn
abbrev av:=@PySem.wpAny_Call_Name_kw
abbrev ax:=@PySem.wpAny_newFunctionEnv_cells
abbrev ay:=@PySem.wpAny_callSpecial?_slot
abbrev az:=@PySem.wpAny_call_entry
abbrev aA:=@PySem.wpAny_newObj_type
abbrev aC:=@PySem.call_meets
abbrev aD:=@decide_eq_true
abbrev aE:=@PySem.wpAny_ite_false
abbrev aF:=@decide_eq_true_eq
abbrev aG:=@of_decide_eq_true
abbrev Kp(K:Frag)(f:PySem.Addr):Prop:=keepIn K (.ref f)=true
abbrev Mg(m:PySem.Str→Option PySem.Value)(x:PySem.Str)(f:PySem.Addr):Prop:=m x=some (.ref f)
abbrev QV:=PySem.Value→PySem.Shared→Prop
abbrev LL:=List (List Int)
variable{P:PySem.Program}{w:PySem.World}{K:Frag}{mg:PySem.Str→Option PySem.Value}{base:PySem.Heap}
namespace L2
open PySem PySem.Spec PyProof.Rows
variable{A:Around}{E:QV}{H:Hp}{M:Model}{Q:Unit→Shared→Prop}{X:Cx}{a b:Addr}{ch fp:List Addr}{e tg:Expr}{f:Value→Value→Sem Value}{g:TG}{h:Heap}{i n t':Nat}{o:Obj}{op:CmpOp}{aH:List (Addr×Obj)}{r:R2}{s:Shared}{tb:TS}{u:Value}{us:List Value}{v:V}{x:Str}{σ:St}
abbrev Key:=Sum Int Str
noncomputable def vQ:Key→Value→Bool
 | .inl k,v=>Value.isInt k v
 | .inr x,v=>Value.isStrOf x v
noncomputable def TK(w:World):Key→Int
 | .inl k=>hashInt k
 | .inr x=>hashStr w x
theorem qH:∀{k:Key}{v:Value},vQ k v=true→(∃i t,k=Sum.inl i∧v=Value.int i t)∨(∃x t,k=Sum.inr x∧v=Value.str x t)
 | .inl i,v,h=>by
  obtain⟨t,e⟩:=Value.isInt_shape (k:=i) (v:=v) h;exact .inl ⟨i,t,rfl,e⟩
 | .inr x,v,h=>by
  obtain⟨t,e⟩:=Value.isStrOf_shape (x:=x) (v:=v) h;exact .inr ⟨x,t,rfl,e⟩
theorem TL(i:Int)(t:Tok):vQ (.inl i) (.int i t)=true:=by simp[vQ,Value.isInt]
theorem TM(x:Str)(t:Tok):vQ (.inr x) (.str x t)=true:=by simp[vQ,Value.isStrOf]
theorem TN(a b:Int):decide ((Sum.inl a:Key)=Sum.inl b)=(a==b):=by
 by_cases e:a=b
 ·subst e;simp
 ·have h:¬(Sum.inl a:Key)=Sum.inl b:=λq=>e (Sum.inl.inj q);rw[aa h];exact(beq_eq_false_iff_ne.mpr e).symm
theorem TQ(a b:Str):decide ((Sum.inr a:Key)=Sum.inr b)=decide (a=b):=by
 by_cases e:a=b
 ·subst e;simp
 ·have h:¬(Sum.inr a:Key)=Sum.inr b:=λq=>e (Sum.inr.inj q);rw[aa h,aa e]
theorem TU(a:Int)(b:Str):decide ((Sum.inl a:Key)=Sum.inr b)=false:=aa (λq=>nomatch q)
theorem TV(a:Str)(b:Int):decide ((Sum.inr a:Key)=Sum.inl b)=false:=aa (λq=>nomatch q)
noncomputable def kl(prog:Program)(w:World):PySem.KeyKind prog w Key where
 is:=vQ
 hash:=TK w
 inj:=λv a b ha hb=>by
  rcases qH ha with⟨i,t,rfl,rfl⟩|⟨x,t,rfl,rfl⟩
  ·rcases qH hb with⟨j,u,rfl,e⟩|⟨y,u,rfl,e⟩
   ·injection e with e1 _;rw[e1]
   ·exact nomatch e
  ·rcases qH hb with⟨j,u,rfl,e⟩|⟨y,u,rfl,e⟩
   ·exact nomatch e
   ·injection e with e1 _;rw[e1]
 byValue:=λk v h=>by
  rcases qH h with⟨i,t,rfl,rfl⟩|⟨x,t,rfl,rfl⟩<;>rfl
 pyHash:=λhv h=>by
  rcases qH hv with⟨i,t,rfl,rfl⟩|⟨x,t,rfl,rfl⟩
  ·exact wpAny_pyHash_int h
  ·exact wpAny_pyHash_str h
 eqBool:=λhu hv h=>by
  rcases qH hu with⟨i,t,rfl,rfl⟩|⟨x,t,rfl,rfl⟩
  ·rcases qH hv with⟨j,u,rfl,rfl⟩|⟨y,u,rfl,rfl⟩
   ·rw[TN]at h;exact wpAny_eqBool_int h
   ·rw[TU]at h;exact SeqAt.EqAt.int_str i t y u _ _ _ _ h
  ·rcases qH hv with⟨j,u,rfl,rfl⟩|⟨y,u,rfl,rfl⟩
   ·rw[TV]at h;exact SeqAt.EqAt.str_int x t j u _ _ _ _ h
   ·rw[TQ]at h;exact wpAny_eqBool_str h
 «strs»:=λk x t v h=>by
  rcases qH h with⟨i,u,rfl,e⟩|⟨y,u,rfl,e⟩
  ·exact nomatch e
  ·injection e with e1 _;subst e1;cases v<;>rfl
theorem TX(prog:Program)(w:World)(i:Int)(t:Tok):(kl prog w).is (.inl i) (.int i t)=true:=TL i t
theorem TY(prog:Program)(w:World)(x:Str)(t:Tok):(kl prog w).is (.inr x) (.str x t)=true:=TM x t
inductive V where
 |cg|bl (b:Bool)|int (i:Int)|str (x:Str)|ni (b:Array UInt8)|vR (b:UInt64)|ref (a:Addr)|ty (n:String)
 deriving DecidableEq
def RelV:V→Value→Prop
 | .cg,u=>u=Value.none
 | .bl b,u=>u=Value.bool b
 | .int i,u=>∃t,u=Value.int i t
 | .str x,u=>∃t,u=Value.str x t
 | .ni b,u=>∃t,u=Value.bytes b t
 | .vR b,u=>∃t,u=Value.float b t
 | .ref a,u=>u=Value.ref a
 | .ty n,u=>u=Value.type n
abbrev Vals:List V→List Value→Prop:=Paired RelV
theorem Vals.length{xs:List V}{us:List Value}(r:Vals xs us):xs.length=us.length:=Paired.length r
theorem Vals.get:∀{xs:List V}{us:List Value}{i:Nat}{x:V},Vals xs us→xs[i]?=some x→∃u,us[i]?=some u∧RelV x u
 |_,_,_,_,.nil,e=>by simp at e
 |_,_,0,_,.cons r _,e=>by simp at e;subst e;exact⟨_,rfl,r⟩
 |_,_,i+1,x,.cons _ t,e=>by
  obtain⟨u,h1,h2⟩:=Vals.get (i:=i) (x:=x) t (by simpa using e);exact⟨u,by simpa using h1,h2⟩
theorem Vals.set{x:V}{u:Value}(r:RelV x u):∀{xs:List V}{us:List Value}(i:Nat),Vals xs us→Vals (xs.set i x) (us.set i u)
 |_,_,_,.nil=>.nil
 |_,_,0,.cons _ t=>.cons r t
 |_,_,i+1,.cons q t=>.cons q (Vals.set r i t)
theorem Vals.append:∀{xs ys:List V}{us ws:List Value},Vals xs us→Vals ys ws→Vals (xs++ys) (us++ws)
 |_,_,_,_,.nil,s=>s
 |_,_,_,_,.cons r t,s=>.cons r (Vals.append t s)
theorem Vals.take:∀{xs:List V}{us:List Value}(n:Nat),Vals xs us→Vals (xs.take n) (us.take n)
 |_,_,0,_=>.nil
 |_,_,_+1,.nil=>.nil
 |_,_,n+1,.cons r t=>.cons r (Vals.take n t)
theorem Vals.drop:∀{xs:List V}{us:List Value}(n:Nat),Vals xs us→Vals (xs.drop n) (us.drop n)
 |_,_,0,r=>r
 |_,_,_+1,.nil=>.nil
 |_,_,n+1,.cons _ t=>Vals.drop n t
def oQ:Option V→Option Value→Prop
 |some v,some u=>RelV v u
 |none,none=>True
 |_,_=>False
def KV{κ:Type}:List (κ×V)→List (κ×Value)→Prop:=Paired λ(p:κ×V)(q:κ×Value)=>p.1=q.1∧RelV p.2 q.2
noncomputable def kV:Key→V
 | .inl i=>.int i
 | .inr x=>.str x
inductive HO where
 |lst (xs:List V)
 |tup (xs:List V)
 |dK (aU:List (Key×V))|dT (aU:List (List Key×V))
 |set (S:Int→Bool) (n:Nat)
 |ins (C dx:Addr) (fs:List (Str×V))
 |own (x:Addr)
 |xd (fs:List (Str×V))
 |met (f x:Addr)
 |Bh (lo hi:Int)
 |jK (o:Obj) (u:HO)
 |fh (ps:Array Value)
 |ext (φ:Heap→Prop)
abbrev Hp:=Addr→Option HO
noncomputable def upd(H:Hp)(a:Addr)(o:HO):Hp:=λb=>if b=a then some o else H b
theorem aX{o:HO}:upd H a o a=some o:=by unfold upd;rw[ae rfl]
theorem bZ{o:HO}(h:b≠a):upd H a o b=H b:=by unfold upd;rw[af h]
theorem TZ{o u:HO}(h:H a=some o)(h':H b=some u)(d:o≠u):a≠b:=by
 intro e;subst e;rw[h]at h';exact d (cN h')
theorem eQ{o:HO}(h:H a=some o)(h':H b=none):a≠b:=by
 intro e;subst e;rw[h]at h';cases h'
def pN(h:Heap)(a:Addr)(items:Array Value):Prop:=∃o,h.get? a=some o∧o.cls=.type "tuple"∧o.dict=none∧∃n,o.data=.seq items n
theorem pN.tup{items:Array Value}(x:pN h a items):IsTup h a items:=let ⟨o,e,c,_,n,d⟩:=x;⟨o,e,c,n,d⟩
theorem pN.new(h:Heap)(items:Array Value):pN (h.push { cls:=.type "tuple",data:=.seq items }) h.objs.size items:=⟨_,iW _ rfl,rfl,rfl,_,rfl⟩
section
variable(P:Program)(w:World)
def eC(H:Hp)(h:Heap)(a:Addr):HO→Prop
 | .lst xs=>xs.length≤sizeLine∧∃(its:List Value)(n:Nat),Vals xs its∧h.get? a=some { cls:=.type "list",data:=.seq its.toArray n }
 | .tup xs=>xs.length≤sizeLine∧∃its:List Value,Vals xs its∧pN h a its.toArray
 | .dK aU=>aU.length≤sizeLine∧(a==sysModules)=false∧∃vs,KV aU vs∧h.DictOf (kl P w) a vs
 | .dT aU=>aU.length≤sizeLine∧(a==sysModules)=false∧∃xs:List (List Key×Addr×Value),
   Paired (λ(p:List Key×V)(q:List Key×Addr×Value)=>p.1=q.1∧H q.2.1=some (.tup (p.1.map kV))∧RelV p.2 q.2.2) aU xs∧
   ∃o es ep,h.get? a=some o∧o.ExactDict∧o.data=.dict es ep∧es.toList=xs.map (entryOfKey (tupleKind (kl P w)))∧(xs.map (·.1)).Nodup
 | .set S n=>h.SetOf (intKind P w) a S n
 | .ins C dx fs=>H dx=some (.own a)∧fs.length≤1000∧dx≠a∧h.get? a=some (PySem.W.instObj C dx)∧
   ∃mA,h.Ns1 dx mA∧(∀f,oQ (fs.lookup f) (mA f))∧PySem.Within mA (fs.map (·.1))
 | .own _=>∃o,h.get? a=some o
 | .xd fs=>∃mA,h.Ns1 a mA∧∀f,oQ (fs.lookup f) (mA f)
 | .Bh lo hi=>∃t u v,h.get? a=some { cls:=.type "range",data:=.fields #[.int lo t,.int hi u,.int 1 v] }
 | .jK o u=>h.get? a=some o∧eC H h a u
 | .fh ps=>h.get? a=some { cls:=.none,data:=.fields ps }
 | .met f x=>h.get? a=some (PySem.W.methodObj (.ref f) (.ref x))
 | .ext φ=>φ h∧(∃o,h.get? a=some o)∧∀h1 h2:Heap,φ h1→(∀o,h1.get? a=some o→h2.get? a=some o)→φ h2
def dG(H:Hp)(h:Heap):Prop:=∀a o,H a=some o→eC P w H h a o
end
section
variable{P:Program}{w:World}{H H':Hp}{h h':Heap}{a:Addr}{o:HO}
theorem eC.lt(x:eC P w H h a o):a<h.objs.size:=by
 cases o with
 |lst xs=>obtain⟨_,_,_,_,e⟩:=x;exact dN e
 |tup xs=>obtain⟨_,_,_,p⟩:=x;exact p.tup.lt
 |dK aU=>obtain⟨_,_,_,_,o,_,_,e,_⟩:=x;exact dN e
 |dT aU=>obtain⟨_,_,_,_,o,_,_,e,_⟩:=x;exact dN e
 |set S n=>obtain⟨o,_,_,_,e,_⟩:=x;exact dN e
 |ins C dx fs=>obtain⟨_,_,_,e,_⟩:=x;exact dN e
 |own y=>obtain⟨_,e⟩:=x;exact dN e
 |xd fs=>obtain⟨_,⟨_,_,_,e,_⟩,_⟩:=x;exact dN e
 |Bh lo hi=>obtain⟨_,_,_,e⟩:=x;exact dN e
 |jK ob u=>obtain⟨e,_⟩:=x;exact dN e
 |fh ps=>exact dN (show h.get? a=some _ from x)
 |met f y=>exact dN (show h.get? a=some _ from x)
 |ext φ=>obtain⟨_,⟨_,e⟩,_⟩:=x;exact dN e
theorem Paired.Fb{α β:Type}{F G:α→β→Prop}:∀{l₁:List α}{l₂:List β},Paired F l₁ l₂→(∀a b,F a b→G a b)→Paired G l₁ l₂
 |_,_,.nil,_=>.nil
 |_,_,.cons r t,f=>.cons (f _ _ r) (Paired.Fb t f)
theorem eC.oR(x:eC P w H h a o)(k:∀b u,(b=a∨H b=some (.own a))→h.get? b=some u→h'.get? b=some u)
  (ho:∀b,H b=some (.own a)→H' b=some (.own a)) (ht:∀b xs,H b=some (.tup xs)→H' b=some (.tup xs)):eC P w H' h' a o:=by
 induction o with
 |lst xs=>obtain⟨z,its,n,r,e⟩:=x;exact⟨z,its,n,r,k _ _ (.inl rfl) e⟩
 |tup xs=>obtain⟨z,its,r,ob,e,c⟩:=x;exact⟨z,its,r,ob,k _ _ (.inl rfl) e,c⟩
 |dK aU=>obtain⟨z,y,vs,r,ob,es,ep,e,c⟩:=x;exact⟨z,y,vs,r,ob,es,ep,k _ _ (.inl rfl) e,c⟩
 |dT aU=>
  obtain⟨z,y,xs,r,ob,es,ep,e,c⟩:=x;exact⟨z,y,xs,Paired.Fb r λp q z=>⟨z.1,ht _ _ z.2.1,z.2.2⟩,ob,es,ep,k _ _ (.inl rfl) e,c⟩
 |set S n=>obtain⟨ob,es,ep,t,e,c⟩:=x;exact⟨ob,es,ep,t,k _ _ (.inl rfl) e,c⟩
 |ins C dx fs=>
  obtain⟨d,z,ne,e,mA,⟨od,es,ep,e2,c⟩,r⟩:=x;exact⟨ho _ d,z,ne,k _ _ (.inl rfl) e,mA,⟨od,es,ep,k _ _ (.inr d) e2,c⟩,r⟩
 |own y=>obtain⟨ob,e⟩:=x;exact⟨ob,k _ _ (.inl rfl) e⟩
 |xd fs=>obtain⟨mA,⟨od,es,ep,e,c⟩,r⟩:=x;exact⟨mA,⟨od,es,ep,k _ _ (.inl rfl) e,c⟩,r⟩
 |Bh lo hi=>obtain⟨t,u,v,e⟩:=x;exact⟨t,u,v,k _ _ (.inl rfl) e⟩
 |jK ob u ih=>obtain⟨e,q⟩:=x;exact⟨k _ _ (.inl rfl) e,ih q⟩
 |fh ps=>
  have e:h.get? a=some { cls:=.none,data:=.fields ps }:=x;show h'.get? a=some { cls:=.none,data:=.fields ps };exact k a _ (.inl rfl) e
 |met f y=>
  have e:h.get? a=some (PySem.W.methodObj (.ref f) (.ref y)):=x;show h'.get? a=some (PySem.W.methodObj (.ref f) (.ref y));exact k a _ (.inl rfl) e
 |ext φ=>obtain⟨p,⟨o,e⟩,st⟩:=x;exact⟨st _ _ p λo q=>k _ _ (.inl rfl) q,⟨o,k _ _ (.inl rfl) e⟩,st⟩
theorem dG.lt(x:dG P w H h)(e:H a=some o):a<h.objs.size:=(x a o e).lt
theorem dG.fresh(x:dG P w H h)(e:h.objs.size≤a):H a=none:=by
 cases q:H a with
 |none=>rfl
 |some u=>exact absurd (ji (x.lt q) e) (vK _)
theorem dG.kept(x:dG P w H h)(k:∀b u,h.get? b=some u→h'.get? b=some u):dG P w H h':=λa o e=>
 (x a o e).oR (λb u _ q=>k b u q) (λ_ q=>q) λ_ _ q=>q
theorem dG.laid(x:dG P w H h)(k:∀b u,h.get? b=some u→h'.get? b=some u)(hp:h.objs.size≤a)(new:eC P w (upd H a o) h' a o):dG P w (upd H a o) h':=λb u e=>by
 have hn:=x.fresh hp;by_cases hb:b=a
 ·subst hb;rw[aX]at e;cases e;exact new
 ·rw[bZ hb]at e;exact(x b u e).oR (λc v _ q=>k c v q) (λc q=>by rw[bZ (eQ q hn)];exact q) λc xs q=>by rw[bZ (eQ q hn)];exact q
end
def Rd(H:Hp)(a:Addr)(u:HO):Prop:=H a=some u∨∃o,H a=some (.jK o u)
theorem Rd.ok{P:Program}{w:World}{u:HO}(r:Rd H a u)(x:dG P w H h):eC P w H h a u:=by
 rcases r with r|⟨o,r⟩
 ·exact x a u r
 ·obtain⟨_,q⟩:=x a _ r;exact q
def x4:Option HO→Prop
 |some (.lst _)=>True
 |some (.dK _)=>True
 |some (.dT _)=>True
 |some (.set _ _)=>True
 |some (.ins _ _ _)=>True
 |some (.ext _)=>True
 |_=>False
section
variable{P:Program}{w:World}{H:Hp}{h h':Heap}{x e:Addr}{o':HO}
theorem dG.write(ok:dG P w H h)(mu:x4 (H x))(he:e=x∨H e=some (.own x))(k:∀b u,b≠e→h.get? b=some u→h'.get? b=some u)(vS:∃u,h'.get? e=some u)
  (new:eC P w (upd H x o') h' x o'):dG P w (upd H x o') h':=λb u q=>by
 have LF:∀c y,H c=some (.own y)→c≠x:=λc y r z=>by subst z;rw[r]at mu;exact mu
 have T1:∀c xs,H c=some (.tup xs)→c≠x:=λc xs r z=>by subst z;rw[r]at mu;exact mu
 by_cases hb:b=x
 ·subst hb;rw[aX]at q;cases q;exact new
 ·rw[bZ hb]at q;by_cases ub:b=e
  ·have q':H b=some (.own x):=by
    rcases he with z|z
    ·exact absurd (ub.trans z) hb
    ·rw[ub];exact z
   rw[q]at q';cases q';obtain⟨v,hv⟩:=vS;exact⟨v,by rw[ub];exact hv⟩
  ·refine(ok b u q).oR (λc v hc r=>k c v ?_ r) (λc r=>by rw[bZ (LF c b r)];exact r) λc xs r=>by rw[bZ (T1 c xs r)];exact r
   rcases hc with rfl|hc
   ·exact ub
   ·rintro rfl;rcases he with z|z
    ·exact LF c b hc z
    ·rw[hc]at z;cases z;exact hb rfl
end
structure Un(fs ex:List Addr)(H H':Hp)(h h':Heap):Prop where
 keep:∀b o,h.get? b=some o→H b=none→b ∉ fs→b ∉ ex→h'.get? b=some o
 slot:∀b o,h.get? b=some o→H b=none→b∈fs→b ∉ ex→∃sl,h'.get? b=some { o with slots:=sl }
 free:∀b o,h.get? b=some o→H b=none→b ∉ ex→H' b=none
 there:∀b o,h.get? b=some o→b ∉ ex→∃o',h'.get? b=some o'
 l7:∀b xs,H b=some (.tup xs)→H' b=some (.tup xs)
 lC:∀b o u,H b=some (.jK o u)→H' b=some (.jK o u)
 l8:∀b ps,H b=some (.fh ps)→∃more,H' b=some (.fh (ps++more))
section
variable{fs Fc ex ex':List Addr}{H H1 H2:Hp}{h h1 h2 h':Heap}{a x e:Addr}{o:HO}
theorem Un.any(u:Un fs ex H H1 h h1){ob:Obj}(q:h.get? b=some ob)(n:H b=none)(hx:b ∉ ex):∃sl,h1.get? b=some { ob with slots:=sl }:=by
 by_cases hb:b∈fs
 ·exact u.slot b ob q n hb hx
 ·exact⟨ob.slots,u.keep b ob q n hb hx⟩
theorem Un.kept(k:∀b u,h.get? b=some u→h'.get? b=some u):Un fs ex H H h h':=
 ⟨λb ob q _ _ _=>k b ob q,λb ob q _ _ _=>⟨ob.slots,k b ob q⟩,λ_ _ _ n _=>n,λb ob q _=>⟨ob,k b ob q⟩,λ_ _ q=>q,λ_ _ _ q=>q,λ_ ps q=>⟨#[],by rw[q];simp⟩⟩
theorem Un.refl:Un fs ex H H h h:=Un.kept λ_ _ q=>q
theorem Un.laid(k:∀b u,h.get? b=some u→h'.get? b=some u)(hp:h.objs.size≤a)(hn:H a=none):Un fs ex H (upd H a o) h h' where
 keep:=λb u q _ _ _=>k b u q
 slot:=λb u q _ _ _=>⟨u.slots,k b u q⟩
 free:=λb u q n _=>by rw[bZ (gU (ji (dN q) hp))];exact n
 there:=λb u q _=>⟨u,k b u q⟩
 l7:=λb xs q=>by rw[bZ (eQ q hn)];exact q
 lC:=λb u xs q=>by rw[bZ (eQ q hn)];exact q
 l8:=λb ps q=>⟨#[],by rw[bZ (eQ q hn),q];simp⟩
theorem Un.write(mu:x4 (H x))(he:e=x∨H e=some (.own x))(k:∀b u,b≠e→h.get? b=some u→h'.get? b=some u)(vS:∃u,h'.get? e=some u):Un fs ex H (upd H x o) h h':=by
 have hx:∀b,H b=none→b≠x:=λb n z=>by subst z;rw[n]at mu;exact mu
 have hb:∀b,H b=none→b≠e:=λb n z=>by
  subst z;rcases he with r|r
  ·exact hx b n r
  ·rw[n]at r;cases r
 have hm:∀b u,H b=some u→¬x4 (some u)→b≠x:=λb u q nm z=>by subst z;rw[q]at mu;exact nm mu
 refine⟨λb u q n _ _=>k b u (hb b n) q,λb u q n _ _=>⟨u.slots,k b u (hb b n) q⟩,λb u q n _=>by rw[bZ (hx b n)];exact n,λb u q _=>?_,
  λb xs q=>by rw[bZ (hm b _ q λz=>z)];exact q,λb u xs q=>by rw[bZ (hm b _ q λz=>z)];exact q,λb ps q=>⟨#[],by rw[bZ (hm b _ q λz=>z),q];simp⟩⟩
 by_cases ub:b=e
 ·subst ub;exact vS
 ·exact⟨u,k b u ub q⟩
end
noncomputable def Bi(h:Heap)(H:Hp):List Addr:=(List.range h.objs.size).filter λa=>(H a).isSome
noncomputable def oS(h:Heap)(H:Hp):Heap:=PySem.W.hideAll h (Bi h H)
theorem T2(h:Heap)(H:Hp):(oS h H).objs.size=h.objs.size:=PySem.W.hideAll_size _ _
theorem T3(e:h.get? b=some o)(n:H b=none):(oS h H).get? b=some o:=
 PySem.W.hideAll_get _ e λhm=>by
  have q:(H b).isSome=true:=(jZ.mp hm).2;rw[n]at q;simp at q
theorem T4(e:(oS h H).get? b=some o):h.get? b=some o∧H b=none:=by
 have e':h.get? b=some o:=PySem.W.of_hideAll (Bi h H) e;refine⟨e',?_⟩;cases q:H b with
 |none=>rfl
 |some x=>
  have hm:b∈Bi h H:=jZ.mpr ⟨nN.mpr (dN e'),by simp[q]⟩;have z:(oS h H).get? b=none:=PySem.W.hideAll_none (Bi h H) hm;rw[z]at e;cases e
noncomputable def T5(g h:Heap)(L:Addr):List (Addr×Obj):=(List.range h.objs.size).filterMap λa=>if a=L∨(g.get? a).isSome=true then none else(h.get? a).map λo=>(a,o)
noncomputable def dZ(g h:Heap)(L d:Addr):List (Addr×Obj):=(T5 g h L).filter λp=>decide (p.1≠d)
structure Mod(K:Frag)(mg:Str→Option Value)(base:Heap):Prop where
 qI:K.In base
 glob:base.Ns mainGlobals mg
 blt:∃mb,base.Ns builtinsNs mb∧∀x:Str,x ≠ "__name__"→mb x=bootBuiltins x
 nolimit:base.NoLimit
structure Cx where
 prog:Program
 w:World
 K:Frag
 mg:Str→Option Value
 base:Heap
 A:Around
 N:List Str
 s₀:Shared
 H₀:Hp
 env:Env
 outer:List Env
 stack:List Env
 ex:List Addr
 fn:Str→Bool
 calm:Bool
 pn:List (Addr×Obj)
 xe:QV
noncomputable def fj(l:List Env):List Addr:=l.filterMap (·.frame)
noncomputable abbrev Cx.fs(X:Cx):List Addr:=fj X.outer
def x5(sc:Scope)(x:Str):Prop:=sc.names.lookup x=some .local∨sc.names.lookup x=some .cell∨sc.names.lookup x=some .free
def Loc(sc:Scope)(x:Str):Prop:=sc.names.lookup x=some .local∨sc.names.lookup x=some .cell
def Look(env:Env)(h:Heap)(m:Str→Option Value)(x:Str)(u:Value):Prop:=
 (env.kindOf x=some .local∧m x=some u)∨((env.kindOf x=some .cell∨env.kindOf x=some .free)∧∃c,env.cells.lookup x=some c∧h.IsCell c (some u))
structure Cx.Ok(X:Cx):Prop where
 mod:Mod X.K X.mg X.base
 kind:X.env.scope.kind=.function
 glob:X.env.globals=mainGlobals
 blt:X.env.builtins=builtinsNs
 above:X.s₀.heap.objs.size≤X.env.locals
 inj:∀x y c,X.env.cells.lookup x=some c→X.env.cells.lookup y=some c→x=y
 has:∀x,(X.env.kindOf x=some .cell∨X.env.kindOf x=some .free)→∃c,X.env.cells.lookup x=some c
 x6:∀x c,X.fn x=true→X.env.cells.lookup x=some c→X.s₀.heap.objs.size≤c
 hd:X.calm=true→X.A.handled=none
 frames:X.A.frames=some X.stack
 se:X.stack=X.outer∨(X.stack=X.env::X.outer∧X.env.frame=some X.env.locals)
 x8:∀b∈X.ex,b≠X.env.locals∧∀x c,X.env.cells.lookup x=some c→c≠b
 bs:∀b o,X.base.get? b=some o→X.s₀.heap.get? b=some o∧X.H₀ b=none
 qJ:X.base.objs.size≤X.s₀.heap.objs.size
 x9:∀b o,X.base.get? b=some o→b ∉ X.ex
 vT:∀b∈X.ex,b ∉ X.fs
 nj:X.s₀.heap.FunFrames X.base X.outer
 sf:∀b∈X.fs,X.H₀ b=none
structure Inv(X:Cx)(aH:List (Addr×Obj))(σ:List (Option V))(H:Hp)(s:Shared):Prop where
 ok:X.Ok
 os:s.os=X.s₀.os
 bare:AllBare s.gens
 base:Un X.fs X.ex X.H₀ H X.s₀.heap s.heap
 loc:∃m,s.heap.Ns X.env.locals m∧∀(i:Nat)(x:Str)(v:V),X.N[i]?=some x→σ[i]?=some (some v)→x5 X.env.scope x→∃u,RelV v u∧Look X.env s.heap m x u
 cell:∀x c,X.env.cells.lookup x=some c→∃v,s.heap.IsCell c v
 free:H X.env.locals=none
 nU:∀x c,X.env.cells.lookup x=some c→H c=none
 pin:∀p∈X.pn++aH,s.heap.get? p.1=some p.2∧H p.1=none∧p.1≠X.env.locals∧p.1 ∉ X.fs∧∀v,p.2.data≠.cell v
 bH:dG X.prog X.w H s.heap
 len:σ.length=X.N.length
section
variable{X:Cx}{aH:List (Addr×Obj)}{σ:List (Option V)}{H H':Hp}{s:Shared}{h':Heap}
theorem Cx.Ok.T6(ok:X.Ok)(e:X.base.get? b=some o):b ∉ X.fs:=λhb=>by
 have:=(ok.nj.mem hb).1
 rw[e]at this;cases this
theorem Inv.bs(I:Inv X aH σ H s):∀b o,X.base.get? b=some o→s.heap.get? b=some o∧H b=none:=λb o e=>
 ⟨I.base.keep b o (I.ok.bs b o e).1 (I.ok.bs b o e).2 (I.ok.T6 e) (I.ok.x9 b o e),I.base.free b o (I.ok.bs b o e).1 (I.ok.bs b o e).2 (I.ok.x9 b o e)⟩
theorem Inv.bk(I:Inv X aH σ H s):∀b o,X.base.get? b=some o→s.heap.get? b=some o:=λb o e=>(I.bs b o e).1
theorem Inv.mod(I:Inv X aH σ H s):Mod X.K X.mg X.base:=I.ok.mod
theorem Inv.fo(I:Inv X aH σ H s):X.K.In s.heap:=I.ok.mod.qI.keeps I.bk
theorem Inv.lt(I:Inv X aH σ H s):X.env.locals<s.heap.objs.size:=let ⟨_,hn,_⟩:=I.loc;hn.lt
theorem Inv.sz(I:Inv X aH σ H s):X.s₀.heap.objs.size≤s.heap.objs.size:=eJ I.ok.above (qD I.lt)
theorem Inv.T7(I:Inv X aH σ H s)(h:s.heap.objs.size≤a):a ∉ X.fs:=λhb=>by
 obtain⟨_,o,ho,_⟩:=I.ok.nj.mem hb;exact absurd (ji (dN ho) (eJ I.sz h)) (vK _)
theorem Inv.uc(I:Inv X aH σ H s):∀x c,X.env.cells.lookup x=some c→c≠X.env.locals:=λx c e z=>by
 obtain⟨v,o,ho,hd⟩:=I.cell x c e;obtain⟨m,⟨o',es,ep,ud,Bj,_⟩,_⟩:=I.loc;rw[z,ud]at ho;cases ho;rw[Bj]at hd;cases hd
theorem Inv.nj(I:Inv X aH σ H s):s.heap.FunFrames X.base X.outer:=by
 have all:∀(l:List Env),(∀b∈fj l,b∈X.fs)→X.s₀.heap.FunFrames X.base l→s.heap.FunFrames X.base l:=by
  intro l;induction l with
  |nil=>intro _ _;trivial
  |cons env r ih=>
   intro hs hl;obtain⟨hk,⟨L,o,hf,hn,ho,hd⟩,hr⟩:=hl;have hL:L∈X.fs:=hs L (by unfold fj;rw[List.filterMap_cons,hf];exact cP);obtain⟨sl,e⟩:=I.base.slot L o ho (I.ok.sf L hL) hL λz=>I.ok.vT L z hL;exact⟨hk,⟨L,_,hf,hn,e,hd⟩,ih (λb hb=>hs b (by unfold fj;rw[List.filterMap_cons,hf];exact dU _ hb)) hr⟩
 exact all X.outer (λ_ hb=>hb) I.ok.nj
theorem Inv.stack(I:Inv X aH σ H s):s.heap.FunFrames X.base X.stack:=by
 rcases I.ok.se with e|⟨e,hf⟩
 ·rw[e];exact I.nj
 ·rw[e];obtain⟨m,hn,_⟩:=I.loc;refine .cons (by rw[I.ok.kind];decide) hf hn ?_ I.nj;exact Heap.get?_none_of_le (eJ I.ok.qJ I.ok.above)
theorem Inv.Fd(I:Inv X aH σ H s):∀b∈fj X.stack,b∈X.env.locals::X.fs:=λb hb=>by
 rcases I.ok.se with e|⟨e,hf⟩
 ·rw[e]at hb;exact dU _ hb
 ·rw[e]at hb;unfold fj at hb;rw[List.filterMap_cons,hf]at hb;exact hb
theorem Inv.Bk(I:Inv X aH σ H s):∀b∈fj X.stack,H b=none:=λb hb=>by
 rcases cS.mp (I.Fd b hb)with e|hb
 ·rw[e];exact I.free
 ·obtain⟨_,o,ho,_⟩:=I.ok.nj.mem hb;exact I.base.free b o ho (I.ok.sf b hb) λz=>I.ok.vT b z hb
theorem Inv.step{g':Array GenState}{d':Drawn}(I:Inv X aH σ H s)
  (pO:∀b∈ch,(b∈X.ex∨X.s₀.heap.objs.size≤b)∧b≠X.env.locals∧(∀x c,X.env.cells.lookup x=some c→c≠b)∧∀p∈X.pn++aH,p.1≠b)
  (keep:∀b o,b≠X.env.locals→b ∉ X.fs→b ∉ ch→s.heap.get? b=some o→H b=none→h'.get? b=some o)
  (slot:∀b o,b≠X.env.locals→b∈X.fs→b ∉ ch→s.heap.get? b=some o→H b=none→∃sl,h'.get? b=some { o with slots:=sl }) (free:∀b o,b ∉ ch→s.heap.get? b=some o→H b=none→H' b=none)
  (there:∀b o,b ∉ ch→s.heap.get? b=some o→∃o',h'.get? b=some o')
  (l7:∀b xs,H b=some (.tup xs)→H' b=some (.tup xs)) (lC:∀b o u,H b=some (.jK o u)→H' b=some (.jK o u)) (l8:∀b ps,H b=some (.fh ps)→∃more,H' b=some (.fh (ps++more)))
  (ns:∀m,s.heap.Ns X.env.locals m→h'.Ns X.env.locals m) (bH:dG X.prog X.w H' h') (hg:AllBare g') :
  Inv X aH σ H' { s with heap:=h',gens:=g',drawn:=d',toks:=t' }:=by
 have LG:∀b o,X.s₀.heap.get? b=some o→b≠X.env.locals:=λb o e=>gU (ji (dN e) I.ok.above);have Bl:∀b o,X.s₀.heap.get? b=some o→b ∉ X.ex→b ∉ ch:=λb o e hx hb=>by
  rcases(pO b hb).1 with z|z
  ·exact hx z
  ·exact absurd (ji (dN e) z) (vK _)
 have LH:∀x c,X.env.cells.lookup x=some c→∀v,s.heap.IsCell c v→h'.IsCell c v:=λx c e v ⟨o,ho,hd⟩=>by
  have ya:c ∉ ch:=λz=>(pO c z).2.2.1 x c e rfl;by_cases hc:c∈X.fs
  ·obtain⟨sl,q⟩:=slot c o (I.uc x c e) hc ya ho (I.nU x c e);exact⟨_,q,hd⟩
  ·exact⟨o,keep c o (I.uc x c e) hc ya ho (I.nU x c e),hd⟩
 refine⟨I.ok,I.os,hg,⟨λb o e n hb hx=>?_,λb o e n hb hx=>?_,λb o e n hx=>?_,λb o e hx=>?_,λb xs e=>l7 b xs (I.base.l7 b xs e),λb o xs e=>lC b o xs (I.base.lC b o xs e),λb ps e=>?_⟩,?_,λx c e=>?_,?_,λx c e=>?_,λp hp=>?_,bH,I.len⟩
 ·exact keep b o (LG b o e) hb (Bl b o e hx) (I.base.keep b o e n hb hx) (I.base.free b o e n hx)
 ·obtain⟨sl,e1⟩:=I.base.slot b o e n hb hx;obtain⟨Fe,e2⟩:=slot b _ (LG b o e) hb (Bl b o e hx) e1 (I.base.free b o e n hx);exact⟨Fe,e2⟩
 ·obtain⟨o',e1⟩:=I.base.there b o e hx;exact free b o' (Bl b o e hx) e1 (I.base.free b o e n hx)
 ·obtain⟨o',e1⟩:=I.base.there b o e hx;exact there b o' (Bl b o e hx) e1
 ·obtain⟨m1,e1⟩:=I.base.l8 b ps e;obtain⟨m2,e2⟩:=l8 b _ e1;exact⟨m1++m2,by rw[e2,Array.append_assoc]⟩
 ·obtain⟨m,hn,hl⟩:=I.loc;refine⟨m,ns m hn,λi x v e1 e2 e3=>?_⟩;obtain⟨u,r,l⟩:=hl i x v e1 e2 e3;refine⟨u,r,?_⟩;rcases l with l|⟨k,c,e,z⟩
  ·exact .inl l
  ·exact .inr ⟨k,c,e,LH x c e _ z⟩
 ·obtain⟨v,z⟩:=I.cell x c e;exact⟨v,LH x c e v z⟩
 ·obtain⟨m,⟨o,_,_,ho,_⟩,_⟩:=I.loc;exact free _ o (λz=>(pO _ z).2.1 rfl) ho I.free
 ·obtain⟨v,o,ho,hd⟩:=I.cell x c e;exact free c o (λz=>(pO c z).2.2.1 x c e rfl) ho (I.nU x c e)
 ·obtain⟨e,n,ne,nf,d⟩:=I.pin p hp;have ya:p.1 ∉ ch:=λz=>(pO p.1 z).2.2.2 p hp rfl;exact⟨keep p.1 p.2 ne nf ya e n,free p.1 p.2 ya e n,ne,nf,d⟩
theorem Inv.un(I:Inv X aH σ H s)(u:Un X.fs [] H H' s.heap h')(bH:dG X.prog X.w H' h'):Inv X aH σ H' { s with heap:=h',toks:=t' }:=by
 obtain⟨m,⟨o,es,ep,ho,r⟩,_⟩:=id I.loc;obtain⟨sl,hL⟩:=u.any ho I.free (by simp);exact I.step (g':=s.gens) (d':=s.drawn) (ch:=[]) (λ_ z=>nomatch z) (λb o _ hb _ e n=>u.keep b o e n hb (by simp)) (λb o _ hb _ e n=>u.slot b o e n hb (by simp)) (λb o _ e n=>u.free b o e n (by simp)) (λb o _ e=>u.there b o e (by simp)) u.l7 u.lC u.l8 (λm' hm=>by
  obtain⟨o',Ff,Fg,ud,r'⟩:=hm;rw[ho]at ud;cases ud;exact⟨_,Ff,Fg,hL,r'⟩) bH I.bare
theorem Inv.call{g':Array GenState}{d':Drawn}(I:Inv X aH σ H s)(u:Un (fj X.stack) ch H H' s.heap h')(bH:dG X.prog X.w H' h')(hg:AllBare g')
  (pO:∀b∈ch,(b∈X.ex∨X.s₀.heap.objs.size≤b)∧b≠X.env.locals∧(∀x c,X.env.cells.lookup x=some c→c≠b)∧∀p∈X.pn++aH,p.1≠b) :
  Inv X aH σ H' { s with heap:=h',gens:=g',drawn:=d',toks:=t' }:=by
 obtain⟨m,⟨o,es,ep,ho,r⟩,_⟩:=id I.loc;obtain⟨sl,hL⟩:=u.any ho I.free λz=>(pO _ z).2.1 rfl;exact I.step (ch:=ch) pO (λb o hL hb hc e n=>u.keep b o e n (λz=>(cS.mp (I.Fd b z)).elim hL hb) hc) (λb o _ _ hc e n=>u.any e n hc) (λb o hc e n=>u.free b o e n hc) (λb o hc e=>u.there b o e hc) u.l7 u.lC u.l8 (λm' hm=>by
  obtain⟨o',Ff,Fg,ud,r'⟩:=hm;rw[ho]at ud;cases ud;exact⟨_,Ff,Fg,hL,r'⟩) bH hg
theorem Inv.turned{it:Addr}(I:Inv X aH σ H s)(k:∀b o,b≠it→s.heap.get? b=some o→h'.get? b=some o)(hn:H it=none)(hL:it≠X.env.locals)
  (h1:it∈X.ex∨X.s₀.heap.objs.size≤it) (h2:∀x c,X.env.cells.lookup x=some c→c≠it) (h3:∀p∈X.pn++aH,p.1≠it):Inv X aH σ H { s with heap:=h',toks:=t' }:=by
 have yd:∀b u,H b=some u→b≠it:=λb u e z=>by rw[z,hn]at e;cases e
 refine I.step (g':=s.gens) (d':=s.drawn) (ch:=[it]) (λb hb=>?_) (λb o _ _ hc e _=>k b o (λz=>hc (by simp[z])) e) (λb o _ _ hc e _=>⟨o.slots,k b o (λz=>hc (by simp[z])) e⟩) (λ_ _ _ _ n=>n)
  (λb o hc e=>⟨o,k b o (λz=>hc (by simp[z])) e⟩) (λ_ _ e=>e) (λ_ _ _ e=>e) (λb ps e=>⟨#[],by rw[e];simp⟩) (λm hm=>?_) (λb u e=>?_) I.bare
 ·have e:b=it:=by simpa using hb
  subst e;exact⟨h1,hL,h2,h3⟩
 ·obtain⟨o,es,ep,ho,r⟩:=hm;exact⟨o,es,ep,k _ o (Ne.symm hL) ho,r⟩
 ·refine(I.bH b u e).oR (λc v hc q=>k c v ?_ q) (λ_ q=>q) λ_ _ q=>q;rcases hc with z|z
  ·rw[z];exact yd b u e
  ·exact yd c _ z
theorem Inv.tok(I:Inv X aH σ H s)(t:Nat):Inv X aH σ H { s with toks:=t }:=I.un (h':=s.heap) (t':=t) Un.refl I.bH
theorem Inv.kept{t':Nat}(I:Inv X aH σ H s)(k:∀b u,s.heap.get? b=some u→h'.get? b=some u):Inv X aH σ H { s with heap:=h',toks:=t' }:=I.un (Un.kept k) (I.bH.kept k)
theorem Inv.laid{a:Addr}{o:HO}{t':Nat}(I:Inv X aH σ H s)(k:∀b u,s.heap.get? b=some u→h'.get? b=some u)(hp:s.heap.objs.size≤a)(new:eC X.prog X.w (upd H a o) h' a o) :
  Inv X aH σ (upd H a o) { s with heap:=h',toks:=t' }:=I.un (Un.laid k hp (I.bH.fresh hp)) (I.bH.laid k hp new)
theorem Inv.write{x e:Addr}{o:HO}{t':Nat}(I:Inv X aH σ H s)(mu:x4 (H x))(he:e=x∨H e=some (.own x))(k:∀b u,b≠e→s.heap.get? b=some u→h'.get? b=some u)(vS:∃u,h'.get? e=some u)
  (new:eC X.prog X.w (upd H x o) h' x o):Inv X aH σ (upd H x o) { s with heap:=h',toks:=t' }:=I.un (Un.write mu he k vS) (I.bH.write mu he k vS new)
theorem Inv.Bm{LI:List (Addr×Obj)}(I:Inv X aH σ H s)(h:∀p∈LI,s.heap.get? p.1=some p.2∧H p.1=none∧p.1≠X.env.locals∧p.1 ∉ X.fs∧∀v,p.2.data≠.cell v):Inv X LI σ H s:=
 ⟨I.ok,I.os,I.bare,I.base,I.loc,I.cell,I.free,I.nU,λp hp=>(dm.mp hp).elim (λz=>I.pin p (nc _ z)) (h p),I.bH,I.len⟩
theorem LJ{N:List Str}(hN:N.Nodup){j:Nat}(a:N[i]?=some x)(b:N[j]?=some x):i=j:=by
 obtain⟨h1,e1⟩:=dO.mp a;obtain⟨h2,e2⟩:=dO.mp b;exact(List.getElem_inj hN).mp (e1.trans e2.symm)
theorem LK(I:Inv X aH σ H s)(hN:X.N.Nodup)(hi:X.N[i]?=some x)(hx:Loc X.env.scope x)(r:RelV v u)
  (h:∀s',Inv X aH (σ.set i (some v)) H s'→(∃a,Heap.SameBut a s.heap s'.heap∧(a=X.env.locals∨X.env.cells.lookup x=some a))→Q () s') (hf:X.fn x=true∨X.env.scope.names.lookup x=some .local:=by first|exact .inl rfl|exact .inr rfl|assumption):wpAny M A (storeName X.env x u) Q E s:=by
 obtain⟨m,hn,hl⟩:=id I.loc;have T8:(X.env.scope.kind == .class||(X.env.scope.kind == .module&&X.env.locals != X.env.globals))=false:=by rw[I.ok.kind];rfl
 have LM:i<σ.length:=by rw[I.len];exact(dO.mp hi).1
 have uc:=I.uc;have LN:∀{a:Addr}{h':Heap},(∃o,s.heap.get? a=some o∧H a=none)→Heap.SameBut a s.heap h'→dG X.prog X.w H h':=λ{a h'} ha hs b ob e=>by
  obtain⟨_,_,LO⟩:=ha;refine(I.bH b ob e).oR (λc w' hc q=>(hs.2 c ?_).trans q) (λ_ q=>q) λ_ _ q=>q;rintro rfl;rcases hc with rfl|hc
  ·rw[LO]at e;cases e
  ·rw[LO]at hc;cases hc
 rcases hx with hk|hk
 ·refine wpAny_storeName_local hk hn (λh' T9 hs=>?_) T8;obtain⟨oL,_,_,Ua,_⟩:=id hn;refine h _ ⟨I.ok,I.os,I.bare,⟨λb o e n hb hx=>?_,λb o e n hb hx=>?_,I.base.free,λb o e hx=>?_,I.base.l7,I.base.lC,I.base.l8⟩,⟨_,T9,λj y v' e1 e2 e3=>?_⟩,λy c e=>?_,I.free,I.nU,λp hp=>?_,LN ⟨oL,Ua,I.free⟩ hs,by simpa using I.len⟩ ⟨_,hs,.inl rfl⟩
  ·exact(hs.2 b (gU (ji (dN e) I.ok.above))).trans (I.base.keep b o e n hb hx)
  ·obtain⟨sl,e1⟩:=I.base.slot b o e n hb hx;exact⟨sl,(hs.2 b (gU (ji (dN e) I.ok.above))).trans e1⟩
  ·obtain⟨o',e1⟩:=I.base.there b o e hx;exact⟨o',(hs.2 b (gU (ji (dN e) I.ok.above))).trans e1⟩
  ·by_cases hj:j=i
   ·subst hj;rw[hi]at e1;cases e1;rw[List.getElem?_set_self LM]at e2;cases e2;exact⟨u,r,.inl ⟨hk,by simp⟩⟩
   ·rw[List.getElem?_set_ne (Ne.symm hj)]at e2;obtain⟨u',r',q⟩:=hl j y v' e1 e2 e3;refine⟨u',r',?_⟩;rcases q with⟨k,e⟩|⟨k,c,e,z⟩
    ·refine .inl ⟨k,?_⟩
     have:y≠x:=λe=>hj (LJ hN e1 (e▸hi))
     simp[this,e]
    ·exact .inr ⟨k,c,e,z.sameBut hs (uc y c e)⟩
  ·obtain⟨w',z⟩:=I.cell y c e;exact⟨w',z.sameBut hs (uc y c e)⟩
  ·obtain⟨e,n,ne,nf,d⟩:=I.pin p hp;exact⟨(hs.2 p.1 ne).trans e,n,ne,nf,d⟩
 ·have yf:X.fn x=true:=by
   rcases hf with z|z
   ·exact z
   ·rw[z]at hk;cases hk
  obtain⟨c,hc⟩:=I.ok.has x (.inl hk);obtain⟨w',z⟩:=I.cell x c hc;refine wpAny_storeName_cell I.ok.kind hk hc z (λh' jk hs=>?_);obtain⟨oc,LP,Ub⟩:=id z;refine h { s with heap:=h' } ⟨I.ok,I.os,I.bare,⟨λb o e n hb hx=>?_,λb o e n hb hx=>?_,I.base.free,λb o e hx=>?_,I.base.l7,I.base.lC,I.base.l8⟩,⟨m,hn.sameBut hs (Ne.symm (uc x c hc)),λj y v' e1 e2 e3=>?_⟩,λy c' e=>?_,I.free,I.nU,λp hp=>?_,LN ⟨oc,LP,I.nU x c hc⟩ hs,by simpa using I.len⟩ ⟨c,hs,.inr hc⟩
  ·exact(hs.2 b (gU (ji (dN e) (I.ok.x6 x c yf hc)))).trans (I.base.keep b o e n hb hx)
  ·obtain⟨sl,e1⟩:=I.base.slot b o e n hb hx;exact⟨sl,(hs.2 b (gU (ji (dN e) (I.ok.x6 x c yf hc)))).trans e1⟩
  ·obtain⟨o',e1⟩:=I.base.there b o e hx;exact⟨o',(hs.2 b (gU (ji (dN e) (I.ok.x6 x c yf hc)))).trans e1⟩
  ·by_cases hj:j=i
   ·subst hj;rw[hi]at e1;cases e1;rw[List.getElem?_set_self LM]at e2;cases e2;exact⟨u,r,.inr ⟨.inl hk,c,hc,jk⟩⟩
   ·rw[List.getElem?_set_ne (Ne.symm hj)]at e2;obtain⟨u',r',q⟩:=hl j y v' e1 e2 e3;refine⟨u',r',?_⟩;rcases q with q|⟨k,c',e,z'⟩
    ·exact .inl q
    ·refine .inr ⟨k,c',e,z'.sameBut hs ?_⟩;rintro rfl;exact hj (LJ hN e1 (I.ok.inj _ _ _ e hc▸hi))
  ·by_cases vU:c'=c
   ·subst vU;exact⟨_,jk⟩
   ·obtain⟨w2,z2⟩:=I.cell y c' e;exact⟨w2,z2.sameBut hs vU⟩
  ·obtain⟨e,n,ne,nf,d⟩:=I.pin p hp;refine⟨(hs.2 p.1 ?_).trans e,n,ne,nf,d⟩;intro q;rw[q,LP]at e;have q':oc=p.2:=cN e;exact d w' (by rw[← q'];exact Ub)
theorem Bn(I:Inv X aH σ H s)(hN:X.N.Nodup)(hi:X.N[i]?=some x)(hx:Loc X.env.scope x)(r:RelV v u)
  (h:∀s',Inv X aH (σ.set i (some v)) H s'→Q () s') (hf:X.fn x=true∨X.env.scope.names.lookup x=some .local:=by first|exact .inl rfl|exact .inr rfl|assumption):wpAny M A (storeName X.env x u) Q E s:=
 LK I hN hi hx r (λs' I' _=>h s' I') hf
theorem Inv.Fh{s':Shared}(I:Inv X aH σ H s)(ho:s'.os=s.os)(u:Un (fj X.stack) ch H H' s.heap s'.heap)(bH:dG X.prog X.w H' s'.heap)(hg:AllBare s'.gens)
  (pO:∀b∈ch,(b∈X.ex∨X.s₀.heap.objs.size≤b)∧b≠X.env.locals∧(∀x c,X.env.cells.lookup x=some c→c≠b)∧∀p∈X.pn++aH,p.1≠b):Inv X aH σ H' s':=by
 obtain⟨h',g',d',t',o'⟩:=s';have e:o'=s.os:=ho;subst e;exact I.call (g':=g') (t':=t') (d':=d') u bH hg pO
end
abbrev XK:=Value→Option Addr→Hp→Prop
abbrev St:=List (Option V)
abbrev VK:=V→Hp→Prop
abbrev TE:=St→Hp→VK→Prop
abbrev TT:=St→Hp→(Bool→Hp→Prop)→Prop
abbrev TA:=St→Hp→(List V→Hp→Prop)→Prop
structure Ends where
 nx:St→Hp→Prop
 rt:VK
 bk:St→Hp→Prop:=λ_ _=>False
 ct:St→Hp→Prop:=λ_ _=>False
abbrev TS:=Ends→St→Hp→Prop
def EP(X:Cx)(aH:List (Addr×Obj))(σ:St)(Q:VK)(u:Value)(s':Shared):Prop:=∃v H',Inv X aH σ H' s'∧RelV v u∧Q v H'
def TP(X:Cx)(aH:List (Addr×Obj))(σ:St)(Q:Bool→Hp→Prop)(b:Bool)(s':Shared):Prop:=∃H',Inv X aH σ H' s'∧Q b H'
def AP(X:Cx)(aH:List (Addr×Obj))(σ:St)(Q:List V→Hp→Prop)(us:List Value)(s':Shared):Prop:=∃vs H',Inv X aH σ H' s'∧Vals vs us∧Q vs H'
def SP(X:Cx)(aH:List (Addr×Obj))(D:Ends)(f:Flow)(s':Shared):Prop:=
 match f with
 | .next=>∃σ' H',Inv X aH σ' H' s'∧D.nx σ' H'
 | .brk=>∃σ' H',Inv X aH σ' H' s'∧D.bk σ' H'
 | .cont=>∃σ' H',Inv X aH σ' H' s'∧D.ct σ' H'
 | .ret u=>∃v σ' H',Inv X aH σ' H' s'∧RelV v u∧D.rt v H'
def PE(X:Cx)(e:Expr)(t:TE):Prop:=
 ∀(aH:List (Addr×Obj))(s:Shared)(σ:St)(H:Hp)(Q:VK),Inv X aH σ H s→t σ H Q→wpAny (model X.prog X.w) X.A (eval e X.env) (EP X aH σ Q) X.xe s
def PT(X:Cx)(e:Expr)(t:TT):Prop:=
 ∀(aH:List (Addr×Obj))(s:Shared)(σ:St)(H:Hp)(Q:Bool→Hp→Prop),Inv X aH σ H s→t σ H Q→wpAny (model X.prog X.w) X.A (isTrue e X.env (eval e X.env)) (TP X aH σ Q) X.xe s
def PW(X:Cx)(e:Expr)(t:TT):Prop:=
 ∀(ue:Sem Value)(aH:List (Addr×Obj))(s:Shared)(σ:St)(H:Hp)(Q:Bool→Hp→Prop),Inv X aH σ H s→t σ H Q→wpAny (model X.prog X.w) X.A (isTrue e X.env ue) (TP X aH σ Q) X.xe s
theorem PW.pt{t:TT}(h:PW X e t):PT X e t:=h _
def PA(X:Cx)(es:List Expr)(t:TA):Prop:=
 ∀(pos:Pos)(aH:List (Addr×Obj))(s:Shared)(σ:St)(H:Hp)(Q:List V→Hp→Prop),Inv X aH σ H s→t σ H Q→wpAny (model X.prog X.w) X.A (spliced (backTo pos (starEach es X.env))) (AP X aH σ Q) X.xe s
def PS(X:Cx)(st:Stmt)(t:TS):Prop:=
 ∀(aH:List (Addr×Obj))(s:Shared)(σ:St)(H:Hp)(D:Ends),Inv X aH σ H s→t D σ H→wpAny (model X.prog X.w) X.A (exec st X.env) (SP X aH D) X.xe s
def jl(X:Cx)(st:List Stmt)(t:TS):Prop:=
 ∀(aH:List (Addr×Obj))(s:Shared)(σ:St)(H:Hp)(D:Ends),Inv X aH σ H s→t D σ H→wpAny (model X.prog X.w) X.A (execs st X.env) (SP X aH D) X.xe s
theorem bf{α:Type}{t:Sem α}{Q Q':α→Shared→Prop}(h:wpAny M A t Q E s)(hQ:∀a s,Q a s→Q' a s):wpAny M A t Q' E s:=ag h hQ λ_ _ x=>x
section
variable{X:Cx}
theorem bin{a b:Expr}{ta tb:TE}(ha:PE X a ta)(hb:PE X b tb){R:V→V→Hp→Prop}(I:Inv X aH σ H s)(h:ta σ H λx H1=>tb σ H1 λy H2=>R x y H2)
  {α:Type} {Q:α→Shared→Prop} {f:Value→Value→Sem α}
  (hf:∀v u s2 x y H2,Inv X aH σ H2 s2→RelV x v→RelV y u→R x y H2→wpAny (model X.prog X.w) X.A (f v u) Q X.xe s2) :
  wpAny (model X.prog X.w) X.A (eval a X.env) (λv s₁=>wpAny (model X.prog X.w) X.A (eval b X.env) (λu s₂=>wpAny (model X.prog X.w) X.A (f v u) Q X.xe s₂) X.xe s₁) X.xe s:=by
 refine bf (ha aH s σ H _ I h) λv s1 ⟨x,H1,I1,r1,q1⟩=>?_;refine bf (hb aH s1 σ H1 _ I1 q1) λu s2 ⟨y,H2,I2,r2,q2⟩=>?_;exact hf v u s2 x y H2 I2 r1 r2 q2
def aW(i:Nat):TE:=λσ H Q=>∃v,σ[i]?=some (some v)∧Q v H
def tC(v:V):TE:=λ_ H Q=>Q v H
theorem LQ{pos:Pos}(hN:X.N[i]?=some x)(hv:x5 X.env.scope x)(hd:(x==("__debug__":Str))=false:=by decide)(gI:(x==("__classdict__":Str))=false:=by decide):PE X (.Name x pos) (aW i):=by
 intro aH s σ H Q I h;obtain⟨v,e,h⟩:=h;obtain⟨m,hn,hl⟩:=I.loc;obtain⟨u,r,l⟩:=hl i x v hN e hv;have fin:EP X aH σ Q u s:=⟨v,H,I,r,h⟩;rcases l with⟨hk,hm⟩|⟨hk,c,hc,oT⟩
 ·exact wpAny_Name (wpAny_loadName_local I.ok.kind hk hn hm fin) hd
 ·rcases hk with hk|hk
  ·exact wpAny_Name (wpAny_loadName_cell I.ok.kind hk hc oT fin) hd
  ·exact wpAny_Name (wpAny_loadName_free I.ok.kind hk hc oT fin gI) hd
theorem aO{i j pos}:PE X (.Constant (.int i) j pos) (tC (.int i)):=λ_ _ _ H _ I h=>wpAny_Constant_int ⟨.int i,H,I.tok _,⟨_,rfl⟩,h⟩
theorem Uc{b j pos}:PE X (.Constant (.bool b) j pos) (tC (.bl b)):=λ_ _ _ H _ I h=>Constant_bool ⟨.bl b,H,I,rfl,h⟩
theorem uf{j pos}:PE X (.Constant .none j pos) (tC .cg):=λ_ _ _ H _ I h=>Constant_none ⟨.cg,H,I,rfl,h⟩
theorem dH{x j pos}:PE X (.Constant (.str x) j pos) (tC (.str x)):=λ_ _ _ H _ I h=>Calls.Constant_str ⟨.str x,H,I.tok _,⟨_,rfl⟩,h⟩
def Gl(X:Cx)(x:Str):Prop:=X.env.kindOf x=some .globalImplicit
theorem yh{pos:Pos}{Q:QV}(I:Inv X aH σ H s)(hg:Gl X x)(hm:X.mg x=some u)(h:Q u s)
  (hd:(x==("__debug__":Str))=false:=by decide):wpAny (model X.prog X.w) X.A (eval (.Name x pos) X.env) Q E s:=
 Calls.Name_function_global I.ok.kind hg (Calls.loadGlobal_global (by rw[I.ok.glob];exact I.mod.glob.keeps I.bk) hm h) hd
theorem sg{pos:Pos}{Q:QV}(I:Inv X aH σ H s)(hg:Gl X x)(hm:X.mg x=none)(hv:bootBuiltins x=some u)(h:Q u s)
  (hn:x ≠ "__name__":=by decide) (hd:(x==("__debug__":Str))=false:=by decide):wpAny (model X.prog X.w) X.A (eval (.Name x pos) X.env) Q E s:=by
 obtain⟨mb,h1,h2⟩:=I.mod.blt;exact Calls.Name_function_global I.ok.kind hg (Calls.loadGlobal_builtin (by rw[I.ok.glob];exact I.mod.glob.keeps I.bk) hm (by rw[I.ok.blt];exact h1.keeps I.bk) ((h2 x hn).trans hv) h) hd
theorem qK{pos:Pos}(hg:Gl X x)(hm:X.mg x=some u)(r:RelV v u)(hd:(x==("__debug__":Str))=false:=by decide):PE X (.Name x pos) (tC v):=
 λ_ _ _ H _ I h=>yh I hg hm ⟨v,H,I,r,h⟩ hd
theorem Ud{pos:Pos}(hg:Gl X x)(hm:X.mg x=none)(hv:bootBuiltins x=some u)(r:RelV v u)(hn:x ≠ "__name__":=by decide)(hd:(x==("__debug__":Str))=false:=by decide):PE X (.Name x pos) (tC v):=
 λ_ _ _ H _ I h=>sg I hg hm hv ⟨v,H,I,r,h⟩ hn hd
def Ue(ta tb:TE)(k:Int→Int→Hp→Prop):St→Hp→Prop:=λσ H=>ta σ H λx H1=>tb σ H1 λy H2=>∃i j,x=.int i∧y=.int j∧k i j H2
variable{a b:Expr}{ta tb:TE}{pos:Pos}
def PC(X:Cx)(op:CmpOp)(a b:Expr)(t:TE):Prop:=
 ∀(aH:List (Addr×Obj))(s:Shared)(σ:St)(H:Hp)(Q:VK),Inv X aH σ H s→t σ H Q→
  wpAny (model X.prog X.w) X.A (eval a X.env) (λv s₁=>wpAny (model X.prog X.w) X.A (eval b X.env) (λu s₂=>wpAny (model X.prog X.w) X.A (compareOp op v u) (EP X aH σ Q) X.xe s₂) X.xe s₁) X.xe s
theorem Ug(b:Expr)(h:op≠.In)(h2:op≠.NotIn):behindInMarks op b=false:=by
 have e1:(op==CmpOp.In)=false:=by cases op<;>first|rfl|exact absurd rfl h
 have e2:(op==CmpOp.NotIn)=false:=by cases op<;>first|rfl|exact absurd rfl h2
 cases b<;>simp[behindInMarks,e1,e2]
def LU(p:Int→Int→Bool)(ta tb:TE):TE:=λσ H Q=>Ue ta tb (λi j H2=>Q (.bl (p i j)) H2) σ H
abbrev Uh:TE→TE→TE:=LU λi j=>decide (i≤j)
theorem Ui{p:Int→Int→Bool}(ha:PE X a ta)(hb:PE X b tb)
  (rule:∀(i j:Int)(t u:Tok)(Q:QV)(s:Shared),Q (.bool (p i j)) s→wpAny (model X.prog X.w) X.A (compareOp op (.int i t) (.int j u)) Q X.xe s):PC X op a b (LU p ta tb):=by
 intro aH s σ H Q I h;refine bin ha hb I h λv u s2 x y H2 I2 rx ry q=>?_;obtain⟨i,j,rfl,rfl,q⟩:=q;obtain⟨t,rfl⟩:=rx;obtain⟨t',rfl⟩:=ry;exact rule i j t t' _ s2 ⟨.bl _,H2,I2,rfl,q⟩
theorem LV(ha:PE X a ta)(hb:PE X b tb):PC X .LtE a b (Uh ta tb):=Ui ha hb λ_ _ _ _ _ _ h=>le_int h
def tB(t:TE):TT:=λσ H Q=>t σ H λx H1=>∃c,x=.bl c∧Q c H1
theorem Fi{t:TE}(h:PC X op a b t)(h1:behindInMarks op b=false:=by first|exact Ug _ (by decide) (by decide)|rfl):PT X (.Compare a [op] [b] pos) (tB t):=by
 intro aH s σ H Q I hw;refine wpAny_isTrue_Compare1 (bf (h aH s σ H _ I hw) λv s1 h1=>bf h1 λu s2 h2=>bf h2 λc s3 ⟨x,H1,I1,r1,q1⟩=>?_) h1;obtain⟨d,rfl,q⟩:=q1;cases r1;exact ah ⟨H1,I1,q⟩
theorem Fj{t:TE}(h:PE X e t)(he:∀ue,isTrue e X.env ue=(do let v ← ue;standAt e.pos;holding [v] (truthy v)):=by intro _;rfl):PT X e (tB t):=by
 intro aH s σ H Q I hw;refine isTrue_plain (bf (h aH s σ H _ I hw) λv s1 ⟨x,H1,I1,r1,q1⟩=>?_) (he _);obtain⟨d,rfl,q⟩:=q1;cases r1;exact ah ⟨H1,I1,q⟩
variable{tA Bo:TT}{dZ:List Expr}
def qL(t u:TT):TT:=λσ H Q=>t σ H λc H1=>if c=true then u σ H1 Q else Q false H1
def Uj(t u:TT):TT:=λσ H Q=>t σ H λc H1=>if c=true then Q true H1 else u σ H1 Q
def Fl(t:TT):TT:=λσ H Q=>t σ H λc H1=>Q (!c) H1
theorem ug(ha:PT X a tA):PW X (.BoolOp .And [a] pos) tA:=by
 intro wh aH s σ H Q I h;refine isTrue_and (bf (ha aH s σ H Q I h) λc s1 e=>?_);cases c with
 |true=>exact isTrue_and_nil e
 |false=>exact e
theorem Uk(ha:PT X a tA):PW X (.BoolOp .Or [a] pos) tA:=by
 intro wh aH s σ H Q I h;refine isTrue_or (bf (ha aH s σ H Q I h) λc s1 e=>?_);cases c with
 |false=>exact isTrue_or_nil e
 |true=>exact e
theorem oU(ha:PT X a tA)(hb:PW X (.BoolOp .And (b::dZ) pos) Bo):PW X (.BoolOp .And (a::b::dZ) pos) (qL tA Bo):=by
 intro wh aH s σ H Q I h;refine isTrue_and (bf (ha aH s σ H _ I h) λc s1 ⟨H1,I1,q1⟩=>?_);cases c with
 |true=>exact hb wh aH s1 σ H1 Q I1 q1
 |false=>exact⟨H1,I1,q1⟩
theorem Ul(ha:PT X a tA)(hb:PW X (.BoolOp .Or (b::dZ) pos) Bo):PW X (.BoolOp .Or (a::b::dZ) pos) (Uj tA Bo):=by
 intro wh aH s σ H Q I h;refine isTrue_or (bf (ha aH s σ H _ I h) λc s1 ⟨H1,I1,q1⟩=>?_);cases c with
 |true=>exact⟨H1,I1,q1⟩
 |false=>exact hb wh aH s1 σ H1 Q I1 q1
theorem LW(ha:PT X a tA):PT X (.UnaryOp .Not a pos) (Fl tA):=by
 intro aH s σ H Q I h;exact isTrue_not (ha aH s σ H (λc H1=>Q (!c) H1) I h)
def Um(t:TT)(ta tb:TE):TE:=λσ H Q=>t σ H λc H1=>if c=true then ta σ H1 Q else tb σ H1 Q
theorem Fm{c:Expr}(hc:PT X c tA)(ha:PE X a ta)(hb:PE X b tb):PE X (.IfExp c a b pos) (Um tA ta tb):=by
 intro aH s σ H Q I h;refine wpAny_IfExp (bf (hc aH s σ H _ I h) λd s1 ⟨H1,I1,q1⟩=>?_);cases d with
 |true=>exact ha aH s1 σ H1 Q I1 q1
 |false=>exact hb aH s1 σ H1 Q I1 q1
end
def dw(K:Frag)(H:Hp)(a:Addr)(xs:List V):Prop:=
 Rd H a (.lst xs) ∨
  ∃(o:Obj)(its:Array Value)(n:Nat),K.lookup a=some o∧o.cls=.type "list"∧o.dict=none∧o.data=.seq its n∧its.size≤sizeLine∧Vals xs its.toList
def bh(K:Frag)(H:Hp)(a:Addr)(xs:List V):Prop:=
 Rd H a (.tup xs) ∨
  ∃(o:Obj)(its:Array Value)(n:Nat),K.lookup a=some o∧o.cls=.type "tuple"∧o.data=.seq its n∧its.size≤sizeLine∧Vals xs its.toList
noncomputable def Uo:Value→Option V
 | .none=>some .cg
 | .bool b=>some (.bl b)
 | .int i _=>some (.int i)
 | .str x _=>some (.str x)
 | .bytes b _=>some (.ni b)
 | .float b _=>some (.vR b)
 | .ref a=>some (.ref a)
 | .type n=>some (.ty n)
 |_=>none
theorem RelV.abs{x:V}(r:RelV x u):Uo u=some x:=by
 cases x with
 |cg=>cases r;rfl
 |bl _=>cases r;rfl
 |int _=>obtain⟨t,rfl⟩:=r;rfl
 |str _=>obtain⟨t,rfl⟩:=r;rfl
 |ni _=>obtain⟨t,rfl⟩:=r;rfl
 |vR _=>obtain⟨t,rfl⟩:=r;rfl
 |ref _=>cases r;rfl
 |ty _=>cases r;rfl
theorem RelV.inj{x y:V}{u:Value}(r:RelV x u)(q:RelV y u):x=y:=cN (r.abs.symm.trans q.abs)
theorem Vals.inj:∀{xs ys:List V}{us:List Value},Vals xs us→Vals ys us→xs=ys
 |_,_,_,.nil,.nil=>rfl
 |_,_,_,.cons r t,.cons r' t'=>by rw[r.inj r',Vals.inj t t']
section
variable{X:Cx}{aH:List (Addr×Obj)}{σ:St}{H:Hp}{s:Shared}{a:Addr}{xs ys:List V}
theorem dw.of{K:Frag}(h:H a=some (.lst xs)):dw K H a xs:=.inl (.inl h)
theorem bh.of{K:Frag}(h:H a=some (.tup xs)):bh K H a xs:=.inl (.inl h)
theorem Inv.list(I:Inv X aH σ H s)(h:dw X.K H a xs):∃its:List Value,Vals xs its∧PlainL s.heap a its.toArray∧xs.length≤sizeLine:=by
 rcases h with h|⟨o,its,n,hk,hc,hd,hs,hz,r⟩
 ·obtain⟨z,its,n,r,e⟩:=h.ok I.bH;exact⟨its,r,⟨_,n,e,rfl,rfl,rfl⟩,z⟩
 ·refine⟨its.toList,r,⟨o,n,I.fo a o hk,hc,hd,by simpa using hs⟩,?_⟩;have e:=r.length;simp only[Array.length_toList]at e;lia
theorem Inv.tuple(I:Inv X aH σ H s)(h:bh X.K H a xs):∃its:List Value,Vals xs its∧IsTup s.heap a its.toArray∧xs.length≤sizeLine:=by
 rcases h with h|⟨o,its,n,hk,hc,hs,hz,r⟩
 ·obtain⟨z,its,r,p⟩:=h.ok I.bH;exact⟨its,r,p.tup,z⟩
 ·refine⟨its.toList,r,⟨o,I.fo a o hk,hc,n,by simpa using hs⟩,?_⟩;have e:=r.length;simp only[Array.length_toList]at e;lia
theorem Inv.LX(I:Inv X aH σ H s)(h:dw X.K H a xs)(h':dw X.K H a ys):xs=ys:=by
 obtain⟨its,r,⟨o,n,e,_,_,d⟩,_⟩:=I.list h;obtain⟨its',r',⟨o',n',e',_,_,d'⟩,_⟩:=I.list h';rw[e]at e';cases e';rw[d]at d';injection d' with d1 _
 have:its=its':=by simpa using ai Array.toList d1
 subst this;exact r.inj r'
theorem Inv.LY(I:Inv X aH σ H s)(h:bh X.K H a xs)(h':bh X.K H a ys):xs=ys:=by
 obtain⟨its,r,⟨o,e,_,n,d⟩,_⟩:=I.tuple h;obtain⟨its',r',⟨o',e',_,n',d'⟩,_⟩:=I.tuple h';rw[e]at e';cases e';rw[d]at d';injection d' with d1 _
 have:its=its':=by simpa using ai Array.toList d1
 subst this;exact r.inj r'
end
noncomputable abbrev Cx.oV(X:Cx)(E:QV):Cx:={ X with xe:=E }
noncomputable abbrev Cx.ma(X:Cx):Cx:=X.oV λ_ _=>False
theorem Cx.Ok.oV{X:Cx}(ok:X.Ok)(E:QV):(X.oV E).Ok:=
 ⟨ok.mod,ok.kind,ok.glob,ok.blt,ok.above,ok.inj,ok.has,ok.x6,ok.hd,ok.frames,ok.se,ok.x8,ok.bs,ok.qJ,ok.x9,ok.vT,ok.nj,ok.sf⟩
theorem Cx.Ok.qM(ok:(X.oV E).Ok):X.Ok:=
 ⟨ok.mod,ok.kind,ok.glob,ok.blt,ok.above,ok.inj,ok.has,ok.x6,ok.hd,ok.frames,ok.se,ok.x8,ok.bs,ok.qJ,ok.x9,ok.vT,ok.nj,ok.sf⟩
section
variable{X:Cx}{aH:List (Addr×Obj)}{σ:St}{H:Hp}{s:Shared}{E:QV}
theorem Inv.oV(I:Inv X aH σ H s)(E:QV):Inv (X.oV E) aH σ H s:=⟨I.ok.oV E,I.os,I.bare,I.base,I.loc,I.cell,I.free,I.nU,I.pin,I.bH,I.len⟩
theorem Inv.qM(I:Inv (X.oV E) aH σ H s):Inv X aH σ H s:=⟨I.ok.qM,I.os,I.bare,I.base,I.loc,I.cell,I.free,I.nU,I.pin,I.bH,I.len⟩
theorem SP.qM{D:Ends}{f:Flow}{s':Shared}(h:SP (X.oV E) aH D f s'):SP X aH D f s':=by
 cases f with
 |next=>obtain⟨σ',H',I,q⟩:=h;exact⟨σ',H',I.qM,q⟩
 |brk=>obtain⟨σ',H',I,q⟩:=h;exact⟨σ',H',I.qM,q⟩
 |cont=>obtain⟨σ',H',I,q⟩:=h;exact⟨σ',H',I.qM,q⟩
 |ret u=>obtain⟨v,σ',H',I,r,q⟩:=h;exact⟨v,σ',H',I.qM,r,q⟩
theorem PE.ma{e:Expr}{t:TE}(h:PE X.ma e t):PE X e t:=λaH s σ H Q I hw=>
 ag (h aH s σ H Q (I.oV _) hw) (λ_ _ ⟨v,H',I',r,q⟩=>⟨v,H',I'.qM,r,q⟩) λ_ _ z=>False.elim z
theorem jl.ma{st:List Stmt}{t:TS}(h:jl X.ma st t):jl X st t:=λaH s σ H D I hw=>
 ag (h aH s σ H D (I.oV _) hw) (λ_ _ q=>q.qM) λ_ _ z=>False.elim z
end
section
variable{X:Cx}{st:Stmt}{dZ:List Stmt}{t u:TS}{e:Expr}{te:TE}{pos:Pos}
def gi:TS:=λD σ H=>D.nx σ H
def cy(t u:TS):TS:=λD σ H=>t { D with nx:=u D } σ H
theorem eK:jl X [] gi:=λ_ _ σ H _ I h=>aj ⟨σ,H,I,h⟩
theorem bg(h1:PS X st t)(h2:jl X dZ u):jl X (st::dZ) (cy t u):=by
 intro aH s σ H D I h;refine wpAny_execs_cons (bf (h1 aH s σ H { D with nx:=u D } I h) λf s1 q=>?_);cases f with
 |next=>
  obtain⟨σ',H',I',q⟩:=q;exact h2 aH s1 σ' H' D I' q
 |ret v=>exact q
 |brk=>exact q
 |cont=>exact q
theorem bQ(h1:PS X st t):jl X [st] t:=by
 intro aH s σ H D I h;refine wpAny_execs_cons (bf (h1 aH s σ H D I h) λf s1 q=>?_);cases f with
 |next=>exact aj q
 |ret v=>exact q
 |brk=>exact q
 |cont=>exact q
theorem Inv.quiet(I:Inv X aH σ H s):interactive X.env=false:=by simp[interactive,I.ok.kind]
def yi(te:TE):TS:=λD σ H=>te σ H λ_ H1=>D.nx σ H1
theorem md(he:PE X e te)(hs:swapsWith e none pos.line X.env=pure false:=by rfl):PS X (.Expr e pos) (yi te):=by
 intro aH s σ H D I h;exact wpAny_Expr_any (bf (he aH s σ H _ I h) λv s1 ⟨x,H1,I1,r1,q1⟩=>⟨σ,H1,I1,q1⟩) I.quiet hs
def eh(te:TE):TS:=λD σ H=>te σ H D.rt
theorem cI(he:PE X e te):PS X (.Return (some e) pos) (eh te):=by
 intro aH s σ H D I h;exact wpAny_Return_some (bf (he aH s σ H _ I h) λv s1 ⟨x,H1,I1,r1,q1⟩=>⟨x,σ,H1,I1,r1,q1⟩)
def dW(c:TT)(t u:TS):TS:=λD σ H=>c σ H λb H1=>if b=true then t D σ H1 else u D σ H1
theorem ee{c:Expr}{a b:List Stmt}{tc:TT}(hc:PT X c tc)(ha:jl X a t)(hb:jl X b u):PS X (.If c a b pos) (dW tc t u):=by
 intro aH s σ H D I h;refine wpAny_If (bf (hc aH s σ H _ I h) λd s1 ⟨H1,I1,q1⟩=>?_);cases d with
 |true=>exact ha aH s1 σ H1 D I1 q1
 |false=>exact hb aH s1 σ H1 D I1 q1
def LZ:TS:=λ_ _ _=>False
theorem Up:PS X st LZ:=λ_ _ _ _ _ _ h=>h.elim
theorem Uq{Ur:List Stmt}:jl X Ur LZ:=λ_ _ _ _ _ _ h=>h.elim
end
abbrev TG:=V→St→Hp→(St→Hp→Prop)→Prop
abbrev pP:=List V→St→Hp→(St→Hp→Prop)→Prop
def PG(X:Cx)(target:Expr)(t:TG):Prop:=
 ∀(aH:List (Addr×Obj))(s:Shared)(σ:St)(H:Hp)(v:V)(u:Value)(Q:St→Hp→Prop),Inv X aH σ H s→RelV v u→t v σ H Q→
  wpAny (model X.prog X.w) X.A (assign target X.env u) (λ_ s'=>∃σ' H',Inv X aH σ' H' s'∧Q σ' H') X.xe s
def vV(X:Cx)(ts:List Expr)(t:pP):Prop:=
 ∀(aH:List (Addr×Obj))(s:Shared)(σ:St)(H:Hp)(vs:List V)(us:List Value)(Q:St→Hp→Prop),Inv X aH σ H s→Vals vs us→t vs σ H Q→
  wpAny (model X.prog X.w) X.A (assignInOrder ((assignEach ts X.env).map (·.2)) us) (λ_ s'=>∃σ' H',Inv X aH σ' H' s'∧Q σ' H') X.xe s
abbrev Fo:=V→V→V→Hp→(Hp→Prop)→Prop
def L0(X:Cx)(t:Fo):Prop:=
 ∀(aH:List (Addr×Obj))(s:Shared)(σ:St)(H:Hp)(o i v:V)(ov iv u:Value)(Q:Hp→Prop),Inv X aH σ H s→RelV o ov→RelV i iv→RelV v u→t o i v H Q→
  wpAny (model X.prog X.w) X.A (setItem ov iv u) (λ_ s'=>∃H',Inv X aH σ H' s'∧Q H') X.xe s
section
variable{X:Cx}{pos:Pos}
def cq(i:Nat):TG:=λv σ H Q=>Q (σ.set i (some v)) H
theorem cF(hN:X.N.Nodup)(hi:X.N[i]?=some x)(hx:Loc X.env.scope x)(hf:X.fn x=true∨X.env.scope.names.lookup x=some .local:=by first|exact .inl rfl|exact .inr rfl|assumption):PG X (.Name x pos) (cq i):=by
 intro aH s σ H v u Q I r h;exact wpAny_assign_Name (Bn I hN hi hx r (λs' I'=>⟨_,H,I',h⟩) hf)
def Bp:pP:=λvs σ H Q=>vs=[]∧Q σ H
def si(t:TG)(u:pP):pP:=λvs σ H Q=>∃v r,vs=v::r∧t v σ H λσ' H'=>u r σ' H' Q
theorem qN:vV X [] Bp:=by
 intro aH s σ H vs us Q I r h;obtain⟨e,h⟩:=h;subst e;cases r;exact assignInOrder_nil ⟨σ,H,I,h⟩
theorem iM{es:List Expr}{t:TG}{u:pP}(h1:PG X e t)(h2:vV X es u)
  (hs:(assignEach (e::es) X.env).map (·.2)=assign e X.env::(assignEach es X.env).map (·.2):=by rfl):vV X (e::es) (si t u):=by
 intro aH s σ H vs us Q I r h;obtain⟨v,vr,e1,h⟩:=h;subst e1;cases r with
 |cons r rr=>
  rw[hs];refine assignInOrder_cons (bf (h1 aH s σ H _ _ _ I r h) λ_ s1 ⟨σ1,H1,I1,q1⟩=>?_);exact h2 aH s1 σ1 H1 _ _ Q I1 rr q1
def yj(K:Frag)(n:Nat)(t:pP):TG:=λv σ H Q=>∃a xs,v=.ref a∧bh K H a xs∧xs.length=n∧t xs σ H Q
theorem Us{es:List Expr}{k:Nat}{t:pP}(hc:X.calm=true)(h:vV X es t)
  (hn:(assignEach es X.env).length=n:=by rfl) (yk:(assignEach es X.env).findIdx? (·.1)=none:=by rfl):PG X (.Tuple es k pos) (yj X.K n t):=by
 intro aH s σ H v u Q I r hw;obtain⟨a,xs,e1,hq,hl,hw⟩:=hw;subst e1;cases r;obtain⟨its,rv,ht,hz⟩:=I.tuple hq;refine assign_Tuple_tuple (I.ok.hd hc) ht (by simp[hn,← hl,rv.length]) yk λh' hx=>?_;have I1:Inv X aH σ H { s with heap:=h' }:=I.kept (t':=s.toks) λb o e=>hx b o (gU (dN e)) e;exact h aH _ σ H xs _ Q I1 (by simpa using rv) hw
def L1(to ti:TE)(t:Fo):TG:=λv σ H Q=>to σ H λo H1=>ti σ H1 λi H2=>t o i v H2 λH3=>Q σ H3
theorem Fp{o i:Expr}{to ti:TE}{t:Fo}(ho:PE X o to)(hi:PE X i ti)(hs:L0 X t)
  (ha:∀v,assign (.Subscript o i pos) X.env v=(do
   let ov ← holding [v] (eval o X.env)
   let iv ← holding [v,ov] (eval i X.env)
   standAt pos
   holding [v,ov,iv] (setItem ov iv v)
   release [v,ov,iv] []):=by intro _;rfl):PG X (.Subscript o i pos) (L1 to ti t):=by
 intro aH s σ H v u Q I r h;rw[ha];refine ak (ao (bf (ho aH s σ H _ I h) λov s1 ⟨x,H1,I1,r1,q1⟩=>?_));refine ak (ao (bf (hi aH s1 σ H1 _ I1 q1) λiv s2 ⟨y,H2,I2,r2,q2⟩=>?_));refine ak (wpAny_standAt (ak (ao (bf (hs aH s2 σ H2 x y v ov iv u _ I2 r1 r2 r q2) λ_ s3 ⟨H3,I3,q3⟩=>?_))));exact wpAny_release ⟨σ,H3,I3,q3⟩
def dC(te:TE)(g:TG):TS:=λD σ H=>te σ H λx H1=>g x σ H1 D.nx
theorem sj{te:TE}(he:PE X e te)(hg:PG X tg g)(hs:swapsWithSole [tg] e pos.line X.env=pure false:=by rfl)(hw:swappedStores [tg] e X.env=pure none:=by rfl)
  (h1:(assignEach [tg] X.env).map (·.2)=[assign tg X.env]:=by rfl):PS X (.Assign [tg] e pos) (dC te g):=by
 intro aH s σ H D I h;refine wpAny_Assign_stores (bf (he aH s σ H _ I h) λv s1 ⟨x,H1,I1,r1,q1⟩=>?_) hs hw;rw[h1];exact bf (hg aH s1 σ H1 x v _ I1 r1 q1) λ_ s2 q=>q
theorem cm{te:TE}{oW:Pos}(hN:X.N.Nodup)(hi:X.N[i]?=some x)(hx:Loc X.env.scope x)(he:PE X e te)(hs:swapsWith e (some (.Name x oW)) pos.line X.env=pure false:=by rfl)(hf:X.fn x=true∨X.env.scope.names.lookup x=some .local:=by first|exact .inl rfl|exact .inr rfl|assumption) :
  PS X (.Assign [.Name x oW] e pos) (dC te (cq i)):=by
 intro aH s σ H D I h;refine wpAny_Assign_Name (bf (he aH s σ H _ I h) λv s1 ⟨y,H1,I1,r1,q1⟩=>?_) hs;exact Bn I1 hN hi hx r1 (λs2 I2=>⟨_,H1,I2,q1⟩) hf
end
section
variable{X:Cx}{pos:Pos}
end
structure It where
 go:Nat→Hp→Prop
 qO:Nat→Hp→V→Hp→Prop
 stop:Nat→Hp→Prop
def j5(X:Cx)(aH:List (Addr×Obj))(H:Hp)(b:Addr):Prop:=
 H b=none∧b≠X.env.locals∧b ∉ X.fs∧(b∈X.ex∨X.s₀.heap.objs.size≤b)∧(∀x c,X.env.cells.lookup x=some c→c≠b)∧∀p∈X.pn++aH,p.1≠b
theorem Inv.pQ{H':Hp}(I:Inv X aH σ H s)(hb:s.heap.objs.size≤b)(hn:H' b=none):j5 X aH H' b:=by
 refine⟨hn,Nat.ne_of_gt (ji I.lt hb),I.T7 hb,.inr (eJ I.sz hb),λx c e z=>?_,λp hp z=>?_⟩
 ·obtain⟨v,q⟩:=I.cell x c e;exact absurd (ji q.lt (by rw[z];exact hb)) (vK _)
 ·exact absurd (ji (dN (I.pin p hp).1) (by rw[z];exact hb)) (vK _)
structure Turn(P:Program)(w:World)(K:Frag)(tg:Expr)(J:It)(fp:List Addr)(it:Addr)(tn:Nat→Heap→Prop):Prop where
 mem:it∈fp
 obj:∀i h,tn i h→∀b∈fp,∃o,h.get? b=some o∧∀v,o.data≠.cell v
 keep:∀i h h',tn i h→(∀b∈fp,∀o,h.get? b=some o→h'.get? b=some o)→tn i h'
 item:∀(X:Cx),X.prog=P→X.w=w→X.K=K→X.calm=true→∀(i:Nat)(aH:List (Addr×Obj))(s:Shared)(σ:St)(H:Hp)(E:QV),Inv X aH σ H s→(∀b∈fp,j5 X aH H b)→tn i s.heap→J.go i H→
  wpAny (model P w) X.A (pyNext (.ref it)) (λr s1=>∃u,r=some u∧
   wpAny (model P w) X.A (letOwnedTupleGo tg (.ref it) u) (λ_ s2=>∃x H',Inv X aH σ H' s2∧RelV x u∧J.qO i H x H'∧tn (i+1) s2.heap∧∀b∈fp,H' b=none) E s1) E s
 done:∀(X:Cx),X.prog=P→X.w=w→X.K=K→X.calm=true→∀(i:Nat)(aH:List (Addr×Obj))(s:Shared)(σ:St)(H:Hp)(E:QV),Inv X aH σ H s→(∀b∈fp,j5 X aH H b)→tn i s.heap→J.stop i H→
  wpAny (model P w) X.A (pyNext (.ref it)) (λr s1=>r=none∧Inv X aH σ H s1) E s
 self:∀(A:Around)(i:Nat)(s:Shared)(Q:QV)(E:QV),tn i s.heap→Q (.ref it) s→wpAny (model P w) A (pyIter (.ref it)) Q E s
abbrev TI:=St→Hp→(It→Hp→Prop)→Prop
def Fq(X:Cx)(aH:List (Addr×Obj))(σ:St)(tg:Expr)(R:It→Hp→Prop)(Bq:Value)(s2:Shared):Prop:=
 ∃(it:Addr)(fp:List Addr)(tn:Nat→Heap→Prop)(J:It)(H':Hp),Bq=.ref it∧Inv X aH σ H' s2∧Turn X.prog X.w X.K tg J fp it tn∧tn 0 s2.heap∧(∀b∈fp,j5 X aH H' b)∧R J H'
def PI(X:Cx)(tg iter:Expr)(wi:TI):Prop:=
 ∀(aH:List (Addr×Obj))(s:Shared)(σ:St)(H:Hp)(R:It→Hp→Prop),Inv X aH σ H s→wi σ H R→
  wpAny (model X.prog X.w) X.A (eval iter X.env) (λv s1=>wpAny (model X.prog X.w) X.A (pyIter v) (Fq X aH σ tg R) X.xe s1) X.xe s
theorem Br{it:Addr}{n:String}{vs:Array Value}(ho:s.heap.get? it=some o)(hc:o.cls=.type n)(hd:o.data=.fields vs)
  (hn:["enumerate","zip","dict_itemiterator","dict_reverseitemiterator","odict_iterator","itertools.zip_longest","itertools.pairwise"].contains n=false) (hQ:Q () s):wpAny M A (letOwnedTupleGo tg (.ref it) u) Q E s:=by
 unfold letOwnedTupleGo;cases tg<;>first
  |exact aq hQ
  |(cases u<;>first
    |exact aq hQ
    |(refine ak (wpAny_load ho ?_);rw[hc,hd];show wpAny M A (if(["enumerate","zip","dict_itemiterator","dict_reverseitemiterator","odict_iterator","itertools.zip_longest","itertools.pairwise"].contains n&&vs[0]? == some (rawInt _))=true then _ else _) Q E s;rw[af (by intro h;rw[hn,Bool.false_and]at h;cases h)];exact aq hQ))
noncomputable def qP(K:Frag)(a:Addr):It:=
 ⟨λi H=>∃xs x,dw K H a xs∧xs[i]?=some x,λi H x H'=>H'=H∧∀xs,dw K H a xs→xs[i]?=some x,λi H=>∃xs,dw K H a xs∧xs.length≤i⟩
noncomputable def uh(K:Frag)(a:Addr):It:=
 ⟨λi H=>∃xs x,bh K H a xs∧xs[i]?=some x,λi H x H'=>H'=H∧∀xs,bh K H a xs→xs[i]?=some x,λi H=>∃xs,bh K H a xs∧xs.length≤i⟩
noncomputable def qQ(lo:Int)(n:Nat):It:=⟨λi _=>i<n,λi H x H'=>H'=H∧x=.int (lo+i),λi _=>n≤i⟩
theorem Ut{P:Program}{w:World}{K:Frag}(a it:Addr):Turn P w K tg (qP K a) [it] it (λi h=>h.IsListIter it a i) where
 mem:=by simp
 obj:=λi h st b hb=>by
  have e:b=it:=by simpa using hb
  subst e;obtain⟨o,e,c,d⟩:=st;exact⟨o,e,λv z=>by rw[d]at z;cases z⟩
 keep:=λi h h' st k=>st.at λo e=>k it (by simp) o e
 item:=by
  intro X hP hw hK hc i aH s σ H E I hf st hg;subst hP hw hK;obtain⟨xs,x,hq,hx⟩:=hg;obtain⟨its,rv,p,hz⟩:=I.list hq;obtain⟨u,hu,ru⟩:=rv.get hx;obtain⟨f0,f1,f2,f3,f4,f5⟩:=hf it (by simp);refine wpAny_pyNext_list_item st p.isList (x:=u) (by simpa using hu) λh' oX sb=>?_;have I1:Inv X aH σ H { s with heap:=h' }:=I.turned (t':=s.toks) (λb o hb e=>(sb.2 b hb).trans e) f0 f1 f3 f4 f5;obtain⟨o,e,c,d⟩:=id oX;exact⟨u,rfl,Br (s:={ s with heap:=h' }) e c d (by decide) ⟨x,H,I1,ru,⟨rfl,λys hy=>by rw[I.LX hy hq];exact hx⟩,oX,λb hb=>(hf b hb).1⟩⟩
 done:=by
  intro X hP hw hK hc i aH s σ H E I hf st hg;subst hP hw hK;obtain⟨xs,hq,hx⟩:=hg;obtain⟨its,rv,p,hz⟩:=I.list hq;obtain⟨f0,f1,f2,f3,f4,f5⟩:=hf it (by simp);have hl:=rv.length;exact wpAny_pyNext_list_end (I.ok.hd hc) st p.isList (by simp;lia) λh' eb=>⟨rfl,I.turned (t':=s.toks) (λb o hb e=>eb b o hb e) f0 f1 f3 f4 f5⟩
 self:=λ_ _ _ _ _ st h=>wpAny_pyIter_listiter st h
theorem Uu{P:Program}{w:World}{K:Frag}(a it:Addr):Turn P w K tg (uh K a) [it] it (λi h=>h.IsTupleIter it a i) where
 mem:=by simp
 obj:=λi h st b hb=>by
  have e:b=it:=by simpa using hb
  subst e;obtain⟨o,e,c,d⟩:=st;exact⟨o,e,λv z=>by rw[d]at z;cases z⟩
 keep:=λi h h' st k=>st.at λo e=>k it (by simp) o e
 item:=by
  intro X hP hw hK hc i aH s σ H E I hf st hg;subst hP hw hK;obtain⟨xs,x,hq,hx⟩:=hg;obtain⟨its,rv,p,hz⟩:=I.tuple hq;obtain⟨u,hu,ru⟩:=rv.get hx;obtain⟨f0,f1,f2,f3,f4,f5⟩:=hf it (by simp);refine wpAny_pyNext_tuple_item st (show s.heap.IsTuple a its.toArray from p) (x:=u) (by simpa using hu) λh' oX sb=>?_
  have I1:Inv X aH σ H { s with heap:=h' }:=I.turned (t':=s.toks) (λb o hb e=>(sb.2 b hb).trans e) f0 f1 f3 f4 f5;obtain⟨o,e,c,d⟩:=id oX;exact⟨u,rfl,Br (s:={ s with heap:=h' }) e c d (by decide) ⟨x,H,I1,ru,⟨rfl,λys hy=>by rw[I.LY hy hq];exact hx⟩,oX,λb hb=>(hf b hb).1⟩⟩
 done:=by
  intro X hP hw hK hc i aH s σ H E I hf st hg;subst hP hw hK;obtain⟨xs,hq,hx⟩:=hg;obtain⟨its,rv,p,hz⟩:=I.tuple hq;obtain⟨f0,f1,f2,f3,f4,f5⟩:=hf it (by simp);have hl:=rv.length;exact wpAny_pyNext_tuple_end (I.ok.hd hc) st (show s.heap.IsTuple a its.toArray from p) (by simp;lia) λh' eb=>⟨rfl,I.turned (t':=s.toks) (λb o hb e=>eb b o hb e) f0 f1 f3 f4 f5⟩
 self:=λ_ _ _ _ _ st h=>wpAny_pyIter_tupleiter st h
theorem Uv{P:Program}{w:World}{K:Frag}(it:Addr)(lo:Int)(n:Nat):Turn P w K tg (qQ lo n) [it] it (λi h=>IsRangeIter h it (lo+(i:Nat)*1) ((n:Int)-(i:Nat)) 1) where
 mem:=by simp
 obj:=λi h st b hb=>by
  have e:b=it:=by simpa using hb
  subst e;exact⟨_,st,λv z=>by
   have z':Data.fields _=Data.cell v:=z;cases z'⟩
 keep:=λi h h' st k=>k it (by simp) _ st
 item:=by
  intro X hP hw hK hc i aH s σ H E I hf st hg;subst hP hw hK;obtain⟨f0,f1,f2,f3,f4,f5⟩:=hf it (by simp);have W:=Walks.range (prog:=X.prog) (w:=X.w) (I.ok.hd hc) it lo 1 n;refine W.item i s _ _ hg st λv h' tk hv oX kk=>?_;obtain⟨t,rfl⟩:=hv;have I1:Inv X aH σ H { s with heap:=h',toks:=tk }:=I.turned (λb o hb e=>kk b o (by simpa using hb) e) f0 f1 f3 f4 f5;refine⟨_,rfl,Br (s:={ s with heap:=h',toks:=tk }) (n := "range_iterator") oX rfl rfl (by decide) ⟨.int (lo+i),H,I1,⟨t,?_⟩,⟨rfl,rfl⟩,oX,λb hb=>(hf b hb).1⟩⟩;rw[Int.mul_one]
 done:=by
  intro X hP hw hK hc i aH s σ H E I hf st hg;subst hP hw hK;obtain⟨f0,f1,f2,f3,f4,f5⟩:=hf it (by simp);exact wpAny_pyNext_range_end (I.ok.hd hc) st (by have:n≤i:=hg;lia) λh' eb=>⟨rfl,I.turned (t':=s.toks) (λb o hb e=>eb b o hb e) f0 f1 f3 f4 f5⟩
 self:=λ_ _ _ _ _ st h=>wpAny_pyIter_rangeiter st h
section
variable{X:Cx}{tg:Expr}
def L3(K:Frag)(tl:TE):TI:=λσ H R=>tl σ H λx H1=>∃a,x=.ref a∧(∃xs,dw K H1 a xs)∧R (qP K a) H1
def me(K:Frag)(tl:TE):TI:=λσ H R=>tl σ H λx H1=>∃a,x=.ref a∧(∃xs,bh K H1 a xs)∧R (uh K a) H1
theorem Uw{l:Expr}{tl:TE}(hl:PE X l tl):PI X tg l (L3 X.K tl):=by
 intro aH s σ H R I h;refine bf (hl aH s σ H _ I h) λv s1 ⟨x,H1,I1,r1,q1⟩=>?_;obtain⟨a,e,⟨xs,hq⟩,q⟩:=q1;subst e;cases r1;obtain⟨its,rv,p,hz⟩:=I1.list hq;refine wpAny_pyIter_list p.isList ?_;refine⟨s1.heap.objs.size,[s1.heap.objs.size],_,_,H1,rfl,I1.kept (t':=s1.toks) λb o e=>dX _ e,Ut a _,⟨_,iW _ rfl,rfl,rfl⟩,λb hb=>?_,q⟩;have e:b=s1.heap.objs.size:=by simpa using hb
 subst e;exact I1.pQ (cf _) (I1.bH.fresh (cf _))
theorem Ux{l:Expr}{tl:TE}(hl:PE X l tl):PI X tg l (me X.K tl):=by
 intro aH s σ H R I h;refine bf (hl aH s σ H _ I h) λv s1 ⟨x,H1,I1,r1,q1⟩=>?_;obtain⟨a,e,⟨xs,hq⟩,q⟩:=q1;subst e;cases r1;obtain⟨its,rv,p,hz⟩:=I1.tuple hq;refine wpAny_pyIter_tuple (show s1.heap.IsTuple a its.toArray from p) ?_
 refine⟨s1.heap.objs.size,[s1.heap.objs.size],_,_,H1,rfl,I1.kept (t':=s1.toks) λb o e=>dX _ e,Uu a _,⟨_,iW _ rfl,rfl,rfl⟩,λb hb=>?_,q⟩;have e:b=s1.heap.objs.size:=by simpa using hb
 subst e;exact I1.pQ (cf _) (I1.bH.fresh (cf _))
theorem L5{R:It→Hp→Prop}{lo hi:Int}{t u v:Tok}{tk:Nat}(I:Inv X aH σ H s)(h1:-(2^62)≤lo)(h2:lo<2^62)(h3:-(2^62)≤hi)(h4:hi<2^62)
  (q:R (qQ lo (hi-lo).toNat) H):wpAny (model X.prog X.w) X.A (pyIter (.ref s.heap.objs.size)) (Fq X aH σ tg R) E { s with heap:=s.heap.push { cls:=.type "range",data:=.fields #[.int lo t,.int hi u,.int 1 v] },toks:=tk }:=by
 refine wpAny_pyIter_range (IsRange.new ..) (small_one h1 h2 h3 h4) ?_;have I1:Inv X aH σ H { s with heap:=s.heap.push { cls:=.type "range",data:=.fields #[.int lo t,.int hi u,.int 1 v] },toks:=tk }:=I.kept λb o e=>dX _ e;refine⟨(s.heap.push { cls:=.type "range",data:=.fields #[.int lo t,.int hi u,.int 1 v] }).objs.size,[(s.heap.push { cls:=.type "range",data:=.fields #[.int lo t,.int hi u,.int 1 v] }).objs.size],_,_,H,rfl,
  I1.kept (t':=tk) λb o e=>dX _ e,Uv _ lo (hi-lo).toNat,?_,λb hb=>?_,q⟩
 ·have e1:lo+((0:Nat):Int)*1=lo:=by simp
  have e2:(((hi-lo).toNat:Nat):Int)-((0:Nat):Int)=Builtin.Range.rangeSize lo hi 1:=by rw[rangeSize_one];split<;>lia
  show IsRangeIter _ _ (lo+((0:Nat):Int)*1) ((((hi-lo).toNat:Nat):Int)-((0:Nat):Int)) 1;rw[e1,e2];exact iW _ rfl
 ·have e:b=(s.heap.push { cls:=.type "range",data:=.fields #[.int lo t,.int hi u,.int 1 v] }).objs.size:=by simpa using hb
  subst e;exact I1.pQ (cf _) (I1.bH.fresh (cf _))
def Bs(ta:TA):TI:=λσ H R=>ta σ H λvs H1=>∃j:Int,vs=[.int j]∧-(2^62)≤j∧j<2^62∧R (qQ 0 j.toNat) H1
def Uy(ta:TA):TI:=λσ H R=>ta σ H λvs H1=>∃i j:Int,vs=[.int i,.int j]∧(-(2^62)≤i∧i<2^62∧-(2^62)≤j∧j<2^62)∧R (qQ i (j-i).toNat) H1
theorem j6{a:Expr}{ta:TA}{p pos:Pos}(hg:Gl X "range")(hm:X.mg "range"=none)(ha:PA X [a] ta)(hs:starEach [a] X.env=[(false,eval a X.env)]:=by rfl):PI X tg (.Call (.Name "range" p) [a] [] pos) (Bs ta):=by
 intro aH s σ H R I h;refine Call_ (sg I hg hm boot_range (Ba (bf (ha pos aH s σ H _ I h) λus s1 ⟨vs,H1,I1,r1,q1⟩=>?_) hs rfl));obtain⟨j,e,q1,q2,q⟩:=q1;subst e;cases r1 with
 |cons r rr=>
  cases rr;obtain⟨t,rfl⟩:=r;exact call_range_1 (L5 I1 (by lia) (by lia) q1 q2 (by simpa using q))
theorem Uz{a b:Expr}{ta:TA}{p pos:Pos}(hg:Gl X "range")(hm:X.mg "range"=none)(ha:PA X [a,b] ta)(hs:starEach [a,b] X.env=[(false,eval a X.env),(false,eval b X.env)]:=by rfl)(hs2:starEach [b] X.env=[(false,eval b X.env)]:=by rfl) :
  PI X tg (.Call (.Name "range" p) [a,b] [] pos) (Uy ta):=by
 intro aH s σ H R I h;refine Call_ (sg I hg hm boot_range (Ba (bf (ha pos aH s σ H _ I h) λus s1 ⟨vs,H1,I1,r1,q1⟩=>?_) (by rw[hs,hs2]) (by rw[hs2];rfl)));obtain⟨i,j,e,⟨q1,q2,q3,q4⟩,q⟩:=q1;subst e;cases r1 with
 |cons r rr=>
  cases rr with
  |cons r' rr=>
   cases rr;obtain⟨t,rfl⟩:=r;obtain⟨t',rfl⟩:=r';exact call_range_2 (L5 I1 q1 q2 q3 q4 q)
def L7(wi:TI)(g:TG)(tb:TS):TS:=λD σ H=>wi σ H λJ H1=>∃W:Nat→Nat→St→Hp→Prop,(∃m,W 0 m σ H1)∧∀i m σ H,W i m σ H→
 (J.stop i H∧D.nx σ H)∨(J.go i H∧∃N:St→Hp→Prop,(∀σ' H',N σ' H'→∃m',m'<m∧W (i+1) m' σ' H')∧∀x H',J.qO i H x H'→g x σ H' λσ2 H2=>tb { D with nx:=N,ct:=N,bk:=D.nx } σ2 H2)
noncomputable def ym(fp:List Addr)(h:Heap):List (Addr×Obj):=fp.filterMap λb=>(h.get? b).map λo=>(b,o)
theorem Bt(hb:b∈fp)(e:h.get? b=some o):(b,o)∈ym fp h:=List.mem_filterMap.mpr ⟨b,hb,by rw[e];rfl⟩
theorem UA{p:Addr×Obj}(hp:p∈ym fp h):p.1∈fp∧h.get? p.1=some p.2:=by
 obtain⟨b,hb,e⟩:=List.mem_filterMap.mp hp;cases q:h.get? b with
 |none=>rw[q]at e;cases e
 |some o=>
  rw[q]at e;have e':(b,o)=p:=cN e;subst e';exact⟨hb,q⟩
theorem Inv.pinned(I:Inv X aH σ H s)(hf:∀b∈fp,j5 X aH H b)(ho:∀b∈fp,∃o,s.heap.get? b=some o∧∀v,o.data≠.cell v):Inv X (aH++ym fp s.heap) σ H s:=
 I.Bm λp hp=>(dm.mp hp).elim (λz=>I.pin p (iX _ z)) λz=>by
  obtain⟨hb,e⟩:=UA z;obtain⟨f0,f1,f2,_⟩:=hf p.1 hb;obtain⟨o,e',d⟩:=ho p.1 hb;rw[e]at e';cases e';exact⟨e,f0,f1,f2,d⟩
theorem Inv.Fs{pl:List (Addr×Obj)}(I:Inv X (aH++pl) σ H s):Inv X aH σ H s:=I.Bm λp hp=>I.pin p (iX _ (nc _ hp))
theorem mf{iter:Expr}{body:List Stmt}{wi:TI}{pos:Pos}(hp:PassesOwn (model X.prog X.w) X.A X.env X.xe)(hc:X.calm=true)(hi:PI X tg iter wi)(hg:PG X tg g)(hb:jl X body tb)
  (hs:∀x,foldedSetIterable iter X.env x=pure x:=by intro _;rfl):PS X (.For tg iter body [] pos) (L7 wi g tb):=by
 intro aH s σ H D I h;refine wpAny_For (bf (hi aH s σ H _ I h) λv s1 h1=>bf h1 λBq s2 h2=>?_) hs;obtain⟨it,fp,tn,J,H2,e,I2,T,mh,f2,W,⟨m0,w0⟩,qR⟩:=h2;subst e;have Ft:∀{H':Hp},(∀b∈fp,H' b=none)→∀b∈fp,j5 X aH H' b:=λhn b hb=>⟨hn b hb,(f2 b hb).2⟩;refine codeAny_forLoop_any (λn s'=>∃i σ' H',Inv X aH σ' H' s'∧tn i s'.heap∧(∀b∈fp,H' b=none)∧W i n σ' H') ?_ m0 ⟨0,σ,H2,I2,mh,λb hb=>(f2 b hb).1,w0⟩;rintro n s3 ⟨i,σ3,H3,I3,L8,L9,w3⟩;rcases qR i n σ3 H3 w3 with⟨stop,qn⟩|⟨go,N,hN,step⟩
 ·refine au hp (bf (T.done X rfl rfl rfl hc i aH s3 σ3 H3 X.xe I3 (Ft L9) L8 stop) λr s4 ⟨hr,I4⟩=>?_);subst hr;exact aj ⟨σ3,H3,I4,qn⟩
 ·refine au hp (bf (T.item X rfl rfl rfl hc i aH s3 σ3 H3 X.xe I3 (Ft L9) L8 go) λr s4 ⟨u,hr,h4⟩=>?_);subst hr;refine au hp (bf h4 λ_ s5 ⟨x,H5,I5,r5,y5,Fu,Bu⟩=>?_);have UB:=I5.pinned (Ft Bu) (T.obj _ _ Fu);refine au hp (bf (hg _ s5 σ3 H5 x u _ UB r5 (step x H5 y5)) λ_ s6 ⟨σ6,H6,I6,q6⟩=>?_);refine au hp (bf (hb _ s6 σ6 H6 _ I6 q6) λf s7 q7=>?_);have again:∀{σ7:St}{H7:Hp},Inv X (aH++ym fp s5.heap) σ7 H7 s7→N σ7 H7→∃m,m<n∧∃i σ' H',Inv X aH σ' H' s7∧tn i s7.heap∧(∀b∈fp,H' b=none)∧W i m σ' H':=λ{σ7 H7} I7 n7=>by
   obtain⟨m',hm,w7⟩:=hN σ7 H7 n7;refine⟨m',hm,i+1,σ7,H7,I7.Fs,T.keep _ _ _ Fu λb hb o e=>(I7.pin (b,o) (iX _ (iX _ (Bt hb e)))).1,λb hb=>?_,w7⟩;obtain⟨o,e,d⟩:=T.obj _ _ Fu b hb;exact(I7.pin (b,o) (iX _ (iX _ (Bt hb e)))).2.1
  cases f with
  |next=>obtain⟨σ7,H7,I7,n7⟩:=q7;exact again I7 n7
  |cont=>obtain⟨σ7,H7,I7,n7⟩:=q7;exact again I7 n7
  |brk=>obtain⟨σ7,H7,I7,q7⟩:=q7;exact⟨σ7,H7,I7.Fs,q7⟩
  |ret v=>obtain⟨x7,σ7,H7,I7,r7,q7⟩:=q7;exact⟨x7,σ7,H7,I7.Fs,r7,q7⟩
end
theorem Fv{K:Frag}{xs:List V}{D:Ends}(Pv:Nat→St→Hp→Prop)(h0:Pv 0 σ H)(hl:∀i σ H,i≤xs.length→Pv i σ H→dw K H a xs)
  (hs:∀i x σ H,xs[i]?=some x→Pv i σ H→g x σ H λσ2 H2=>tb { D with nx:=Pv (i+1),ct:=Pv (i+1),bk:=D.nx } σ2 H2) (hd:∀σ H,Pv xs.length σ H→D.nx σ H) :
  ∃W:Nat→Nat→St→Hp→Prop,(∃m,W 0 m σ H)∧∀i m σ H,W i m σ H→
   ((qP K a).stop i H∧D.nx σ H)∨((qP K a).go i H∧∃N:St→Hp→Prop,(∀σ' H',N σ' H'→∃m',m'<m∧W (i+1) m' σ' H')∧∀x H',(qP K a).qO i H x H'→g x σ H' λσ2 H2=>tb { D with nx:=N,ct:=N,bk:=D.nx } σ2 H2):=by
 refine⟨λi m σ H=>m=xs.length-i∧i≤xs.length∧Pv i σ H,⟨xs.length,by simp,kj _,h0⟩,?_⟩;rintro i m σ H ⟨rfl,hi,p⟩;have q:=hl i σ H hi p;by_cases cL:i<xs.length
 ·refine .inr ⟨⟨xs,xs[i],q,by simp[cL]⟩,Pv (i+1),λσ' H' p'=>⟨xs.length-(i+1),by lia,rfl,cL,p'⟩,λx H' y=>?_⟩;obtain⟨e,y⟩:=y;subst e;exact hs i x σ _ (y xs q) p
 ·have e:i=xs.length:=by lia
  subst e;exact .inl ⟨⟨xs,q,cf _⟩,hd σ H p⟩
theorem sk{lo:Int}{D:Ends}(Pv:Nat→St→Hp→Prop)(h0:Pv 0 σ H)
  (hs:∀i σ H,i<n→Pv i σ H→g (.int (lo+i)) σ H λσ2 H2=>tb { D with nx:=Pv (i+1),ct:=Pv (i+1),bk:=D.nx } σ2 H2) (hd:∀σ H,Pv n σ H→D.nx σ H) :
  ∃W:Nat→Nat→St→Hp→Prop,(∃m,W 0 m σ H)∧∀i m σ H,W i m σ H→
   ((qQ lo n).stop i H∧D.nx σ H)∨((qQ lo n).go i H∧∃N:St→Hp→Prop,(∀σ' H',N σ' H'→∃m',m'<m∧W (i+1) m' σ' H')∧∀x H',(qQ lo n).qO i H x H'→g x σ H' λσ2 H2=>tb { D with nx:=N,ct:=N,bk:=D.nx } σ2 H2):=by
 refine⟨λi m σ H=>m=n-i∧i≤n∧Pv i σ H,⟨n,by simp,kj _,h0⟩,?_⟩;rintro i m σ H ⟨rfl,hi,p⟩;by_cases cL:i<n
 ·refine .inr ⟨cL,Pv (i+1),λσ' H' p'=>⟨n-(i+1),by lia,rfl,cL,p'⟩,λx H' y=>?_⟩;obtain⟨e,y⟩:=y;subst e y;exact hs i σ _ cL p
 ·have e:i=n:=by lia
  subst e;exact .inl ⟨cf _,hd σ H p⟩
abbrev R2:=V→V→Hp→VK→Prop
def eM(X:Cx)(f:Value→Value→Sem Value)(r:R2):Prop:=
 ∀(aH:List (Addr×Obj))(s:Shared)(σ:St)(H:Hp)(x y:V)(v u:Value)(Q:VK),Inv X aH σ H s→RelV x v→RelV y u→r x y H Q→
  wpAny (model X.prog X.w) X.A (f v u) (EP X aH σ Q) X.xe s
def Fw(X:Cx)(f:Value→Sem Value)(r:V→Hp→VK→Prop):Prop:=
 ∀(aH:List (Addr×Obj))(s:Shared)(σ:St)(H:Hp)(x:V)(v:Value)(Q:VK),Inv X aH σ H s→RelV x v→r x H Q→
  wpAny (model X.prog X.w) X.A (f v) (EP X aH σ Q) X.xe s
def jL(X:Cx)(f:Value)(r:List V→Hp→VK→Prop):Prop:=
 ∀(aH:List (Addr×Obj))(s:Shared)(σ:St)(H:Hp)(xs:List V)(us:List Value)(Q:VK),Inv X aH σ H s→Vals xs us→r xs H Q→
  wpAny (model X.prog X.w) X.A (call f us) (EP X aH σ Q) X.xe s
def UC(X:Cx)(r:V→Hp→(Bool→Hp→Prop)→Prop):Prop:=
 ∀(aH:List (Addr×Obj))(s:Shared)(σ:St)(H:Hp)(x:V)(v:Value)(Q:Bool→Hp→Prop),Inv X aH σ H s→RelV x v→r x H Q→
  wpAny (model X.prog X.w) X.A (truthy v) (TP X aH σ Q) X.xe s
def cA(r:R2)(ta tb:TE):TE:=λσ H Q=>ta σ H λx H1=>tb σ H1 λy H2=>r x y H2 Q
def Fx(r:V→Hp→VK→Prop)(ta:TE):TE:=λσ H Q=>ta σ H λx H1=>r x H1 Q
def rI(C:Int→Int→Prop)(g:Int→Int→V):R2:=λx y H Q=>∃i j,x=.int i∧y=.int j∧C i j∧Q (g i j) H
def j7(g:Int→Int→V):R2:=λx y H Q=>∃i j,x=.int i∧y=.int j∧Q (g i j) H
def rU(g:Int→V):V→Hp→VK→Prop:=λx H Q=>∃i,x=.int i∧Q (g i) H
section
variable{X:Cx}{a b c:Expr}{ta tb tc:TE}{pos:Pos}
theorem Fy(ha:PE X a ta)(hb:PE X b tb){R:V→V→Hp→Prop}(I:Inv X aH σ H s)
  (h:ta σ H λx H1=>tb σ H1 λy H2=>R x y H2) {Q:QV} {f:Value→Value→Sem Value}
  (hf:∀v u s2 x y H2,Inv X aH σ H2 s2→RelV x v→RelV y u→R x y H2→wpAny (model X.prog X.w) X.A (f v u) Q X.xe s2) :
  wpAny (model X.prog X.w) X.A (eval a X.env) (λv s₁=>wpAny (model X.prog X.w) X.A (eval b X.env) (λu s₂=>wpAny (model X.prog X.w) X.A (f v u) Q X.xe s₂) X.xe s₁) X.xe s:=by
 refine bf (ha aH s σ H _ I h) λv s1 ⟨x,H1,I1,r1,q1⟩=>?_;refine bf (hb aH s1 σ H1 _ I1 q1) λu s2 ⟨y,H2,I2,r2,q2⟩=>?_;exact hf v u s2 x y H2 I2 r1 r2 q2
theorem aY{op:Operator}(ho:eM X (binaryOp op) r)(ha:PE X a ta)(hb:PE X b tb):PE X (.BinOp a op b pos) (cA r ta tb):=by
 intro aH s σ H Q I h;exact wpAny_BinOp (Fy ha hb I h λv u s2 x y H2 I2 rx ry q=>ho aH s2 σ H2 x y v u Q I2 rx ry q)
theorem pR{op:UnaryOp}{r:V→Hp→VK→Prop}(ho:Fw X (unaryOp op) r)(ha:PE X a ta):PE X (.UnaryOp op a pos) (Fx r ta):=by
 intro aH s σ H Q I h;exact UnaryOp_ (bf (ha aH s σ H _ I h) λv s1 ⟨x,H1,I1,r1,q1⟩=>ho aH s1 σ H1 x v Q I1 r1 q1)
theorem Fz{C:Int→Int→Prop}{g:Int→Int→Int}
  (rule:∀(i j:Int)(t u:Tok)(s:Shared)(Q:QV)(E:QV),C i j→Q (.int (g i j) s.toks) { s with toks:=s.toks+1 }→wpAny (model X.prog X.w) X.A (f (.int i t) (.int j u)) Q E s) :
  eM X f (rI C λi j=>.int (g i j)):=by
 intro aH s σ H x y v u Q I rx ry h;obtain⟨i,j,rfl,rfl,hc,q⟩:=h;obtain⟨t,rfl⟩:=rx;obtain⟨t',rfl⟩:=ry;exact rule i j t t' s _ _ hc ⟨.int (g i j),H,I.tok _,⟨_,rfl⟩,q⟩
theorem Ma{g:Int→Int→Int}
  (rule:∀(i j:Int)(t u:Tok)(s:Shared)(Q:QV)(E:QV),Q (.int (g i j) s.toks) { s with toks:=s.toks+1 }→wpAny (model X.prog X.w) X.A (f (.int i t) (.int j u)) Q E s) :
  eM X f (j7 λi j=>.int (g i j)):=by
 intro aH s σ H x y v u Q I rx ry h;obtain⟨i,j,rfl,rfl,q⟩:=h;obtain⟨t,rfl⟩:=rx;obtain⟨t',rfl⟩:=ry;exact rule i j t t' s _ _ ⟨.int (g i j),H,I.tok _,⟨_,rfl⟩,q⟩
theorem FD{g:Int→Int→Bool}
  (rule:∀(i j:Int)(t u:Tok)(s:Shared)(Q:QV)(E:QV),Q (.bool (g i j)) s→wpAny (model X.prog X.w) X.A (f (.int i t) (.int j u)) Q E s) :
  eM X f (j7 λi j=>.bl (g i j)):=by
 intro aH s σ H x y v u Q I rx ry h;obtain⟨i,j,rfl,rfl,q⟩:=h;obtain⟨t,rfl⟩:=rx;obtain⟨t',rfl⟩:=ry;exact rule i j t t' s _ _ ⟨.bl (g i j),H,I,rfl,q⟩
def Mb(i j:Int):Prop:=0<j∧j<1073741824
def Bv(i j:Int):Prop:=(-(2^64)<i∧i<2^64)∨(-(2^64)<j∧j<2^64)
theorem Bv.ok{i j:Int}(h:Bv i j):IntMulOk i j:=by
 rcases h with⟨h1,h2⟩|⟨h1,h2⟩
 ·exact .of_left (intBits_le_64 h1 h2)
 ·exact .of_right (intBits_le_64 h1 h2)
theorem dt:eM X (binaryOp .Add) (j7 λi j=>.int (i+j)):=Ma λ_ _ _ _ _ _ _ q=>add_int q
theorem nk:eM X (binaryOp .Sub) (j7 λi j=>.int (i-j)):=Ma λ_ _ _ _ _ _ _ q=>sub_int q
theorem nq:eM X (binaryOp .Mult) (rI Bv λi j=>.int (i*j)):=Fz λ_ _ _ _ _ _ _ hc q=>mul_int q hc.ok
theorem yn:eM X (binaryOp .FloorDiv) (rI Mb λi j=>.int (i/j)):=Fz λi j _ _ _ _ _ hc q=>by
 have h1:(0:Int)<j:=hc.1;have h2:j<1073741824:=hc.2;exact floordiv_int (by lia) (by rw[Int.fdiv_eq_ediv_of_nonneg i (by lia)];exact q) (.inl (PyProof.noPylong_small (by lia)))
theorem gj:eM X (binaryOp .Mod) (rI (λ_ j=>0<j) λi j=>.int (i%j)):=Fz λi j _ _ _ _ _ hc q=>by
 have h1:(0:Int)<j:=hc;exact mod_int' (by lia) (by rw[Int.fmod_eq_emod_of_nonneg i (by lia)];exact q)
theorem UD{f:Value→Sem Value}{g:Int→Int}
  (rule:∀(i:Int)(t:Tok)(s:Shared)(Q:QV)(E:QV),Q (.int (g i) s.toks) { s with toks:=s.toks+1 }→wpAny (model X.prog X.w) X.A (f (.int i t)) Q E s) :
  Fw X f (rU λi=>.int (g i)):=by
 intro aH s σ H x v Q I rx h;obtain⟨i,rfl,q⟩:=h;obtain⟨t,rfl⟩:=rx;exact rule i t s _ _ ⟨.int (g i),H,I.tok _,⟨_,rfl⟩,q⟩
theorem pS:Fw X (unaryOp .USub) (rU λi=>.int (-i)):=UD λ_ _ _ _ _ q=>neg_int q
end
noncomputable def FE:V→V→Bool
 | .cg,.cg=>true | .cg,.int _=>true | .int _,.cg=>true | .cg,.bl _=>true | .bl _,.cg=>true | .cg,.str _=>true | .str _,.cg=>true
 | .int _,.int _=>true | .bl _,.bl _=>true | .str _,.str _=>true | .ni _,.ni _=>true
 | .int _,.str _=>true | .str _,.int _=>true | .bl _,.str _=>true | .str _,.bl _=>true
 |_,_=>false
def qS:R2:=λx y H Q=>FE x y=true∧Q (.bl (decide (x=y))) H
def UE:R2:=λx y H Q=>FE x y=true∧Q (.bl (!decide (x=y))) H
theorem Mc{i j:Int}:decide (V.int i=V.int j)=(i==j):=by
 rw[Bool.eq_iff_iff];simp
theorem Md{i j:Bool}:decide (V.bl i=V.bl j)=(i==j):=by
 rw[Bool.eq_iff_iff];simp
theorem Me{i j:Str}:decide (V.str i=V.str j)=(i==j):=by
 rw[Bool.eq_iff_iff];simp
theorem Mf{i j:Array UInt8}:decide (V.ni i=V.ni j)=(i.toList==j.toList):=by
 rw[Bool.eq_iff_iff];cases i;cases j;simp
section
variable{X:Cx}{a b c:Expr}{ta tb tc:TE}{pos:Pos}
theorem eX{Q:VK}{k k':Bool}(I:Inv X aH σ H s)(q:Q (.bl k) H)(e:k=k'):EP X aH σ Q (.bool k') s:=by
 subst e;exact⟨.bl k,H,I,rfl,q⟩
theorem hI:eM X (compareOp .Eq) qS:=by
 intro aH s σ H x y v u Q I rx ry h;obtain⟨hs,q⟩:=h;cases x with
 |cg=>
  cases rx;cases y with
  |cg=>cases ry;exact PySem.EqNone.eq_none_none (eX I q (by simp))
  |bl j=>cases ry;exact PySem.EqNone.eq_none_bool (eX I q (by simp))
  |int j=>obtain⟨t',rfl⟩:=ry;exact PySem.EqNone.eq_none_int (eX I q (by simp))
  |str j=>obtain⟨t',rfl⟩:=ry;exact PySem.EqNone.eq_none_str (eX I q (by simp))
  |_=>exact absurd (show false=true from hs) gX
 |bl i=>
  cases rx;cases y with
  |cg=>cases ry;exact PySem.EqNone.eq_bool_none (eX I q (by simp))
  |bl j=>cases ry;exact eq_bool (eX I q Md)
  |str j=>obtain⟨t',rfl⟩:=ry;exact PySem.EqMixed.eq_bool_str (eX I q (by simp))
  |_=>exact absurd (show false=true from hs) gX
 |int i=>
  obtain⟨t,rfl⟩:=rx;cases y with
  |cg=>cases ry;exact PySem.EqNone.eq_int_none (eX I q (by simp))
  |int j=>obtain⟨t',rfl⟩:=ry;exact eq_int (eX I q Mc)
  |str j=>obtain⟨t',rfl⟩:=ry;exact PySem.EqMixed.eq_int_str (eX I q (by simp))
  |_=>exact absurd (show false=true from hs) gX
 |str i=>
  obtain⟨t,rfl⟩:=rx;cases y with
  |cg=>cases ry;exact PySem.EqNone.eq_str_none (eX I q (by simp))
  |bl j=>cases ry;exact PySem.EqMixed.eq_str_bool (eX I q (by simp))
  |int j=>obtain⟨t',rfl⟩:=ry;exact PySem.EqMixed.eq_str_int (eX I q (by simp))
  |str j=>obtain⟨t',rfl⟩:=ry;exact eq_str (eX I q Me)
  |_=>exact absurd (show false=true from hs) gX
 |ni i=>
  obtain⟨t,rfl⟩:=rx;cases y with
  |ni j=>obtain⟨t',rfl⟩:=ry;exact PySem.W.eq_bytes (eX I q Mf)
  |_=>exact absurd (show false=true from hs) gX
 |_=>cases y<;>exact absurd (show false=true from hs) gX
theorem yo:eM X (compareOp .NotEq) UE:=by
 intro aH s σ H x y v u Q I rx ry h;obtain⟨hs,q⟩:=h;cases x with
 |cg=>
  cases rx;cases y with
  |cg=>cases ry;exact PySem.EqNone.ne_none_none (eX I q (by simp))
  |bl j=>cases ry;exact PySem.EqNone.ne_none_bool (eX I q (by simp))
  |int j=>obtain⟨t',rfl⟩:=ry;exact PySem.EqNone.ne_none_int (eX I q (by simp))
  |str j=>obtain⟨t',rfl⟩:=ry;exact PySem.EqNone.ne_none_str (eX I q (by simp))
  |_=>exact absurd (show false=true from hs) gX
 |bl i=>
  cases rx;cases y with
  |cg=>cases ry;exact PySem.EqNone.ne_bool_none (eX I q (by simp))
  |bl j=>cases ry;exact ne_bool (eX I q (ai not Md))
  |str j=>obtain⟨t',rfl⟩:=ry;exact PySem.EqMixed.ne_bool_str (eX I q (by simp))
  |_=>exact absurd (show false=true from hs) gX
 |int i=>
  obtain⟨t,rfl⟩:=rx;cases y with
  |cg=>cases ry;exact PySem.EqNone.ne_int_none (eX I q (by simp))
  |int j=>obtain⟨t',rfl⟩:=ry;exact ne_int (eX I q (ai not Mc))
  |str j=>obtain⟨t',rfl⟩:=ry;exact PySem.EqMixed.ne_int_str (eX I q (by simp))
  |_=>exact absurd (show false=true from hs) gX
 |str i=>
  obtain⟨t,rfl⟩:=rx;cases y with
  |cg=>cases ry;exact PySem.EqNone.ne_str_none (eX I q (by simp))
  |bl j=>cases ry;exact PySem.EqMixed.ne_str_bool (eX I q (by simp))
  |int j=>obtain⟨t',rfl⟩:=ry;exact PySem.EqMixed.ne_str_int (eX I q (by simp))
  |str j=>obtain⟨t',rfl⟩:=ry;exact ne_str (eX I q (ai not Me))
  |_=>exact absurd (show false=true from hs) gX
 |ni i=>
  obtain⟨t,rfl⟩:=rx;cases y with
  |ni j=>obtain⟨t',rfl⟩:=ry;exact PySem.W.ne_bytes (eX I q (ai not Mf))
  |_=>exact absurd (show false=true from hs) gX
 |_=>cases y<;>exact absurd (show false=true from hs) gX
theorem pT:eM X (compareOp .Lt) (j7 λi j=>.bl (decide (i<j))):=FD λ_ _ _ _ _ _ _ q=>lt_int q
theorem Mh:eM X (compareOp .LtE) (j7 λi j=>.bl (decide (i≤j))):=FD λ_ _ _ _ _ _ _ q=>le_int q
theorem FF:eM X (compareOp .Gt) (j7 λi j=>.bl (decide (j<i))):=FD λ_ _ _ _ _ _ _ q=>gt_int q
theorem Mi:eM X (compareOp .Is) (λx y H Q=>y=.cg∧Q (.bl (decide (x=.cg))) H):=by
 intro aH s σ H x y v u Q I rx ry h;obtain⟨rfl,q⟩:=h;cases ry;refine is_none_gen (eX I q ?_);cases x<;>first
  |(cases rx;rfl)
  |(obtain⟨t,rfl⟩:=rx;rfl)
theorem UG:eM X (compareOp .IsNot) (λx y H Q=>y=.cg∧Q (.bl (!decide (x=.cg))) H):=by
 intro aH s σ H x y v u Q I rx ry h;obtain⟨rfl,q⟩:=h;cases ry;refine isnot_none_gen (eX I q ?_);cases x<;>first
  |(cases rx;rfl)
  |(obtain⟨t,rfl⟩:=rx;rfl)
theorem de(b:Expr)(h:op≠.In:=by decide)(h2:op≠.NotIn:=by decide):behindInMarks op b=false:=by
 have e1:(op==CmpOp.In)=false:=by cases op<;>first|rfl|exact absurd rfl h
 have e2:(op==CmpOp.NotIn)=false:=by cases op<;>first|rfl|exact absurd rfl h2
 cases b<;>simp[behindInMarks,e1,e2]
theorem FG(ho:eM X (compareOp op) r)(ha:PE X a ta)(hb:PE X b tb)(hm:behindInMarks op b=false):PE X (.Compare a [op] [b] pos) (cA r ta tb):=by
 intro aH s σ H Q I h;exact wpAny_Compare1 (Fy ha hb I h λv u s2 x y H2 I2 rx ry q=>ho aH s2 σ H2 x y v u Q I2 rx ry q) hm
def jm(t:TE):TT:=λσ H Q=>t σ H λx H'=>∃k,x=.bl k∧Q k H'
theorem dg(ho:eM X (compareOp op) r)(ha:PE X a ta)(hb:PE X b tb)(hm:behindInMarks op b=false):PT X (.Compare a [op] [b] pos) (jm (cA r ta tb)):=by
 intro aH s σ H Q I h;refine wpAny_isTrue_Compare1 (bf (ha aH s σ H _ I h) λv s1 ⟨x,H1,I1,r1,q1⟩=>bf (hb aH s1 σ H1 _ I1 q1) λu s2 ⟨y,H2,I2,r2,q2⟩=>
  bf (ho aH s2 σ H2 x y v u _ I2 r1 r2 q2) λc s3 ⟨z,H3,I3,r3,k,e,q3⟩=>?_) hm
 subst e;cases r3;exact ah ⟨H3,I3,q3⟩
def Mj(K:Frag)(x:V)(H:Hp)(k:Bool):Prop:=
 match x with
 | .cg=>k=false
 | .bl b=>k=b
 | .int i=>k=(i != 0)
 | .str y=>y.length≤sizeLine∧k=((y.length:Int) != 0)
 | .ni y=>y.size≤sizeLine∧k=((y.size:Int) != 0)
 | .ref p=>(∃xs,dw K H p xs∧k=!xs.isEmpty)∨(∃xs,bh K H p xs∧k=!xs.isEmpty)∨∃aU,H p=some (.dK aU)∧k=!aU.isEmpty
 |_=>False
theorem UH{κ:Type}{aU:List (κ×V)}{vs:List (κ×Value)}(r:KV aU vs):(!vs.isEmpty)=!aU.isEmpty:=by
 cases r<;>rfl
theorem Mk{xs:List V}{its:List Value}(r:Vals xs its):(!its.toArray.isEmpty)=!xs.isEmpty:=by
 cases r<;>simp
theorem yq:(sizeLine:Nat)<2^63:=by rw[sizeLine_eq];decide
theorem UI:UC X (λx H Q=>∃k,Mj X.K x H k∧Q k H):=by
 intro aH s σ H x v Q I rx h;obtain⟨k,e,q⟩:=h;have hl:=yq;have hs:sizeLine=16777216:=sizeLine_eq;cases x with
 |cg=>
  cases rx;have e':k=false:=e;subst e';exact truthy_none ⟨H,I,q⟩
 |bl b=>
  cases rx;have e':k=b:=e;subst e';exact ah ⟨H,I,q⟩
 |int i=>
  obtain⟨t,rfl⟩:=rx;have e':k=(i != 0):=e;subst e';exact PySem.P.truthy_int ⟨H,I,q⟩
 |str y=>
  obtain⟨t,rfl⟩:=rx;obtain⟨hy,e'⟩:y.length≤sizeLine∧k=((y.length:Int) != 0):=e;subst e';exact PySem.P.truthy_str (by lia) ⟨H,I.tok _,q⟩
 |ni y=>
  obtain⟨t,rfl⟩:=rx;obtain⟨hy,e'⟩:y.size≤sizeLine∧k=((y.size:Int) != 0):=e;subst e';exact PySem.W.truthy_bytes (by lia) ⟨H,I.tok _,q⟩
 |ref p=>
  cases rx;have e':(∃xs,dw X.K H p xs∧k=!xs.isEmpty)∨(∃xs,bh X.K H p xs∧k=!xs.isEmpty)∨∃aU,H p=some (.dK aU)∧k=!aU.isEmpty:=e;rcases e' with⟨xs,hx,e'⟩|⟨xs,hx,e'⟩|⟨aU,hx,e'⟩
  ·subst e';obtain⟨its,r,pl,hz⟩:=I.list hx;have cO:=r.length;exact wpAny_truthy_list pl.isList (by simp only[dE];lia) ⟨H,I.tok _,by rw[Mk r];exact q⟩
  ·subst e';obtain⟨its,r,pl,hz⟩:=I.tuple hx;have cO:=r.length;exact truthy_tuple pl (by simp only[dE];lia) ⟨H,I.tok _,by rw[Mk r];exact q⟩
  ·subst e';obtain⟨hz,hS,vs,r,m⟩:aU.length≤sizeLine∧(p==sysModules)=false∧∃vs,KV aU vs∧s.heap.DictOf (kl X.prog X.w) p vs:=I.bH p _ hx;have cO:aU.length=vs.length:=Paired.length r;exact wpAny_truthy_dict hS m (by lia) ⟨H,I.tok _,by rw[UH r];exact q⟩
 |_=>exact(show False from e).elim
theorem FH(ha:PE X a ta)(he:∀ue,isTrue a X.env ue=(do let v ← ue;standAt a.pos;holding [v] (truthy v))) :
  PT X a (λσ H Q=>ta σ H λx H'=>∃k,Mj X.K x H' k∧Q k H'):=by
 intro aH s σ H Q I h;exact isTrue_plain (bf (ha aH s σ H _ I h) λv s1 ⟨x,H1,I1,r1,q1⟩=>UI aH s1 σ H1 x v Q I1 r1 q1) (he _)
theorem vals1{x:V}(r:Vals [x] us):∃u,us=[u]∧RelV x u:=by
 cases r with
 |cons r1 r2=>cases r2;exact⟨_,rfl,r1⟩
theorem vals2{x y:V}(r:Vals [x,y] us):∃u w',us=[u,w']∧RelV x u∧RelV y w':=by
 cases r with
 |cons r1 r2=>
  cases r2 with
  |cons r3 r4=>cases r4;exact⟨_,_,rfl,r1,r3⟩
theorem UJ(hc:X.calm=true):jL X (.builtin "max") (λxs H Q=>∃i j,xs=[.int i,.int j]∧Q (.int (if j>i then j else i)) H):=by
 intro aH s σ H xs us Q I r h;obtain⟨i,j,rfl,q⟩:=h;obtain⟨u,w',rfl,⟨t,rfl⟩,⟨t',rfl⟩⟩:=vals2 r;refine max_two_ints (I.ok.hd hc) λh' tk k=>⟨_,H,I.kept k,?_,q⟩;by_cases hj:j>i
 ·rw[ae hj,ae hj];exact⟨_,rfl⟩
 ·rw[af hj,af hj];exact⟨_,rfl⟩
theorem UK(hc:X.calm=true):jL X (.builtin "min") (λxs H Q=>∃i j,xs=[.int i,.int j]∧Q (.int (if j<i then j else i)) H):=by
 intro aH s σ H xs us Q I r h;obtain⟨i,j,rfl,q⟩:=h;obtain⟨u,w',rfl,⟨t,rfl⟩,⟨t',rfl⟩⟩:=vals2 r;refine min_two_ints (I.ok.hd hc) λh' tk k=>⟨_,H,I.kept k,?_,q⟩;by_cases hj:j<i
 ·rw[ae hj,ae hj];exact⟨_,rfl⟩
 ·rw[af hj,af hj];exact⟨_,rfl⟩
theorem UL:jL X (.type "int") (λxs H Q=>(∃i,xs=[.int i]∧Q (.int i) H)∨∃k,xs=[.bl k]∧Q (.int (if k then 1 else 0)) H):=by
 intro aH s σ H xs us Q I r h;rcases h with⟨i,rfl,q⟩|⟨k,rfl,q⟩
 ·obtain⟨u,rfl,t,rfl⟩:=vals1 r;exact call_int_int ⟨.int i,H,I,⟨_,rfl⟩,q⟩
 ·obtain⟨u,rfl,r1⟩:=vals1 r;cases r1;exact call_int_bool ⟨.int (if k then 1 else 0),H,I.tok _,⟨_,rfl⟩,q⟩
end
structure FI(h:Heap)(x dx C:Addr)(mA:Str→Option Value):Prop where
 obj:h.get? x=some (PySem.W.instObj C dx)
 ns:h.Ns1 dx mA
 ne:dx≠x
theorem UM{dx:Addr}{mA:Str→Option Value}(n:h.Ns1 dx mA):∃od,h.get? dx=some od∧∀name,PySem.W.lookIn name od=some (mA name):=by
 obtain⟨o,es,ep,ho,hd,hk,_,hm⟩:=n;refine⟨o,ho,λname=>?_⟩;have e:=hm name;unfold nsFind findBy at e;rw[← Array.find?_toList]at e;unfold PySem.W.lookIn;rw[hd];dsimp only;split
 ·rename_i y q
  rw[q]at e;exact ai some e
 ·rename_i q
  rw[q]at e;have a:es.toList.any (·.refKey)=false:=by
   rw[List.any_eq_false];intro y hy;obtain⟨z,t,UN⟩:=hk y (Array.mem_toList_iff.mp hy);simp[DictEntry.refKey,UN]
  have a':¬es.toList.any (·.refKey)=true:=by rw[a];exact gX
  rw[af a'];exact ai some e
theorem FI.look{x dx C:Addr}{mA:Str→Option Value}(I:FI h x dx C mA):∃od,PySem.W.InstAt h x (PySem.W.instObj C dx) C (some od)∧∀name,PySem.W.lookIn name od=some (mA name):=
 let ⟨od,ho,hl⟩:=UM I.ns
 ⟨od,⟨I.obj,rfl,rfl,ho⟩,hl⟩
section
variable{prog:Program}{w:World}{A:Around}{E:QV}{s:Shared}{K:Frag}{x dx C f:Addr}{mA:Str→Option Value}{name:Str}{v:Value}
end
theorem oQ.some_of{o:Option Value}(r:oQ (some v) o):∃u,o=some u∧RelV v u:=by
 cases o with
 |none=>exact(show False from r).elim
 |some u=>exact⟨u,rfl,r⟩
section
variable{P:Program}{w:World}{H H':Hp}{h h':Heap}{a C dx:Addr}{fs Fc:List (Str×V)}
theorem UO(bH:dG P w H h)(e:H a=some (.ins C dx fs)):∃mA,FI h a dx C mA∧(∀f,oQ (fs.lookup f) (mA f))∧PySem.Within mA (fs.map (·.1))∧fs.length≤1000∧H dx=some (.own a):=by
 obtain⟨d,z,ne,ob,mA,n,r,q⟩:=(show eC P w H h a (.ins C dx fs) from bH a _ e)
 exact⟨mA,⟨ob,n,ne⟩,r,q,z,d⟩
end
structure FJ(K:Frag)(C:Addr):Prop where
 pg:PySem.W.plainGet K C Str.empty=true
 hd:PySem.W.hasDictIn K C=true
 po:PySem.W.plainOver K C=true
 sa:PySem.W.findIn K (.ref C) "__setattr__"=some (some (.builtin "object.__setattr__"))
theorem FJ.get{K:Frag}{C:Addr}(c:FJ K C)(f:Str):PySem.W.plainGet K C f=true:=c.pg
section
variable{X:Cx}{aH:List (Addr×Obj)}{σ:St}{H:Hp}{s:Shared}{a C dx:Addr}{fs:List (Str×V)}{f:Str}{v:V}{A:Around}{E:QV}
end
section
variable{X:Cx}{o e value:Expr}{f:Str}{pos oW UP:Pos}{ta tv:TE}
end
section
variable{X:Cx}{aH:List (Addr×Obj)}{σ:St}{H:Hp}{s:Shared}{A:Around}{E:QV}{Q:QV}{c:Value}{b:Bool}
inductive nr(K:Frag)(H:Hp):V→Value→Prop where
 |cg:nr K H .cg (.type "NoneType")
 |bl (x:Bool):nr K H (.bl x) (.type "bool")
 |int (i:Int):nr K H (.int i) (.type "int")
 |str (x:Str):nr K H (.str x) (.type "str")
 |vR (x:UInt64):nr K H (.vR x) (.type "float")
 |lst {a:Addr} {xs:List V} (e:H a=some (.lst xs)):nr K H (.ref a) (.type "list")
 |jK {a:Addr} {o:Obj} {xs:List V} (e:H a=some (.jK o (.lst xs))):nr K H (.ref a) (.type "list")
 |tup {a:Addr} {xs:List V} (e:H a=some (.tup xs)):nr K H (.ref a) (.type "tuple")
 |dK {a:Addr} {aU:List (Key×V)} (e:H a=some (.dK aU)):nr K H (.ref a) (.type "dict")
 |dT {a:Addr} {aU:List (List Key×V)} (e:H a=some (.dT aU)):nr K H (.ref a) (.type "dict")
 |ins {a C dx:Addr} {fs:List (Str×V)} (e:H a=some (.ins C dx fs)) (cl:FJ K C) (ha:PySem.W.findIn K (.ref C) "__class__"=some (some (.builtin "object.__class__")))
   (hn:PySem.W.specialIn K (.builtin "object.__class__") "__get__"=some (some (.builtin "getset_descriptor.__get__"))) (yr:PySem.W.takesIn K (.builtin "object.__class__")=some true)
   (hm:PySem.W.mroIn K C (.type "object")=some true):nr K H (.ref a) (.ref C)
theorem UQ{x:V}{t:Value}(I:Inv X aH σ H s)(rx:RelV x u)(ty:nr X.K H x t)(e:kitOne X.K t c=some b)(h:∀tk,Q (.bool b) { s with toks:=tk }) :
  wpAny (model X.prog X.w) A (call (.builtin "isinstance") [u,c]) Q E s:=by
 cases ty with
 |cg=>cases(show u=Value.none from rx);exact qE PySem.W.kitx_none I.fo True.intro e (λz=>nomatch z) h
 |bl y=>cases(show u=Value.bool y from rx);exact qE PySem.W.kitx_bool I.fo True.intro e (λz=>nomatch z) h
 |int i=>obtain⟨t,q⟩:=(show ∃t,u=Value.int i t from rx);cases q;exact qE PySem.W.kitx_int I.fo True.intro e (λz=>nomatch z) h
 |str y=>obtain⟨t,q⟩:=(show ∃t,u=Value.str y t from rx);cases q;exact qE PySem.W.kitx_str I.fo True.intro e (λz=>nomatch z) h
 |vR y=>obtain⟨t,q⟩:=(show ∃t,u=Value.float y t from rx);cases q;exact qE PySem.W.kitx_float I.fo True.intro e (λz=>nomatch z) h
 | @lst a xs ea=>
  cases(show u=Value.ref a from rx)
  obtain⟨_,_,n,_,h1⟩:=(show eC X.prog X.w H s.heap a (.lst xs) from I.bH a _ ea)
  exact qE PySem.W.kitx_list I.fo ⟨_,h1,rfl⟩ e (λz=>nomatch z) h
 | @jK a ob xs ea=>
  cases(show u=Value.ref a from rx)
  obtain⟨_,_,_,n,_,h1⟩:=(show eC X.prog X.w H s.heap a (.jK ob (.lst xs)) from I.bH a _ ea)
  exact qE PySem.W.kitx_list I.fo ⟨_,h1,rfl⟩ e (λz=>nomatch z) h
 | @tup a xs ea=>
  cases(show u=Value.ref a from rx)
  obtain⟨_,_,_,p⟩:=(show eC X.prog X.w H s.heap a (.tup xs) from I.bH a _ ea)
  obtain⟨o,h1,h2,_⟩:=p;exact qE PySem.W.kitx_tuple I.fo ⟨o,h1,h2⟩ e (λz=>nomatch z) h
 | @dK a aU ea=>
  cases(show u=Value.ref a from rx)
  obtain⟨_,_,vs,_,p⟩:=(show eC X.prog X.w H s.heap a (.dK aU) from I.bH a _ ea)
  obtain⟨o,es,ep,h1,h2,_⟩:=p;exact qE PySem.W.kitx_dict I.fo ⟨o,h1,h2.1⟩ e (λz=>nomatch z) h
 | @dT a aU ea=>
  cases(show u=Value.ref a from rx)
  obtain⟨_,_,xs,_,o,es,ep,h1,h2,_⟩:=(show eC X.prog X.w H s.heap a (.dT aU) from I.bH a _ ea)
  exact qE PySem.W.kitx_dict I.fo ⟨o,h1,h2.1⟩ e (λz=>nomatch z) h
 | @ins a C dx fs ea cl ha hn yr hm=>
  cases(show u=Value.ref a from rx)
  obtain⟨mA,O,_⟩:=UO I.bH ea;obtain⟨od,J,_⟩:=O.look;exact qE (PySem.W.kitx_own (cl.get _) cl.hd ha hn yr hm) I.fo J e (λz=>nomatch z) h
end
structure dP(k:Nat)(A:Around):Prop where
 hd:A.handled=none
 dp:A.depth+3*k+5<recursionLimit
 un:A.units+16*k+200<cLine
theorem dP.mono{j k:Nat}(r:dP k A)(h:j≤k):dP j A:=⟨r.hd,by have:=r.dp;lia,by have:=r.un;lia⟩
theorem dP.deeper{k:Nat}{A:Around}(r:dP (k+1) A)(env:Env):dP k (A.deeper env):=
 ⟨r.hd,by have:=r.dp;show A.depth+1+3*k+5<_;lia,by have:=r.un;show A.units+3+16*k+200<_;lia⟩
theorem dP.depth{k:Nat}{A:Around}(r:dP k A):A.depth<recursionLimit:=by have:=r.dp;lia
theorem dP.units{k:Nat}{A:Around}(r:dP k A):A.units+64<cLine:=by have:=r.un;lia
def bG:TA:=λ_ H Q=>Q [] H
def aZ(ta:TE)(tr:TA):TA:=λσ H Q=>ta σ H λx H1=>tr σ H1 λxs H2=>Q (x::xs) H2
section
variable{X:Cx}{e:Expr}{es:List Expr}{te:TE}{t:TA}{pos:Pos}
theorem aQ:PA X [] bG:=λ_ _ _ _ H Q I h=>Calls.spliced_nil ⟨[],H,I,.nil,h⟩
theorem aJ(ha:PE X e te)(hr:PA X es t)(hs:starEach (e::es) X.env=(false,eval e X.env)::starEach es X.env:=by rfl):PA X (e::es) (aZ te t):=by
 intro pos aH s σ H Q I h;rw[hs];show wpAny _ _ (spliced ((false,eval e X.env)::backTo pos (starEach es X.env))) _ _ s;refine Calls.spliced_cons (bf (ha aH s σ H _ I h) λu s1 ⟨x,H1,I1,r1,q1⟩=>?_);exact bf (hr pos aH s1 σ H1 _ I1 q1) λus s2 ⟨xs,H2,I2,r2,q2⟩=>⟨x::xs,H2,I2,.cons r1 r2,q2⟩
def eS(t:TA):TE:=λσ H Q=>t σ H λxs H1=>xs.length≤sizeLine∧∀p,H1 p=none→Q (.ref p) (upd H1 p (.tup xs))
def jM(t:TA):TE:=λσ H Q=>t σ H λxs H1=>xs.length≤sizeLine∧∀p,H1 p=none→Q (.ref p) (upd H1 p (.lst xs))
theorem cE{x1}(h:PA X es t):PE X (.Tuple es x1 pos) (eS t):=by
 intro aH s σ H Q I hq;refine wpAny_Tuple_spliced (bf (h pos aH s σ H _ I hq) λus s1 ⟨xs,H1,I1,r,z,q⟩=>⟨by rw[← r.length];exact z,?_⟩);have hf:H1 s1.heap.objs.size=none:=I1.bH.fresh (cf _);refine⟨.ref s1.heap.objs.size,upd H1 s1.heap.objs.size (.tup xs),I1.laid (t':=s1.toks) (λb u e=>dX _ e) (cf _) ?_,rfl,q _ hf⟩;exact⟨z,us,r,⟨_,iW _ rfl,rfl,rfl,_,rfl⟩⟩
theorem cZ(h:PA X es t):PE X (.List es pos) (jM t):=by
 intro aH s σ H Q I hq;refine wpAny_List_spliced (bf (h pos aH s σ H _ I hq) λus s1 ⟨xs,H1,I1,r,z,q⟩=>⟨by rw[← r.length];exact z,?_⟩);have hf:H1 s1.heap.objs.size=none:=I1.bH.fresh (cf _);refine⟨.ref s1.heap.objs.size,upd H1 s1.heap.objs.size (.lst xs),I1.laid (t':=s1.toks) (λb u e=>dX _ e) (cf _) ?_,rfl,q _ hf⟩;exact⟨z,us,0,r,iW _ rfl⟩
end
abbrev Sp:=List V→Hp→VK→XK→Prop
abbrev oY:=List Env→Hp→Shared→XK→Value→Shared→Prop
structure vW(P:Program)(w:World)(K:Frag)(mg:Str→Option Value)(base:Heap)(A:Around)(outer:List Env)(s:Shared)(H:Hp):Prop where
 frames:A.frames=some outer
 mod:Mod K mg base
 bs:∀b o,base.get? b=some o→s.heap.get? b=some o∧H b=none
 qJ:base.objs.size≤s.heap.objs.size
 nj:s.heap.FunFrames base outer
 sf:∀b∈fj outer,H b=none
 bH:dG P w H s.heap
 bare:AllBare s.gens
def CE(outer:List Env)(P:Program)(w:World)(H:Hp)(s:Shared)(Q:VK)(u:Value)(s':Shared):Prop:=
 ∃v H',s'.os=s.os∧AllBare s'.gens∧Un (fj outer) [] H H' s.heap s'.heap∧dG P w H' s'.heap∧RelV v u∧Q v H'
def CR(CX:oY)(outer:List Env)(P:Program)(w:World)(H:Hp)(s:Shared)(Q:VK)(E:XK)(r:Result)(s':Shared):Prop:=
 match r with
 | .ok (.ret u)=>CE outer P w H s Q u s'
 | .ok _=>False
 | .error e=>CX outer H s E e s'
structure bz(P:Program)(w:World)(K:Frag)(mg:Str→Option Value)(base:Heap)(CX:oY)(k:Nat)(f:Addr)(fd:FuncData)(ps:List Str)(sp:Sp):Prop where
 len:∀vs H Q E,sp vs H Q E→vs.length=ps.length
 run:∀(A:Around)(outer:List Env)(s:Shared)(H:Hp)(args:Args)(us:List Value)(vs:List V)(Q:VK)(E:XK),dP k A→vW P w K mg base A outer s H→BindsTo s fd args (ps.zip us)→Vals vs us→sp vs H Q E→
  codeAny (model P w) A (.call (.ref f) args) (CR CX outer P w H s Q E) s
theorem bz.mono{P:Program}{w:World}{K:Frag}{mg:Str→Option Value}{base:Heap}{CX:oY}{j k:Nat}{f:Addr}{fd:FuncData}{ps:List Str}{sp:Sp}(F:bz P w K mg base CX j f fd ps sp)(h:j≤k) :
  bz P w K mg base CX k f fd ps sp:=⟨F.len,λA outer s H args us vs Q E hr=>F.run A outer s H args us vs Q E (hr.mono h)⟩
section
variable{X:Cx}{aH:List (Addr×Obj)}{σ:St}{H:Hp}{s s':Shared}
theorem Inv.By(I:Inv X aH σ H s):vW X.prog X.w X.K X.mg X.base X.A X.stack s H:=
 ⟨I.ok.frames,I.ok.mod,I.bs,eJ I.ok.qJ I.sz,I.stack,I.Bk,I.bH,I.bare⟩
theorem Inv.after{Q:VK}(I:Inv X aH σ H s)(h:CE X.stack X.prog X.w H s Q u s'):EP X aH σ Q u s':=by
 obtain⟨v,H',os,bare,un,bH,r,q⟩:=h;obtain⟨hh,g,d,t,UR⟩:=s';obtain rfl:UR=s.os:=os;exact⟨v,H',I.call (h':=hh) (g':=g) (d':=d) (t':=t) (ch:=[]) un bH bare (λb z=>absurd z (by simp)),r,q⟩
end
def iY(sp:Sp)(iZ:List V)(E:XK)(t:TA):TE:=λσ H Q=>t σ H λvs H1=>sp (vs++iZ) H1 Q E
def Binds(K:Frag)(fd:FuncData)(ps:List Str)(ds:List Value):Prop:=
 ∀(s:Shared)(us:List Value),K.In s.heap→(us++ds).length=ps.length→BindsTo s fd ⟨us,[]⟩ (ps.zip (us++ds))
theorem Binds.all{K:Frag}{fd:FuncData}{ps:List Str}(h:∀us:List Value,us.length=ps.length→bindArgs fd ⟨us,[]⟩=pure (ps.zip us)):Binds K fd ps []:=λs us _ hl=>by
 rw[iK]at hl ⊢;exact .of_eq (h us hl)
def Passes(CX:oY)(X:Cx)(E:XK):Prop:=∀(aH:List (Addr×Obj))(σ:St)(H:Hp)(s:Shared)(e:Value)(s':Shared),Inv X aH σ H s→CX X.stack H s E e s'→X.xe e s'
section
variable{X:Cx}{CX:oY}{k:Nat}{f C:Addr}{fd:FuncData}{ps:List Str}{sp:Sp}{iZ:List V}{ds:List Value}{E:XK}{x m:Str}{p pos jN:Pos}{e o:Expr}{es:List Expr}{ta:TE}{t:TA}
theorem US{Q:VK}{vs:List V}(F:bz X.prog X.w X.K X.mg X.base CX k f fd ps sp)(hr:dP k X.A)(hb:Binds X.K fd ps ds)(hd:Vals iZ ds)(hx:Passes CX X E)
  (I:Inv X aH σ H s) (r:Vals vs us) (h:sp (vs++iZ) H Q E):wpAny (model X.prog X.w) X.A (call (.ref f) us) (EP X aH σ Q) X.xe s:=by
 have r2:Vals (vs++iZ) (us++ds):=r.append hd;have hl:(us++ds).length=ps.length:=by rw[← r2.length];exact F.len _ _ _ _ h
 refine wpAny_call (codeAny_mono (F.run X.A X.stack s H ⟨us,[]⟩ (us++ds) (vs++iZ) Q E hr I.By (hb s us I.fo hl) r2 h) λr s' hq=>?_);cases r with
 |error e=>exact hx aH σ H s e s' I hq
 |ok fl=>
  cases fl with
  |ret u=>exact I.after hq
  |next=>exact False.elim hq
  |brk=>exact False.elim hq
  |cont=>exact False.elim hq
theorem cT(F:bz X.prog X.w X.K X.mg X.base CX k f fd ps sp)(hr:dP k X.A)(hg:Gl X x)(hm:X.mg x=some (.ref f))(hk:Kp X.K f)(hb:Binds X.K fd ps ds)(hd:Vals iZ ds)(hx:Passes CX X E)
  (ha:PA X (e::es) t) (qT:(x==("__debug__":Str))=false:=by decide) (he:starEach (e::es) X.env=(false,eval e X.env)::starEach es X.env:=by rfl) (i3:(backTo pos (starEach es X.env)).any (·.1)=false:=by rfl) :
  PE X (.Call (.Name x p) (e::es) [] pos) (iY sp iZ E t):=by
 intro aH s σ H Q I h;refine av (yh I hg hm ?_ qT);refine PySem.W.callWith_K (h₀:=X.base) I.ok.mod.qI hk (bf (ha pos aH s σ H _ I h) λus s1 ⟨vs,H1,I1,r,q⟩=>⟨I1.fo,?_⟩) he i3;exact US F hr hb hd hx I1 r q
end
section
variable{X:Cx}{CX:oY}{k:Nat}{f C:Addr}{fd:FuncData}{ps ks:List Str}{sp:Sp}{E:XK}{x m:Str}{p pos jN acK:Pos}{e o:Expr}{es:List Expr}{kws:List Keyword}{te ta:TE}{t tk:TA}{nm:Option Str}
variable{g:List Value→List Value→List Value}{gV:List V→List V→List V}
end
structure dj(N P:List Str)(sc:Scope):Prop where
 kind:sc.kind=.function
 co:sc.isCoroutine=false
 gen:sc.isGenerator=false
 nd:N.Nodup
 pre:N.take P.length=P
 par:∀x∈P,sc.names.lookup x=some .local∨sc.names.lookup x=some .cell
 UT:∀y∈sc.names,y.2≠.free
theorem dQ{N P:List Str}{sc:Scope}(a:sc.kind=.function)(b:sc.isCoroutine=false)(c:sc.isGenerator=false)(h:N.Nodup∧(∀x∈P,sc.names.lookup x=some .local∨sc.names.lookup x=some .cell)∧∀y∈sc.names,y.2≠.free)(e:N.take P.length=P):dj N P sc:=⟨a,b,c,h.1,e,h.2.1,h.2.2⟩
theorem Ml{kindOf:Str→Option NameKind}{x:Str}:∀{binds:List (Str×Value)}{m:Str→Option Value},(∀v,(x,v) ∉ binds)→bindL kindOf binds m x=m x
 | [],_,_=>rfl
 |(n,v)::r,m,h=>by
  unfold bindL;rw[Ml λw hw=>h w (dU _ hw)];split
  ·have:x≠n:=by rintro rfl;exact h v cP
   simp[this]
  ·rfl
theorem Mm{kindOf:Str→Option NameKind}{x:Str}:∀{binds:List (Str×Value)}{m:Str→Option Value},(∀v,(x,v) ∉ binds)→bindC kindOf binds m x=m x
 | [],_,_=>rfl
 |(n,v)::r,m,h=>by
  unfold bindC;rw[Mm λw hw=>h w (dU _ hw)];split
  ·rfl
  ·have:x≠n:=by rintro rfl;exact h v cP
   simp[this]
theorem Mn{kindOf:Str→Option NameKind}{x:Str}{v:Value}:∀{P:List Str}{vs:List Value}{i:Nat}{m:Str→Option Value},P.Nodup→P[i]?=some x→vs[i]?=some v→kindOf x=some .local→
  bindL kindOf (P.zip vs) m x=some v
 | [],_,_,_,_,h,_,_=>by simp at h
 |_::_,[],_,_,_,_,h,_=>by simp at h
 |p::P,w::vs,0,m,nd,h1,h2,hk=>by
  simp at h1 h2;subst h1;subst h2;show bindL kindOf ((p,w)::P.zip vs) m p=_;unfold bindL;rw[Ml λv hv=>(List.nodup_cons.mp nd).1 (xR hv).1,ae hk];simp
 |p::P,w::vs,i+1,m,nd,h1,h2,hk=>by
  show bindL kindOf ((p,w)::P.zip vs) m x=_;unfold bindL;exact Mn (i:=i) (List.nodup_cons.mp nd).2 (by simpa using h1) (by simpa using h2) hk
theorem Mo{kindOf:Str→Option NameKind}{x:Str}{v:Value}:∀{P:List Str}{vs:List Value}{i:Nat}{m:Str→Option Value},P.Nodup→P[i]?=some x→vs[i]?=some v→kindOf x≠some .local→
  bindC kindOf (P.zip vs) m x=some v
 | [],_,_,_,_,h,_,_=>by simp at h
 |_::_,[],_,_,_,_,h,_=>by simp at h
 |p::P,w::vs,0,m,nd,h1,h2,hk=>by
  simp at h1 h2;subst h1;subst h2;show bindC kindOf ((p,w)::P.zip vs) m p=_;unfold bindC;rw[Mm λv hv=>(List.nodup_cons.mp nd).1 (xR hv).1,af hk];simp
 |p::P,w::vs,i+1,m,nd,h1,h2,hk=>by
  show bindC kindOf ((p,w)::P.zip vs) m x=_;unfold bindC;exact Mo (i:=i) (List.nodup_cons.mp nd).2 (by simpa using h1) (by simpa using h2) hk
noncomputable def start(N:List Str)(vs:List V):St:=vs.map some++List.replicate (N.length-vs.length) none
noncomputable def km(CX:oY)(P:Program)(w:World)(K:Frag)(mg:Str→Option Value)(base:Heap)(N:List Str)(qual:Str)(scope:Scope)(f:Addr)(cd:Value)(A:Around)(outer:List Env)(s:Shared)(H:Hp)(E:XK):Cx where
 prog:=P
 w:=w
 K:=K
 mg:=mg
 base:=base
 A:=A.deeper (envOfC qual scope s.heap.objs.size f cd)
 N:=N
 s₀:=s
 H₀:=H
 env:=envOfC qual scope s.heap.objs.size f cd
 outer:=outer
 stack:=envOfC qual scope s.heap.objs.size f cd::outer
 ex:=[]
 calm:=true
 fn:=λ_=>true
 pn:=[]
 xe:=λe s'=>wpAny (model P w) (A.deeper (envOfC qual scope s.heap.objs.size f cd)) (leaving (envOfC qual scope s.heap.objs.size f cd) e) (λ_ nu=>CX outer H s E e nu) (λe' nu=>CX outer H s E e' nu) s'
theorem Bz{sc:Scope}(h:sc.names.lookup x=some .cell):∃c,(cellsFrom n sc.names []).lookup x=some c:=by
 have q:=E7 sc.names n [] (.inl h);exact Option.isSome_iff_exists.mp q
theorem FK{CX:oY}{P:Program}{w:World}{K:Frag}{mg:Str→Option Value}{base:Heap}{N ps:List Str}{qual:Str}{scope:Scope}{f:Addr}{cd:Value}{outer:List Env}{s1:Shared}{E:XK}{vs:List V}
  (S:dj N ps scope) (hd:A.handled=none) (e0:vW P w K mg base A outer s H) (hl:vs.length=ps.length) (r:Vals vs us)
  (x:InCallC s s.heap.objs.size (bindL (envOfC qual scope s.heap.objs.size f cd).kindOf (ps.zip us) λ_=>none) (cellsFrom (s.heap.objs.size+1) scope.names []) (bindC (envOfC qual scope s.heap.objs.size f cd).kindOf (ps.zip us) λ_=>none) s1) :
  Inv (km CX P w K mg base N qual scope f cd A outer s H E) [] (start N vs) H s1:=by
 have i3:ps.length≤N.length:=by have:=ai List.length S.pre;rw[dv]at this;lia
 obtain⟨h1,tk,rfl,hk⟩:=x.done;have ui:∀b:Addr,b ∉ (km CX P w K mg base N qual scope f cd A outer s H E).ex:=λb z=>absurd (show b∈([]:List Addr) from z) (by simp)
 refine⟨⟨e0.mod,S.kind,rfl,rfl,cf _,λy z c h1 h2=>?_,λy hy=>?_,λy c _ h=>?_,λ_=>hd,Around.frames_deeper e0.frames,.inr ⟨rfl,rfl⟩,λb z=>absurd z (ui b),e0.bs,e0.qJ,λb _ _=>ui b,λb z=>absurd z (ui b),e0.nj,e0.sf⟩,
  rfl,e0.bare,Un.kept hk,⟨_,x.toInCall.ns,λi y v h1 h2 h3=>?_⟩,λy c h=>⟨_,x.cell y c h⟩,e0.bH.fresh (cf _),λy c h=>?_,λp hp=>absurd (show p∈([]:List (Addr×Obj)) from hp) (by simp),e0.bH.kept hk,?_⟩
 ·exact name_of_addr x.apart (nO h1) (nO h2)
 ·have hy:scope.names.lookup y=some .cell∨scope.names.lookup y=some .free:=hy;rcases hy with hy|hy
  ·exact Bz hy
  ·exact absurd rfl (S.UT _ (nO hy))
 ·exact qD (x.above y c (nO h))
 ·have hi:i<vs.length:=by
   unfold start at h2;by_cases hi:i<vs.length
   ·exact hi
   ·rw[iL (by simpa using hi)]at h2;rw[vL]at h2;split at h2<;>cases h2
  have ha:vs[i]?=some v:=by
   unfold start at h2;rw[iA (by simpa using hi),du]at h2;cases e:vs[i]? with
   |none=>rw[e]at h2;cases h2
   |some a=>rw[e]at h2;cases h2;rfl
  obtain⟨u,hu,rv⟩:=r.get ha;have hp:ps[i]?=some y:=by
   rw[← S.pre,List.getElem?_take_of_lt (by lia)];exact h1
  have Mp:ps.Nodup:=by rw[← S.pre];exact S.nd.sublist (List.take_sublist _ _)
  refine⟨u,rv,?_⟩;rcases S.par y (dY hp)with k|k
  ·exact .inl ⟨k,Mn Mp hp hu k⟩
  ·obtain⟨c,e⟩:=Bz (n:=s.heap.objs.size+1) k;refine .inr ⟨.inl k,c,e,?_⟩;have q:=x.cell y c e;rw[Mo Mp hp hu (by show scope.names.lookup y≠_;rw[k];decide)]at q;exact q
 ·exact e0.bH.fresh (qD (x.above y c (nO h)))
 ·unfold start;show _=N.length;rw[cx,bj,gG];lia
theorem FO{CX:oY}{P:Program}{w:World}{K:Frag}{mg:Str→Option Value}{base:Heap}{k:Nat}{f:Addr}{name qual:Str}{params:Arguments}{body:List Stmt}{scope:Scope}{dV kV doc pm bI ct oc:Value}{an od:Option Addr}
  {nv:Array (Option Value)} {N ps:List Str} {sp:Sp} (lk:K.lookup f=some ⟨oc,od,.func (fnOf name qual params body scope dV kV doc pm an bI ct),nv⟩) (gI:codeIn K bI qual=true) (S:dj N ps scope)
  (len:∀vs H Q E,sp vs H Q E→vs.length=ps.length)
  (oZ:∀(A:Around)(outer:List Env)(s:Shared)(H:Hp)(vs:List V)(Q:VK)(E:XK),dP k (A.deeper (envOfC qual scope s.heap.objs.size f bI))→sp vs H Q E→
   ∃t,jl (km CX P w K mg base N qual scope f bI A outer s H E) body t∧t { nx:=λ_ H'=>Q .cg H',rt:=Q } (start N vs) H) :
  bz P w K mg base CX (k+1) f (fnOf name qual params body scope dV kV doc pm an bI ct) ps sp:=by
 refine⟨len,λA outer s H args us vs Q E hr e0 hb r i4=>?_⟩;have hl:=len _ _ _ _ i4;have KX:K.In s.heap:=e0.mod.qI.keeps λb o e=>(e0.bs b o e).1;have uj:s.heap.NoLimit:=e0.mod.nolimit.keeps λb o e=>(e0.bs b o e).1;have yu:∀y∈ps.zip us,scope.names.lookup y.1=some .local∨(scope.names.lookup y.1=some .cell∧((cellsFrom (s.heap.objs.size+1) scope.names []).lookup y.1).isSome=true):=λ⟨n,v⟩ hy=>by
  rcases S.par n (xR hy).1 with q|q
  ·exact .inl q
  ·exact .inr ⟨q,E7 _ _ _ (.inl q)⟩
 refine codeAny_call_function hr.depth (KX _ _ lk) rfl S.co S.gen rfl (PySem.W.codeRec_of KX gI) (hb _ _ _ _ ?_);refine ax S.kind yu λenv he s1 x=>?_;subst he;refine⟨uj.keeps x.toInCall.keep,codeAny_func ?_⟩;obtain⟨t,ht,hq⟩:=oZ A outer s H vs Q E (hr.deeper _) i4;have I:Inv (km CX P w K mg base N qual scope f bI A outer s H E) [] (start N vs) H s1:=FK S hr.hd e0 hl r x;refine ag (ht [] s1 (start N vs) H _ I hq) (λfl s' hs=>?_) λe s' hs=>hs;have fin:∀{σ':St}{H':Hp}{v:V}{u:Value},Inv (km CX P w K mg base N qual scope f bI A outer s H E) [] σ' H' s'→RelV v u→Q v H'→CE outer P w H s Q u s':=
  λ{σ' H' v u} J rv q=>⟨v,H',J.os,J.bare,J.base,J.bH,rv,q⟩
 cases fl with
 |ret u=>
  obtain⟨v,σ',H',J,rv,q⟩:=hs;exact fin J rv q
 |next=>
  obtain⟨σ',H',J,q⟩:=hs;exact fin (v:=V.cg) (u:=Value.none) J rfl q
 |brk=>
  obtain⟨_,_,_,q⟩:=hs;exact False.elim q
 |cont=>
  obtain⟨_,_,_,q⟩:=hs;exact False.elim q
section
variable{X:Cx}{x:Str}{p pos:Pos}{e:Expr}{es:List Expr}{t:TA}{id T:String}{r:List V→Hp→VK→Prop}
def lD(r:List V→Hp→VK→Prop)(t:TA):TE:=λσ H Q=>t σ H λvs H1=>r vs H1 Q
theorem iN(hc:jL X (.builtin id) r)(hg:Gl X x)(hm:X.mg x=none)(hv:bootBuiltins x=some (.builtin id))(ha:PA X (e::es) t)(hn:x ≠ "__name__":=by decide)(qT:(x==("__debug__":Str))=false:=by decide)
  (he:starEach (e::es) X.env=(false,eval e X.env)::starEach es X.env:=by rfl) (i3:(backTo pos (starEach es X.env)).any (·.1)=false:=by rfl):PE X (.Call (.Name x p) (e::es) [] pos) (lD r t):=by
 intro aH s σ H Q I h;refine av (sg I hg hm hv ?_ hn qT);exact PyProof.Rows.callWith_builtin1 (bf (ha pos aH s σ H _ I h) λus s1 ⟨vs,H1,I1,r1,q1⟩=>hc aH s1 σ H1 vs us Q I1 r1 q1) he i3
theorem mi(hc:jL X (.type T) r)(hg:Gl X x)(hm:X.mg x=none)(hv:bootBuiltins x=some (.type T))(ha:PA X (e::es) t)(hn:x ≠ "__name__":=by decide)(qT:(x==("__debug__":Str))=false:=by decide)
  (he:starEach (e::es) X.env=(false,eval e X.env)::starEach es X.env:=by rfl) (i3:(backTo pos (starEach es X.env)).any (·.1)=false:=by rfl):PE X (.Call (.Name x p) (e::es) [] pos) (lD r t):=by
 intro aH s σ H Q I h;refine av (sg I hg hm hv ?_ hn qT);exact Ba (bf (ha pos aH s σ H _ I h) λus s1 ⟨vs,H1,I1,r1,q1⟩=>hc aH s1 σ H1 vs us Q I1 r1 q1) he i3
end
end L2
namespace HT
open PySem PyProof.Rows
section
open PySem.SeqAt
open PySem.AutoSeq1 (wpAny_loadPart')
open PySem.MeetsSeq PySem.MeetsSeq2 PySem.MeetsSeq3
end
section
variable{prog:Program}{w:World}{A:Around}{E:QV}{s:Shared}
theorem UU{t b:Addr}{vs ws:List Value}{Q:QV}(ht:IsTup s.heap t vs.toArray)(hb:IsTup s.heap b ws.toArray)(hv:vs≠[])
  (h1:ws=[]→Q (.ref t) s) (h2:ws≠[]→Q (.ref s.heap.objs.size) { s with heap:=s.heap.push { cls:=.type "tuple",data:=.seq (vs++ws).toArray } })
  (hsz:vs.length+ws.length≤sizeLine):wpAny (model prog w) A (binaryOp .Add (.ref t) (.ref b)) Q E s:=by
 obtain⟨⟨cls,dd,data,sl⟩,ho,hc,n,hd⟩:=id ht;obtain⟨⟨acL,BA,data2,BC⟩,uk,jO,n2,Mq⟩:=id hb;simp only at hc hd jO Mq;subst hc hd jO Mq;have e:vs.toArray++ws.toArray=(vs++ws).toArray:=by simp
 by_cases hw:ws=[]
 ·exact concat_meets ⟨_,ho,rfl⟩ ⟨_,uk,rfl⟩ noFill_tuple_add seq_tuple_add PySem.F.slot_tuple_add PySem.F.entry_tuple_add (PySem.F.args_tuple_add_2 _ _)
   (tuple_addW1 t b vs.toArray ws.toArray n n2 dd BA sl BC (by simpa using hv) (by simp[hw])) ⟨ho,uk,h1 hw⟩
 ·refine concat_meets ⟨_,ho,rfl⟩ ⟨_,uk,rfl⟩ noFill_tuple_add seq_tuple_add PySem.F.slot_tuple_add PySem.F.entry_tuple_add (PySem.F.args_tuple_add_2 _ _)
   (tuple_addW2 t b vs.toArray ws.toArray n n2 dd BA sl BC (by simpa using hv) (by simpa using hw) (by rw[dE,dE];exact hsz)) ⟨ho,uk,?_⟩
  rw[e];exact h2 hw
noncomputable def cW(n d:Nat):Option Int→Nat
 |none=>d
 |some v=>if v<0 then(v+(n:Int)).toNat else min v.toNat n
theorem FP(n d:Nat):cW n d none=d:=rfl
theorem vX(n d k:Nat):cW n d (some (k:Int))=min k n:=by
 show(if(k:Int)<0 then((k:Int)+(n:Int)).toNat else min (k:Int).toNat n)=min k n
 rw[af (by lia),Int.toNat_natCast]
theorem UW(n d:Nat)(hd:d≤n)(o:Option Int):cW n d o≤n:=by
 cases o with
 |none=>exact hd
 |some v=>
  show(if v<0 then(v+(n:Int)).toNat else min v.toNat n)≤n
  by_cases hv:v<0
  ·rw[ae hv];lia
  ·rw[af hv];exact Nat.min_le_right _ _
theorem Mr(v:Int)(n d:Nat):(if v<0 then max (v+(n:Int)) 0 else min v (n:Int))=((cW n d (some v):Nat):Int):=by
 show(if v<0 then max (v+(n:Int)) 0 else min v (n:Int))=(((if v<0 then(v+(n:Int)).toNat else min v.toNat n):Nat):Int)
 by_cases hv:v<0
 ·simp only[ae hv];lia
 ·simp only[af hv];lia
theorem UX(lo hi:Option Int)(n:Nat):Builtin.Slice.sliceAdjust lo hi 1 (n:Int)=(((cW n 0 lo:Nat):Int),((cW n n hi:Nat):Int)):=by
 have h1:¬((1:Int)<0):=by lia
 unfold Builtin.Slice.sliceAdjust;simp only[h1,if_false];refine Prod.ext ?_ ?_
 ·cases lo with
  |none=>rfl
  |some v=>exact Mr v n 0
 ·cases hi with
  |none=>rfl
  |some v=>exact Mr v n n
theorem UY(i j:Nat):Builtin.Slice.slicePlaces (i:Int) (j:Int) 1=j-i:=by
 unfold Builtin.Slice.slicePlaces;have h1:(1:Int)>0:=by lia
 simp only[h1,if_true,Int.ediv_one];split<;>lia
theorem Ms{v:Value}{o:Option Int}{Q:Option Int→Shared→Prop}(p:IsPart v o)(h:Q o s):wpAny (model prog w) A (Builtin.Slice.slicePartIndex v) Q E s:=by
 cases p with
 |none=>exact slicePart_none h
 |int i t=>exact slicePart_int h
theorem Mt{sl:Addr}{vl vu:Value}{lo hi:Option Int}{n:Nat}{Q:Int×Int×Nat→Shared→Prop}(hs:s.heap.IsSliceOf sl vl vu .none)(pl:IsPart vl lo)(pu:IsPart vu hi)
  (h:Q (((cW n 0 lo:Nat):Int),1,cW n n hi-cW n 0 lo) s):wpAny (model prog w) A (Builtin.Slice.sliceApplied (.ref sl) (pure (n:Int))) Q E s:=by
 obtain⟨os,um,BD,uo⟩:=id hs;unfold Builtin.Slice.sliceApplied Builtin.Slice.sliceFields;refine ak (ak (wpAny_field um uo (x:=vl) rfl (ak (wpAny_field um uo (x:=vu) rfl (ak (wpAny_field um uo (x:=.none) rfl (aq ?_)))))));refine ak (slicePart_none ?_);show wpAny _ _ (if((1:Int)==0)=true then _ else _) _ _ s
 rw[af (by decide)];refine ak (Ms pl (ak (Ms pu (ak (aq ?_)))));show wpAny _ _ (match Builtin.Slice.sliceAdjust lo hi 1 (n:Int)with|(lo,hi)=>pure (lo,(1:Int),Builtin.Slice.slicePlaces lo hi 1)) _ _ s
 rw[UX lo hi n];show wpAny _ _ (pure (((cW n 0 lo:Nat):Int),(1:Int),Builtin.Slice.slicePlaces ((cW n 0 lo:Nat):Int) ((cW n n hi:Nat):Int) 1)) _ _ s;rw[UY];exact aq h
theorem UZ(xs:Array Value)(i k:Nat):((List.range k).filterMap λ(m:Nat)=>xs[((i:Int)+(m:Int)*1).toNat]?).toArray=((xs.toList.drop i).take k).toArray:=by
 have e:(λ(m:Nat)=>xs[((i:Int)+(m:Int)*1).toNat]?)=λm=>xs[i+m]?:=by
  funext m
  have:((i:Int)+(m:Int)*1).toNat=i+m:=by lia
  rw[this]
 rw[e]
 have:=pick_run xs i k
 rw[List.filterMap_map]at this;have e2:((λx=>xs[x]?) ∘ λx=>i+x)=λm=>xs[i+m]?:=rfl;rw[e2]at this;rw[this]
theorem U0{t sl:Addr}{items:Array Value}{vl vu:Value}{lo hi:Option Int}{Q:QV}(ht:IsTup s.heap t items)(hs:s.heap.IsSliceOf sl vl vu .none)(pl:IsPart vl lo)(pu:IsPart vu hi)
  (hw:¬(cW items.size 0 lo=0∧cW items.size items.size hi=items.size))
  (h:Q (.ref s.heap.objs.size) { s with heap:=s.heap.push { cls:=.type "tuple",data:=.seq ((items.toList.drop (cW items.size 0 lo)).take (cW items.size items.size hi-cW items.size 0 lo)).toArray } })
  (hsz:items.size≤sizeLine):wpAny (model prog w) A (getItem (.ref t) (.ref sl)) Q E s:=by
 have BE:sizeOk (.seq ((items.toList.drop (cW items.size 0 lo)).take (cW items.size items.size hi-cW items.size 0 lo)).toArray):=by
  show((items.toList.drop (cW items.size 0 lo)).take (cW items.size items.size hi-cW items.size 0 lo)).toArray.size≤sizeLine;rw[dE,dv,fE,Array.length_toList];lia
 have hj:cW items.size items.size hi≤items.size:=UW _ _ (cf _) hi;obtain⟨os,um,BD,uo⟩:=id hs;have FQ:s.TypeIs (.ref sl) "slice":=⟨os,um,BD⟩;unfold getItem
 try with_reducible refine ao ?_
 first|refine ak (aq ?_)|skip
 refine ak (wpAny_sequenceKey ht.typeIs (by decide) ?_);refine ak (ay (name:=Str.ofString "__getitem__") ht.typeIs Bb (az Bb ht.typeIs entry_tuple_getitem ?_ (args_tuple_getitem _ _)));show wpAny _ _ (Builtin.Tuple.tupleItemsOf (.ref t) >>= _) _ _ s;refine ak (tupleItemsOf_ ht ?_);refine ak (wpAny_typeOf FQ ?_);rw[ae (by decide)];refine ak (Mt hs pl pu ?_);have FR:¬((((cW items.size 0 lo:Nat):Int)==0&&(1:Int)==1&&(cW items.size items.size hi-cW items.size 0 lo)==items.size)=true):=by
  intro q;rw[fg,fg]at q;have q1:((cW items.size 0 lo:Nat):Int)=0:=eq_of_beq q.1.1;have q2:cW items.size items.size hi-cW items.size 0 lo=items.size:=eq_of_beq q.2;exact hw ⟨by lia,by lia⟩
 show wpAny _ _ (if(((cW items.size 0 lo:Nat):Int)==0&&(1:Int)==1&&(cW items.size items.size hi-cW items.size 0 lo)==items.size)=true then _ else _) _ _ s
 rw[af FR,UZ];first
  |exact ak (m:=Builtin.Tuple.tupleExact _) (aA (aq ⟨_,rfl,aq h⟩) BE)
  |exact ak (m:=Builtin.Tuple.tupleExact _) (aA (ak (aq (aq ⟨_,rfl,aq h⟩))) BE)
  |exact ak (ak (m:=Builtin.Tuple.tupleExact _) (aA (aq (aq ⟨_,rfl,aq h⟩)) BE))
  |exact ak (ak (m:=Builtin.Tuple.tupleExact _) (aA (aq ⟨_,rfl,aq h⟩) BE))
end
end HT
namespace L2
open PySem PySem.Spec PyProof.Rows
variable{its:List Value}{n:Nat}{s:Shared}{x:V}{α:Type}
abbrev TO:=St→Hp→(Option Int→Hp→Prop)→Prop
def PO(X:Cx)(e:Option Expr)(t:TO):Prop:=
 ∀(aH:List (Addr×Obj))(s:Shared)(σ:St)(H:Hp)(Q:Option Int→Hp→Prop),Inv X aH σ H s→t σ H Q→
  wpAny (model X.prog X.w) X.A (evalPart e X.env) (λu s'=>∃o H',Inv X aH σ H' s'∧IsPart u o∧Q o H') X.xe s
def i5:TO:=λ_ H Q=>Q none H
def fG(t:TE):TO:=λσ H Q=>t σ H λx H1=>∃i,x=.int i∧Q (some i) H1
section
variable{X:Cx}{e:Expr}{te:TE}{lo hi:Option Expr}{tl th:TO}{pos p2:Pos}
theorem iO:PO X none i5:=by
 intro aH s σ H Q I h;rw[evalPart_none];exact aq ⟨none,H,I,.none,h⟩
theorem fb(h:PE X e te):PO X (some e) (fG te):=by
 intro aH s σ H Q I hw;rw[evalPart_some];refine bf (h aH s σ H _ I hw) λu s1 ⟨x,H1,I1,r1,q1⟩=>?_;obtain⟨i,rfl,q⟩:=q1;obtain⟨t,rfl⟩:=r1;exact⟨some i,H1,I1,.int i t,q⟩
def yv(X:Cx)(r:V→Option Int→Option Int→Hp→VK→Prop):Prop:=
 ∀(aH:List (Addr×Obj))(s:Shared)(σ:St)(H:Hp)(x:V)(v vl vu:Value)(lo hi:Option Int)(sl:Addr)(Q:VK),Inv X aH σ H s→RelV x v→s.heap.IsSliceOf sl vl vu .none→IsPart vl lo→IsPart vu hi→r x lo hi H Q→
  ∃T id,typeLookup (.type T) "__getitem__"=pure (some (.builtin id))∧s.TypeIs v T∧wpAny (model X.prog X.w) X.A (getItem v (.ref sl)) (EP X aH σ Q) X.xe s
def gP(r:V→Option Int→Option Int→Hp→VK→Prop)(te:TE)(tl th:TO):TE:=λσ H Q=>te σ H λx H1=>tl σ H1 λl H2=>th σ H2 λu H3=>r x l u H3 Q
theorem gk{r:V→Option Int→Option Int→Hp→VK→Prop}(hr:yv X r)(he:PE X e te)(hl:PO X lo tl)(hu:PO X hi th):PE X (.Subscript e (.Slice lo hi none p2) pos) (gP r te tl th):=by
 intro aH s σ H Q I h;refine Subscript_ (bf (he aH s σ H _ I h) λv s1 ⟨x,H1,I1,r1,q1⟩=>?_);refine wpAny_Slice (bf (hl aH s1 σ H1 _ I1 q1) λvl s2 ⟨l,H2,I2,pl,q2⟩=>bf (hu aH s2 σ H2 _ I2 q2) λvu s3 ⟨u,H3,I3,pu,q3⟩=>?_);rw[evalPart_none];refine aq ?_;have I4:Inv X aH σ H3 { s3 with heap:=s3.heap.push { cls:=.type "slice",data:=.fields #[vl,vu,.none] } }:=I3.kept (t':=s3.toks) λb ob q=>dX _ q;obtain⟨T,id,hT,ht,hg⟩:=hr aH { s3 with heap:=s3.heap.push { cls:=.type "slice",data:=.fields #[vl,vu,.none] } } σ H3 x v vl vu l u s3.heap.objs.size Q I4 r1 (Heap.IsSliceOf.new ..) pl pu q3;show wpAny (model X.prog X.w) X.A (subscriptTail e (.Slice lo hi none p2) v (.ref s3.heap.objs.size)) (EP X aH σ Q) X.xe { s3 with heap:=s3.heap.push { cls:=.type "slice",data:=.fields #[vl,vu,.none] } };exact tail_any (ops:=[.ref s3.heap.objs.size,v]) ht hT hg (by with_unfolding_all rfl)
noncomputable def lE(xs:List V)(lo hi:Option Int):List V:=(xs.drop (HT.cW xs.length 0 lo)).take (HT.cW xs.length xs.length hi-HT.cW xs.length 0 lo)
theorem U1(xs:List V)(lo hi:Option Int):(lE xs lo hi).length≤xs.length:=by
 unfold lE;rw[dv,fE];lia
def BF(K:Frag):V→Option Int→Option Int→Hp→VK→Prop:=λx lo hi H Q=>∃a xs,x=.ref a∧bh K H a xs∧
 ¬(HT.cW xs.length 0 lo=0∧HT.cW xs.length xs.length hi=xs.length)∧∀p,H p=none→Q (.ref p) (upd H p (.tup (lE xs lo hi)))
theorem Mu:yv X (BF X.K):=by
 intro aH s σ H x v vl vu lo hi sl Q I rx hs pl pu h;obtain⟨a,xs,rfl,hx,hw,q⟩:=h;cases rx;obtain⟨its,r,ht,hz⟩:=I.tuple hx;have cO:its.toArray.size=xs.length:=by rw[dE];exact r.length.symm
 refine⟨"tuple",_,Bb.lookup,ht.typeIs,?_⟩;refine HT.U0 ht hs pl pu (by rw[cO];exact hw) ?_ (by rw[cO];exact hz);rw[cO];refine⟨.ref s.heap.objs.size,_,I.laid (t':=s.toks) (o:=.tup (lE xs lo hi)) (λb ob q=>dX _ q) (cf _) ?_,rfl,q _ (I.bH.fresh (cf _))⟩;exact⟨eJ (U1 xs lo hi) hz,_,(r.drop (HT.cW xs.length 0 lo)).take (HT.cW xs.length xs.length hi-HT.cW xs.length 0 lo),pN.new _ _⟩
def U2(K:Frag):R2:=λx y H Q=>∃a b xs ys,x=.ref a∧y=.ref b∧bh K H a xs∧bh K H b ys∧xs≠[]∧xs.length+ys.length≤sizeLine∧
 (ys=[]→Q (.ref a) H)∧(ys≠[]→∀p,H p=none→Q (.ref p) (upd H p (.tup (xs++ys))))
theorem Vals.BG{xs:List V}{us:List Value}(r:Vals xs us):us=[]↔xs=[]:=by
 cases r with
 |nil=>simp
 |cons _ _=>simp
theorem Mv:eM X (binaryOp .Add) (U2 X.K):=by
 intro aH s σ H x y v u Q I rx ry h;obtain⟨a,b,xs,ys,rfl,rfl,ha,hb,hx,hz,q1,q2⟩:=h;cases rx;cases ry;obtain⟨its,r1,p1,_⟩:=I.tuple ha;obtain⟨nV,r2,p2,_⟩:=I.tuple hb;refine HT.UU p1 p2 (λz=>hx (r1.BG.mp z)) (λz=>⟨.ref a,H,I,rfl,q1 (r2.BG.mp z)⟩) (λz=>?_) (by rw[← r1.length,← r2.length];exact hz);refine⟨.ref s.heap.objs.size,_,I.laid (t':=s.toks) (o:=.tup (xs++ys)) (λb ob q=>dX _ q) (cf _) ?_,rfl,q2 (λw=>z (r2.BG.mpr w)) _ (I.bH.fresh (cf _))⟩;exact⟨by rw[cx];exact hz,_,r1.append r2,pN.new _ _⟩
end
noncomputable def qU(n:Nat)(i:Int):Option Nat:=if 0≤i then(if i<n then some i.toNat else none)else if -(n:Int)≤i then some (i+n).toNat else none
noncomputable def vY(xs:List α)(i:Int):Option α:=(qU xs.length i).bind λj=>xs[j]?
theorem Mw{i:Int}{j:Nat}(h:qU n i=some j):seqIndex? i n=some j∧j<n∧-(n:Int)≤i∧i<n:=by
 unfold qU at h;by_cases h0:0≤i
 ·rw[ae h0]at h;by_cases h1:i<n
  ·rw[ae h1]at h;have e:i.toNat=j:=cN h;exact⟨by rw[seqIndex_of h0 h1,e],by lia,by lia,h1⟩
  ·rw[af h1]at h;cases h
 ·rw[af h0]at h;by_cases h1:-(n:Int)≤i
  ·rw[ae h1]at h;have e:(i+n).toNat=j:=cN h;exact⟨by rw[seqIndex_neg (by lia) h1,e],by lia,h1,by lia⟩
  ·rw[af h1]at h;cases h
theorem Mx{xs:List α}{i:Int}{v:α}(h:vY xs i=some v):∃j,seqIndex? i xs.length=some j∧xs[j]?=some v∧j<xs.length∧-(xs.length:Int)≤i∧i<xs.length:=by
 unfold vY at h;cases e:qU xs.length i with
 |none=>rw[e]at h;cases h
 |some j=>
  rw[e]at h;obtain⟨h1,h2,h3,h4⟩:=Mw e;exact⟨j,h1,h,h2,h3,h4⟩
theorem bE{xs:List α}{j:Nat}{v:α}(h:xs[j]?=some v):vY xs (j:Int)=some v:=by
 have hj:j<xs.length:=(dO.mp h).1;have e:qU xs.length (j:Int)=some j:=by
  unfold qU;rw[ae (by lia),ae (by lia)];simp
 unfold vY;rw[e];exact h
def U3(b:Expr):Prop:=∀o i,subscripted b false o i=operate [o,i] (getItem o i)
def yw(X:Cx)(r:R2):Prop:=
 ∀(value slice:Expr)(aH:List (Addr×Obj))(s:Shared)(σ:St)(H:Hp)(x y:V)(v u:Value)(Q:VK),Inv X aH σ H s→RelV x v→RelV y u→r x y H Q→
  subscripted slice false v u=operate [v,u] (getItem v u)→wpAny (model X.prog X.w) X.A (subscriptTail value slice v u) (EP X aH σ Q) X.xe s
def BH(X:Cx)(id:String)(r:V→List V→Hp→VK→Prop):Prop:=
 ∀(aH:List (Addr×Obj))(s:Shared)(σ:St)(H:Hp)(x:V)(xs:List V)(v:Value)(us:List Value)(Q:VK),Inv X aH σ H s→RelV x v→Vals xs us→r x xs H Q→
  wpAny (model X.prog X.w) X.A (call (.builtin id) (v::us)) (EP X aH σ Q) X.xe s
section
variable{X:Cx}{a b:Expr}{ta tb:TE}{pos:Pos}
theorem bc{r:R2}(hr:yw X r)(ha:PE X a ta)(hb:PE X b tb)(hs:U3 b):PE X (.Subscript a b pos) (cA r ta tb):=by
 intro aH s σ H Q I h;exact Subscript_ (Fy ha hb I h λv u s2 x y H2 I2 rx ry q=>hr a b aH s2 σ H2 x y v u Q I2 rx ry q (hs _ _))
def pU(K:Frag):R2:=λx y H Q=>∃p xs i v,x=.ref p∧y=.int i∧dw K H p xs∧vY xs i=some v∧Q v H
def pV(K:Frag):R2:=λx y H Q=>∃p xs i v,x=.ref p∧y=.int i∧bh K H p xs∧vY xs i=some v∧Q v H
theorem U4:yw X (pU X.K):=by
 intro value slice aH s σ H x y v u Q I rx ry h hs;obtain⟨p,xs,i,z,rfl,rfl,hq,he,q⟩:=h;cases rx;obtain⟨t,rfl⟩:=ry;obtain⟨its,r,pl,hz⟩:=I.list hq;obtain⟨j,h1,h2,h3,h4,h5⟩:=Mx he;obtain⟨w,ew,o5⟩:=r.get h2;have hl:=r.length;have hn:=yq;have fin:EP X aH σ Q w s:=⟨z,H,I,o5,q⟩;by_cases h0:0≤i
 ·have hj:i.toNat=j:=by
   rw[seqIndex_of h0 h5]at h1;exact cN h1
  exact item_listR pl.isList h0 (by lia) (by rw[hj];simpa using ew) fin hs
 ·have hj:(i+(its.toArray.size:Int)).toNat=j:=by
   rw[seqIndex_neg (by lia) h4]at h1;rw[dE,← hl];exact cN h1
  exact subscriptTail_builtinR (x:=w) pl.isList.typeIs slot_list_getitem.lookup
   (wpAny_getItem_list_neg (Q:=λr s'=>r=w∧EP X aH σ Q r s') pl.isList (by lia) (by rw[dE]<;>lia) (by lia) (by rw[hj];simpa using ew) ⟨rfl,fin⟩) hs
theorem U5:yw X (pV X.K):=by
 intro value slice aH s σ H x y v u Q I rx ry h hs;obtain⟨p,xs,i,z,rfl,rfl,hq,he,q⟩:=h;cases rx;obtain⟨t,rfl⟩:=ry;obtain⟨its,r,pl,hz⟩:=I.tuple hq;obtain⟨j,h1,h2,h3,h4,h5⟩:=Mx he;obtain⟨w,ew,o5⟩:=r.get h2;have hl:=r.length;have hn:=yq;have fin:EP X aH σ Q w s:=⟨z,H,I,o5,q⟩;exact subscriptTail_builtinR (x:=w) pl.typeIs slot_tuple_getitem.lookup
  (getItem_tuple (j:=j) (Q:=λr s'=>r=w∧EP X aH σ Q r s') pl (by lia) (by lia) (by rw[dE,← hl];exact h1) (by simpa using ew) ⟨rfl,fin⟩) hs
theorem U6(its:List Value)(n j:Nat)(u:Value):Obj.mapSeq (·.setIfInBounds j u) { cls:=.type "list",data:=.seq its.toArray n }={ cls:=.type "list",data:=.seq (its.set j u).toArray n }:=by
 simp[Obj.mapSeq]
theorem Inv.lst{aH:List (Addr×Obj)}{σ:St}{H:Hp}{s:Shared}{p:Addr}{xs:List V}(I:Inv X aH σ H s)(h:H p=some (.lst xs)) :
  ∃(its:List Value)(n:Nat),Vals xs its∧s.heap.get? p=some { cls:=.type "list",data:=.seq its.toArray n }∧xs.length≤sizeLine:=by
 obtain⟨z,its,n,r,e⟩:=I.bH p _ h;exact⟨its,n,r,e,z⟩
theorem Inv.U7{aH:List (Addr×Obj)}{σ:St}{H:Hp}{p:Addr}{xs ys:List V}{its':List Value}{n':Nat}{f:Obj→Obj}(I:Inv X aH σ H s)(h:H p=some (.lst xs))
  (ho:s.heap.get? p=some { cls:=.type "list",data:=.seq its.toArray n }) (hf:f { cls:=.type "list",data:=.seq its.toArray n }={ cls:=.type "list",data:=.seq its'.toArray n' }) (r:Vals ys its') (hz:ys.length≤sizeLine) (t:Nat) :
  Inv X aH σ (upd H p (.lst ys)) { s with heap:=s.heap.update p f,toks:=t }:=by
 have e:(s.heap.update p f).get? p=some { cls:=.type "list",data:=.seq its'.toArray n' }:=by
  rw[vM f ho (by rw[hf]<;>rfl),hf]
 refine I.write (x:=p) (e:=p) (by rw[h];trivial) (.inl rfl) (λb u hb q=>(Heap.get?_update_other _ _ (Ne.symm hb)).trans q) ⟨_,e⟩ ?_;exact⟨hz,its',n',r,e⟩
def My:V→V→V→Hp→(Hp→Prop)→Prop:=λo i v H Q=>∃p xs k j,o=.ref p∧i=.int k∧H p=some (.lst xs)∧qU xs.length k=some j∧Q (upd H p (.lst (xs.set j v)))
theorem FU:L0 X My:=by
 intro aH s σ H o i v ov iv u Q I ro ri rv h;obtain⟨p,xs,k,j,rfl,rfl,hp,hj,q⟩:=h;cases ro;obtain⟨t,rfl⟩:=ri;obtain⟨its,n,r,ho,hz⟩:=I.lst hp;obtain⟨h1,h2,h3,h4⟩:=Mw hj;have hl:=r.length;have hn:=yq;have I':Inv X aH σ (upd H p (.lst (xs.set j v))) { s with heap:=s.heap.update p (Obj.mapSeq (·.setIfInBounds j u)) }:=
  I.U7 hp ho (U6 its n j u) (r.set rv j) (by rw[List.length_set];exact hz) s.toks
 by_cases h0:0≤k
 ·have hk:k.toNat=j:=by
   rw[seqIndex_of h0 h4]at h1;exact cN h1
  exact PySem.W.ki_setAt ho h0 (by lia) (by rw[dE,← hl];exact h4) (by rw[hk];exact⟨_,I',q⟩)
 ·have hk:(k+(its.toArray.size:Int)).toNat=j:=by
   rw[seqIndex_neg (by lia) h3]at h1;rw[dE,← hl];exact cN h1
  exact PySem.W.ki_setBack ho (by lia) (by rw[dE,← hl];exact h3) (by lia) (by rw[hk];exact⟨_,I',q⟩)
noncomputable def o6:V→Bool
 | .cg=>true
 | .bl _=>true
 | .int _=>true
 | .str _=>true
 |_=>false
noncomputable def fq:V→V→Bool
 | .cg,.cg=>true
 | .bl a,.bl b=>a==b
 | .bl a,.int b=>(if a then 1 else 0)==b
 | .int a,.bl b=>a==(if b then 1 else 0)
 | .int a,.int b=>a==b
 | .str a,.str b=>a==b
 |_,_=>false
theorem U8{A:Around}{y:V}{u v:Value}(ry:RelV y u)(rx:RelV x v)(fy:o6 y=true)(fx:o6 x=true):SeqAt.EqAt A s u v (fq y x):=by
 cases y with
 |cg=>
  cases ry;cases x with
  |cg=>cases rx;exact SeqAt.EqAt.same _
  |bl b=>cases rx;exact SeqAt.EqAt.none_bool b
  |int b=>obtain⟨t,rfl⟩:=rx;exact SeqAt.EqAt.none_int b t
  |str b=>obtain⟨t,rfl⟩:=rx;exact SeqAt.EqAt.none_str b t
  |_=>exact absurd (show false=true from fx) gX
 |bl a=>
  cases ry;cases x with
  |cg=>cases rx;exact SeqAt.EqAt.bool_none a
  |bl b=>cases rx;exact SeqAt.EqAt.bool_bool a b
  |int b=>obtain⟨t,rfl⟩:=rx;exact SeqAt.EqAt.bool_int a b t
  |str b=>obtain⟨t,rfl⟩:=rx;exact SeqAt.EqAt.bool_str a b t
  |_=>exact absurd (show false=true from fx) gX
 |int a=>
  obtain⟨t',rfl⟩:=ry;cases x with
  |cg=>cases rx;exact SeqAt.EqAt.int_none a t'
  |bl b=>cases rx;exact SeqAt.EqAt.int_bool a t' b
  |int b=>obtain⟨t,rfl⟩:=rx;exact SeqAt.EqAt.int_int a t' b t
  |str b=>obtain⟨t,rfl⟩:=rx;exact SeqAt.EqAt.int_str a t' b t
  |_=>exact absurd (show false=true from fx) gX
 |str a=>
  obtain⟨t',rfl⟩:=ry;cases x with
  |cg=>cases rx;exact SeqAt.EqAt.str_none a t'
  |bl b=>cases rx;exact SeqAt.EqAt.str_bool a t' b
  |int b=>obtain⟨t,rfl⟩:=rx;exact SeqAt.EqAt.str_int a t' b t
  |str b=>obtain⟨t,rfl⟩:=rx;exact SeqAt.EqAt.str_str a t' b t
  |_=>exact absurd (show false=true from fx) gX
 |_=>exact absurd (show false=true from fy) gX
noncomputable def lF(x:V)(u:Value):Bool:=match u with
 | .none=>fq .cg x
 | .bool b=>fq (.bl b) x
 | .int i _=>fq (.int i) x
 | .str z _=>fq (.str z) x
 |_=>false
theorem Mz{y:V}{u:Value}(r:RelV y u)(f:o6 y=true):lF x u=fq y x:=by
 cases y with
 |cg=>cases r;rfl
 |bl b=>cases r;rfl
 |int i=>obtain⟨t,rfl⟩:=r;rfl
 |str z=>obtain⟨t,rfl⟩:=r;rfl
 |_=>exact absurd (show false=true from f) gX
theorem yy{x:V}:∀{xs:List V}{us:List Value},Vals xs us→xs.all o6=true→us.any (lF x)=xs.any λy=>fq y x
 |_,_,.nil,_=>rfl
 |y::xs,u::us,.cons r t,f=>by
  rw[List.all_cons,fg]at f;rw[List.any_cons,List.any_cons,Mz r f.1,yy t f.2]
theorem yz{A:Around}{s:Shared}{x:V}{v:Value}(rx:RelV x v)(fx:o6 x=true):∀{xs:List V}{us:List Value},Vals xs us→xs.all o6=true→∀u∈us,SeqAt.EqAt A s u v (lF x u)
 |_,_,.nil,_=>λu hu=>by cases hu
 |y::xs,u::us,.cons r t,f=>λu' hu=>by
  rw[List.all_cons,fg]at f;rcases cS.mp hu with rfl|hu
  ·rw[Mz r f.1];exact U8 r rx f.1 fx
  ·exact yz rx fx t f.2 u' hu
noncomputable def vZ(x:V)(xs:List V):Bool:=xs.any λy=>fq y x
def BJ(K:Frag)(neg:Bool):R2:=λx y H Q=>∃p xs,y=.ref p∧(dw K H p xs∨bh K H p xs)∧o6 x=true∧xs.all o6=true∧Q (.bl (if neg then !vZ x xs else vZ x xs)) H
theorem U9:eM X (compareOp .In) (BJ X.K false):=by
 intro aH s σ H x y v u Q I rx ry h;obtain⟨p,xs,rfl,hq,fx,fs,q⟩:=h;cases ry;rcases hq with hq|hq
 ·obtain⟨its,r,pl,hz⟩:=I.list hq;refine SeqAt.in_listAt (lF x) pl.isList (λw hw=>yz rx fx r fs w (by simpa using hw)) ⟨.bl _,H,I,rfl,?_⟩;rw[show its.toArray.any (lF x)=its.any (lF x) by simp,yy r fs];exact q
 ·obtain⟨its,r,pl,hz⟩:=I.tuple hq;refine SeqAt.in_tupleAt (lF x) pl (λw hw=>yz rx fx r fs w (by simpa using hw)) ⟨.bl _,H,I,rfl,?_⟩;rw[show its.toArray.any (lF x)=its.any (lF x) by simp,yy r fs];exact q
theorem Va:eM X (compareOp .NotIn) (BJ X.K true):=by
 intro aH s σ H x y v u Q I rx ry h;obtain⟨p,xs,rfl,hq,fx,fs,q⟩:=h;cases ry;rcases hq with hq|hq
 ·obtain⟨its,r,pl,hz⟩:=I.list hq;refine SeqAt.notIn_listAt (lF x) pl.isList (λw hw=>yz rx fx r fs w (by simpa using hw)) ⟨.bl _,H,I,rfl,?_⟩;rw[show its.toArray.any (lF x)=its.any (lF x) by simp,yy r fs];exact q
 ·obtain⟨its,r,pl,hz⟩:=I.tuple hq;refine SeqAt.notIn_tupleAt (lF x) pl (λw hw=>yz rx fx r fs w (by simpa using hw)) ⟨.bl _,H,I,rfl,?_⟩;rw[show its.toArray.any (lF x)=its.any (lF x) by simp,yy r fs];exact q
theorem Vb:jL X (.builtin "len") (λxs H Q=>∃p ys,xs=[.ref p]∧(dw X.K H p ys∨bh X.K H p ys)∧Q (.int ys.length) H):=by
 intro aH s σ H xs us Q I r h;obtain⟨p,ys,rfl,hq,q⟩:=h;obtain⟨u,rfl,rx⟩:=vals1 r;cases rx;have hn:=yq;rcases hq with hq|hq
 ·obtain⟨its,r',pl,hz⟩:=I.list hq;have cO:=r'.length;exact Calls.call_len_list pl.isList (by simp only[dE]<;>lia) ⟨.int ys.length,H,I.tok _,⟨s.toks+1,by rw[dE,cO]⟩,q⟩
 ·obtain⟨its,r',pl,hz⟩:=I.tuple hq;have cO:=r'.length;exact len_tuple pl (by simp only[dE]<;>lia) ⟨.int ys.length,H,I.tok _,⟨s.toks+1,by rw[dE,cO]⟩,q⟩
theorem Vc:jL X (.type "list") (λxs H Q=>∃p ys,xs=[.ref p]∧(dw X.K H p ys∨bh X.K H p ys)∧∀l,H l=none→Q (.ref l) (upd H l (.lst ys))):=by
 intro aH s σ H xs us Q I r h;obtain⟨p,ys,rfl,hq,q⟩:=h;obtain⟨u,rfl,rx⟩:=vals1 r;cases rx;have fin:∀(its:List Value),Vals ys its→ys.length≤sizeLine→∀(h':Heap)(c':Nat),(∀b o',s.heap.get? b=some o'→h'.get? b=some o')→
   h'.get? s.heap.objs.size=some { cls:=.type "list",dict:=none,data:=.seq its.toArray c',slots:=#[] }→EP X aH σ Q (.ref s.heap.objs.size) { s with heap:=h' }:=λits r' hz h' c' kp e=>
  ⟨.ref s.heap.objs.size,_,I.laid (t':=s.toks) kp (cf _) (show eC X.prog X.w _ h' _ (.lst ys) from⟨hz,its,c',r',e⟩),rfl,q _ (I.bH.fresh (cf _))⟩
 rcases hq with hq|hq
 ·obtain⟨its,r',pl,hz⟩:=I.list hq;have cO:=r'.length;obtain⟨o,ho,hc,n,hd⟩:=pl.isList;exact call_list_seq p (.inl rfl) ho hc hd (λh' c' kp e=>fin its r' hz h' c' kp e) (by simp only[dE]<;>lia)
 ·obtain⟨its,r',pl,hz⟩:=I.tuple hq;have cO:=r'.length;obtain⟨o,ho,hc,n,hd⟩:=pl;exact call_list_seq p (.inr rfl) ho hc hd (λh' c' kp e=>fin its r' hz h' c' kp e) (by simp only[dE]<;>lia)
theorem Vd:jL X (.type "tuple") (λxs H Q=>∃p ys,xs=[.ref p]∧((dw X.K H p ys∧∀l,H l=none→Q (.ref l) (upd H l (.tup ys)))∨(bh X.K H p ys∧Q (.ref p) H))):=by
 intro aH s σ H xs us Q I r h;obtain⟨p,ys,rfl,h⟩:=h;obtain⟨u,rfl,rx⟩:=vals1 r;cases rx;rcases h with⟨hq,q⟩|⟨hq,q⟩
 ·obtain⟨its,r',pl,hz⟩:=I.list hq;have cO:=r'.length;refine call_tuple_list pl.isList (λh' kp=>?_) (by simp only[dE]<;>lia)
  have I1:Inv X aH σ H { s with heap:=h' }:=I.kept (t':=s.toks) kp;have I2:Inv X aH σ (upd H h'.objs.size (.tup ys)) { s with heap:=h'.push { cls:=.type "tuple",data:=.seq its.toArray } }:=
   I1.laid (t':=s.toks) (λb o e=>dX _ e) (cf _) (show eC X.prog X.w _ _ _ (.tup ys) from⟨hz,its,r',pN.new _ _⟩)
  exact⟨.ref h'.objs.size,_,I2,rfl,q _ (I1.bH.fresh (cf _))⟩
 ·obtain⟨its,r',pl,hz⟩:=I.tuple hq;exact call_tuple_same pl ⟨.ref p,H,I,rfl,q⟩
def FV(K:Frag)(T:String)(x:V)(H:Hp):Prop:=match x with
 | .str _=>T="str"
 | .int _=>T="int"
 | .ref p=>(T="list"∧∃xs,dw K H p xs)∨(T="tuple"∧∃o,K.lookup p=some o∧o.cls=.type "tuple"∧o.dict=none) ∨
   (T="dict"∧((∃aU,H p=some (.dK aU))∨∃aU,H p=some (.dT aU)))∨(T="set"∧∃S n,H p=some (.set S n))
 |_=>False
theorem MA{aH:List (Addr×Obj)}{σ:St}{H:Hp}{T:String}{v:Value}(I:Inv X aH σ H s)(r:RelV x v)(ty:FV X.K T x H) :
  s.TypeIs v T∧∀a,v=.ref a→∃ob,s.heap.get? a=some ob∧ob.dict=none:=by
 cases x with
 |str z=>
  obtain⟨t,rfl⟩:=r;cases(show T="str" from ty)
  exact⟨typeIs_str s z t,λ_ e=>nomatch e⟩
 |int i=>
  obtain⟨t,rfl⟩:=r;cases(show T="int" from ty)
  exact⟨typeIs_int s i t,λ_ e=>nomatch e⟩
 |ref p=>
  cases r;rcases ty with⟨rfl,xs,hq⟩|⟨rfl,o,hk,hc,hd⟩|⟨rfl,hk⟩|⟨rfl,S,n,hk⟩
  ·obtain⟨its,_,pl,_⟩:=I.list hq;refine⟨pl.isList.typeIs,λa e=>?_⟩;cases e;obtain⟨o,n,e,c,hd,_⟩:=pl;exact⟨o,e,hd⟩
  ·refine⟨⟨o,I.fo p o hk,hc⟩,λa e=>?_⟩;cases e;exact⟨o,I.fo _ o hk,hd⟩
  ·have z:∃o,s.heap.get? p=some o∧o.ExactDict:=by
    rcases hk with⟨aU,hk⟩|⟨aU,hk⟩
    ·obtain⟨_,_,_,_,o,_,_,e,ex,_⟩:=I.bH p _ hk;exact⟨o,e,ex⟩
    ·obtain⟨_,_,_,_,o,_,_,e,ex,_⟩:=I.bH p _ hk;exact⟨o,e,ex⟩
   obtain⟨o,e,ex⟩:=z;refine⟨⟨o,e,ex.1⟩,λa e2=>?_⟩;cases e2;exact⟨o,e,ex.2.1⟩
  ·obtain⟨o,_,_,_,e,ex,_⟩:=I.bH p _ hk;refine⟨⟨o,e,ex.1⟩,λa e2=>?_⟩;cases e2;exact⟨o,e,ex.2.1⟩
 |_=>exact False.elim ty
def FW(K:Frag)(T:String)(r:V→List V→Hp→VK→Prop)(to:TE):TE:=λσ H Q=>to σ H λx H1=>FV K T x H1∧r x [] H1 Q
def uq(K:Frag)(T:String)(r:V→List V→Hp→VK→Prop)(to:TE)(t:TA):TE:=λσ H Q=>to σ H λx H1=>FV K T x H1∧t σ H1 λxs H2=>r x xs H2 Q
variable{o e:Expr}{es:List Expr}{to:TE}{t:TA}{name:Str}{jN eO:Pos}{T id:String}{r:V→List V→Hp→VK→Prop}
theorem v7(pa:PlainAttrs T)(slot:Slot T name id)(yB:typeOf (.builtin id)=pure (.type "method_descriptor"))(hm:BH X id r)(ho:PE X o to)
  (ur:attributeBase o name X.env (eval o X.env)=eval o X.env:=by rfl) (uv:(jN.endLine==eO.line)=true:=by rfl):PE X (.Call (.Attribute o name jN) [] [] eO) (FW X.K T r to):=by
 intro aH s σ H Q I h;refine wpAny_Call_method0_late ur uv (bf (ho aH s σ H _ I h) λv s1 ⟨x,H1,I1,r1,ty,q1⟩=>?_);obtain⟨h1,h2⟩:=MA I1 r1 ty;exact⟨T,id,pa,slot,yB,h1,h2,Calls.callWith_builtin rfl (PySem.evalArgs_none (hm aH s1 σ H1 x [] v [] Q I1 r1 .nil q1))⟩
theorem mj(pa:PlainAttrs T)(slot:Slot T name id)(yB:typeOf (.builtin id)=pure (.type "method_descriptor"))(hm:BH X id r)(ho:PE X o to)(ha:PA X (e::es) t)
  (ur:attributeBase o name X.env (eval o X.env)=eval o X.env:=by rfl)
  (yC:((backTo eO (starEach (e::es) X.env)).all (λx=>!x.1)&&(backToKw eO (keywordEach [] X.env)).all (λx=>x.1.isSome)
   && decide ((e::es).length+([]:List Keyword).length+(if([]:List Keyword).isEmpty then 0 else 1)<30))=true:=by rfl)
  (uv:(jN.endLine==eO.line)=true:=by rfl) (hs:starEach (e::es) X.env=(false,eval e X.env)::starEach es X.env:=by rfl) (FX:(backTo eO (starEach es X.env)).any (·.1)=false:=by rfl) :
  PE X (.Call (.Attribute o name jN) (e::es) [] eO) (uq X.K T r to t):=by
 intro aH s σ H Q I h;refine wpAny_Call_method_late ur yC uv rfl (bf (ho aH s σ H _ I h) λv s1 ⟨x,H1,I1,r1,ty,q1⟩=>?_);obtain⟨h1,h2⟩:=MA I1 r1 ty;refine⟨T,id,pa,slot,yB,h1,h2,?_⟩;have hA:=ha eO aH s1 σ H1 _ I1 q1;rw[hs]at hA ⊢;refine Calls.callWith_builtin (by show(false||(backTo eO (starEach es X.env)).any (·.1))=false;rw[FX]<;>rfl) (Calls.evalArgs_plain ?_)
 exact bf hA λus s2 ⟨vs,H2,I2,r2,q2⟩=>hm aH s2 σ H2 x vs v us Q I2 r1 r2 q2
end
def yD(X:Cx)(id:String)(r:V→List V→Hp→VK→Prop):Prop:=
 ∀(aH:List (Addr×Obj))(s:Shared)(σ:St)(H:Hp)(x:V)(xs:List V)(v:Value)(us:List Value)(Q:VK),Inv X aH σ H s→RelV x v→Vals xs us→r x xs H Q→
  wpAny (model X.prog X.w) X.A (call (.builtin id) (v::us)) (EP X aH σ Q) X.xe s
theorem Vals.one:∀{x:V}{us:List Value},Vals [x] us→∃u,us=[u]∧RelV x u
 |_,_,.cons r .nil=>⟨_,rfl,r⟩
theorem Vals.zero:∀{us:List Value},Vals [] us→us=[]
 |_,.nil=>rfl
theorem Vals.dropLast{xs:List V}{us:List Value}(h:Vals xs us):Vals xs.dropLast us.dropLast:=by
 induction h with
 |nil=>exact .nil
 |cons r t ih=>
  cases t with
  |nil=>exact .nil
  |cons q t'=>exact .cons r ih
theorem Vals.eraseIdx:∀{xs:List V}{us:List Value}(i:Nat),Vals xs us→Vals (xs.eraseIdx i) (us.eraseIdx i)
 |_,_,_,.nil=>.nil
 |_,_,0,.cons _ t=>t
 |_,_,i+1,.cons r t=>.cons r (Vals.eraseIdx i t)
theorem Vals.rep{xs:List V}{us:List Value}(h:Vals xs us):∀k:Nat,Vals (List.replicate k xs).flatten (List.replicate k us).flatten
 |0=>.nil
 |k+1=>by
  rw[pE,pE,vN,vN];exact Vals.append h (Vals.rep h k)
theorem Ve(l:List α):l.eraseIdx (l.length-1)=l.dropLast:=by
 induction l with
 |nil=>rfl
 |cons a r ih=>
  cases r with
  |nil=>rfl
  |cons b r=>
   have e:(a::b::r).length-1=((b::r).length-1)+1:=by
    have h1:(a::b::r).length=r.length+2:=rfl;have h2:(b::r).length=r.length+1:=rfl;lia
   rw[e,List.eraseIdx_cons_succ,ih];all_goals rfl
theorem MB{α:Type}:∀(l:List α)(i:Nat),(l.eraseIdx i).length≤l.length
 | [],_=>cf _
 |_::_,0=>Nat.le_succ _
 |_::r,i+1=>Nat.succ_le_succ (MB r i)
theorem foldl_rep(its:List Value):∀(k:Nat)(df:List Value),
  List.foldl (λx1 x2=>x1++x2) df.toArray (List.replicate k its.toArray)=(df++(List.replicate k its).flatten).toArray
 |0,df=>by simp
 |k+1,df=>by
  have e:df.toArray++its.toArray=(df++its).toArray:=by simp
  have e2:(df++its)++(List.replicate k its).flatten=df++(List.replicate (k+1) its).flatten:=by
   rw[pE,vN,gH]
  rw[← e2,← foldl_rep its k (df++its),← e,pE,List.foldl_cons]
section
variable{X:Cx}{aH:List (Addr×Obj)}{σ:St}{H:Hp}{s:Shared}{l b:Addr}{xs ys zs:List V}
theorem Inv.yE{its':List Value}{f:Array Value→Array Value}{t':Nat}(I:Inv X aH σ H s)(hH:H l=some (.lst xs))
  (e:s.heap.get? l=some { cls:=.type "list",data:=.seq its.toArray n }) (hf:f its.toArray=its'.toArray) (hv:Vals ys its') (hz:ys.length≤sizeLine) :
  Inv X aH σ (upd H l (.lst ys)) { s with heap:=s.heap.update l (Obj.mapSeq f),toks:=t' }:=by
 have q:=PySem.IsL.update e f;rw[hf]at q;refine I.write (x:=l) (e:=l) (by rw[hH];exact trivial) (.inl rfl) (λb' u hb hu=>(Heap.get?_update_other s.heap (Obj.mapSeq f) (Ne.symm hb)).trans hu) ⟨_,q⟩ ?_;exact⟨hz,its',_,hv,q⟩
theorem Inv.MC{t':Nat}(I:Inv X aH σ H s)(hv:Vals ys its)(hz:ys.length≤sizeLine) :
  Inv X aH σ (upd H s.heap.objs.size (.lst ys)) { s with heap:=s.heap.push { cls:=.type "list",data:=.seq its.toArray },toks:=t' }:=
 I.laid (λ_ _ q=>dX _ q) (cf _) ⟨hz,its,0,hv,iW _ rfl⟩
theorem Inv.fresh(I:Inv X aH σ H s):H s.heap.objs.size=none:=I.bH.fresh (cf _)
theorem Inv.qV(I:Inv X aH σ H s)(hH:H l=some (.lst xs)):xs.length≤sizeLine∧∃(its:List Value)(n:Nat),Vals xs its∧xs.length=its.length∧s.heap.get? l=some { cls:=.type "list",data:=.seq its.toArray n }:=by
 obtain⟨z,its,n,r,e⟩:=I.bH l _ hH;exact⟨z,its,n,r,r.length,e⟩
theorem MD(h:n≤sizeLine):Builtin.List.listTooLong n=false:=by
 unfold Builtin.List.listTooLong;exact aa (by lia)
end
section
variable{X:Cx}
def BK:V→List V→Hp→VK→Prop:=λx vs H Q=>∃l xs y,x=.ref l∧vs=[y]∧H l=some (.lst xs)∧xs.length<sizeLine∧Q .cg (upd H l (.lst (xs++[y])))
theorem o7:yD X "list.append" BK:=by
 intro aH s σ H x vs v us Q I rx rv h;obtain⟨l,xs,y,rfl,rfl,hH,hz,q⟩:=h;cases rx;obtain⟨u,rfl,ru⟩:=rv.one;obtain⟨z,its,n,r,hl,e⟩:=I.qV hH;refine aC F.slot_list_append ⟨_,e,rfl⟩ F.entry_list_append (F.args_list_append_2 _ _) (PySem.list_append l its.toArray n u (by rw[dE];lia)) ⟨e,?_⟩;refine⟨.cg,_,I.yE (its':=its++[u]) hH e (by simp) (r.append (.cons ru .nil)) ?_,rfl,q⟩;rw[cx,List.length_singleton];lia
def FY:V→List V→Hp→VK→Prop:=λx vs H Q=>∃l b xs zs,x=.ref l∧vs=[.ref b]∧H l=some (.lst xs)∧H b=some (.lst zs)∧xs.length+zs.length≤sizeLine∧Q .cg (upd H l (.lst (xs++zs)))
theorem Vf:yD X "list.extend" FY:=by
 intro aH s σ H x vs v us Q I rx rv h;obtain⟨l,b,xs,zs,rfl,rfl,hH,hB,hz,q⟩:=h;cases rx;obtain⟨u,rfl,ru⟩:=rv.one;cases ru;obtain⟨z,its,n,r,hl,e⟩:=I.qV hH;obtain⟨z2,nV,n2,r2,ME,e2⟩:=I.qV hB;have hsz:its.toArray.size+nV.toArray.size≤sizeLine:=by rw[dE,dE];lia
 have FZ:¬(!its.toArray.isEmpty&&Builtin.List.listTooLong (its.toArray.size+nV.toArray.size))=true:=by
  rw[MD hsz,Bool.and_false];exact gX
 refine aC F.slot_list_extend ⟨_,e,rfl⟩ F.entry_list_extend (F.args_list_extend_2 _ _)
  (AutoSeq1.list_extend_list_list_0 l its.toArray n b nV.toArray n2 FZ (by rw[dE];lia) (by lia)) ⟨e,e2,?_⟩
 refine⟨.cg,_,I.yE (its':=its++nV) hH e (by simp) (r.append r2) ?_,rfl,q⟩;rw[cx];lia
def F0:V→List V→Hp→VK→Prop:=λx vs H Q=>∃l xs y,x=.ref l∧vs=[]∧H l=some (.lst xs)∧xs[xs.length-1]?=some y∧Q y (upd H l (.lst xs.dropLast))
theorem v8:yD X "list.pop" F0:=by
 intro aH s σ H x vs v us Q I rx rv h;obtain⟨l,xs,y,rfl,rfl,hH,hy,q⟩:=h;cases rx;have Vg:=rv.zero;subst Vg;obtain⟨z,its,n,r,hl,e⟩:=I.qV hH;obtain⟨u,hu,ru⟩:=r.get hy;have BL:its.toArray[its.toArray.size-1]?=some u:=by
  show its.toArray[its.length-1]?=some u;rw[← Array.getElem?_toList,← hl];exact hu
 refine aC F.slot_list_pop ⟨_,e,rfl⟩ F.entry_list_pop (F.args_list_pop_1 _) (MeetsSeq.list_pop_last l its.toArray n u BL (by rw[dE];lia)) ⟨e,?_⟩;refine⟨y,_,I.yE (its':=its.dropLast) hH e ?_ r.dropLast ?_,ru,q⟩
 ·show its.toArray.eraseIdxIfInBounds (its.toArray.size-1)=its.dropLast.toArray;rw[dE,List.eraseIdxIfInBounds_toArray,Ve]
 ·rw[List.length_dropLast];lia
def Vh:V→List V→Hp→VK→Prop:=λx vs H Q=>∃l xs i k y,x=.ref l∧vs=[.int i]∧H l=some (.lst xs)∧-(2^63)≤i∧i<2^63∧seqIndex? i xs.length=some k∧xs[k]?=some y∧Q y (upd H l (.lst (xs.eraseIdx k)))
theorem Vi:yD X "list.pop" Vh:=by
 intro aH s σ H x vs v us Q I rx rv h;obtain⟨l,xs,i,k,y,rfl,rfl,hH,h1,h2,hk,hy,q⟩:=h;cases rx;obtain⟨u,rfl,ru⟩:=rv.one;obtain⟨t,rfl⟩:=ru;obtain⟨z,its,n,r,hl,e⟩:=I.qV hH;obtain⟨w,hw,o5⟩:=r.get hy;refine aC F.slot_list_pop ⟨_,e,rfl⟩ F.entry_list_pop (F.args_list_pop_2 _ _)
  (MeetsSeq.list_pop_at l its.toArray n i t k w (fitsIndex_both h1 h2) (by rw[dE,← hl];exact hk) (by rw[← Array.getElem?_toList];exact hw) (by rw[dE];lia)) ⟨e,?_⟩
 refine⟨y,_,I.yE (its':=its.eraseIdx k) hH e ?_ (r.eraseIdx k) ?_,o5,q⟩
 ·show its.toArray.eraseIdxIfInBounds k=(its.eraseIdx k).toArray;rw[List.eraseIdxIfInBounds_toArray]
 ·have:=MB xs k
  lia
def so:R2:=λx y H Q=>∃l b xs zs,x=.ref l∧y=.ref b∧H l=some (.lst xs)∧H b=some (.lst zs)∧xs.length+zs.length≤sizeLine∧∀p,H p=none→Q (.ref p) (upd H p (.lst (xs++zs)))
theorem o8:eM X (binaryOp .Add) so:=by
 intro aH s σ H x y v u Q I rx ry h;obtain⟨l,b,xs,zs,rfl,rfl,hH,hB,hz,q⟩:=h;cases rx;cases ry;obtain⟨z,its,n,r,hl,e⟩:=I.qV hH;obtain⟨z2,nV,n2,r2,ME,e2⟩:=I.qV hB;refine PySem.P.add_list e e2 ?_ (by rw[dE,dE];lia);have ea:its.toArray++nV.toArray=(its++nV).toArray:=by simp
 rw[ea];exact⟨.ref _,_,I.MC (t':=s.toks) (r.append r2) (by rw[cx];lia),rfl,q _ I.fresh⟩
def Vj:R2:=λx y H Q=>∃l k xs,x=.ref l∧y=.int k∧H l=some (.lst xs)∧-(2^63)≤k∧k<2^63∧xs.length*k.toNat≤sizeLine∧
 ∀p,H p=none→Q (.ref p) (upd H p (.lst (List.replicate k.toNat xs).flatten))
theorem MF(xs:List α)(k:Nat):(List.replicate k xs).flatten.length=k*xs.length:=by
 induction k with
 |zero=>simp
 |succ k ih=>rw[pE,vN,cx,ih,Nat.succ_mul,Nat.add_comm]
theorem Vk:eM X (binaryOp .Mult) Vj:=by
 intro aH s σ H x y v u Q I rx ry h;obtain⟨l,k,xs,rfl,rfl,hH,h1,h2,hz,q⟩:=h;cases rx;obtain⟨t,rfl⟩:=ry;obtain⟨z,its,n,r,hl,e⟩:=I.qV hH;have cO:its.toArray.size*k.toNat≤sizeLine:=by rw[dE,← hl];exact hz
 have Vl:¬its.toArray.size*k.toNat>(2^63-1)/8:=by
  have:(sizeLine:Nat)≤(2^63-1)/8:=by decide
  lia
 have Ga:¬(!Builtin.List.listFitsIndex k)=true:=by
  rw[fitsIndex_both h1 h2];exact gX
 have FZ:¬Builtin.List.listTooLong (its.toArray.size*k.toNat)=true:=by
  rw[MD cO];exact gX
 have Vm:List.foldl (λx1 x2=>x1++x2) #[] (List.replicate (if its.toArray.isEmpty=true then 0 else k.toNat) its.toArray)=(List.replicate k.toNat its).flatten.toArray:=by
  have f0:∀m:Nat,List.foldl (λx1 x2=>x1++x2) #[] (List.replicate m its.toArray)=(List.replicate m its).flatten.toArray:=λm=>by
   have:=foldl_rep its m []
   rw[List.nil_append]at this;exact this
  rw[f0];cases its with
  |nil=>simp
  |cons a r'=>rw[af (by simp)]
 refine wpAny_binaryOp_repeat_ref (T := "list") (U := "int") (by decide) ⟨_,e,rfl⟩ (λs'=>typeIs_int s' k t) noFill_list_mul F.fills_int_mul F.slot_int_rmul repeat_list F.slot_int_index.lookup
  (aC F.slot_int_rmul (typeIs_int s k t) F.entry_int_rmul (F.args_int_rmul_2 _ _) (int___rmul___int_list k t l its.toArray n) ⟨e,rfl,⟨_,e,rfl⟩,aC F.slot_list_mul ⟨_,e,rfl⟩ F.entry_list_mul (F.args_list_mul_2 _ _) (AutoListH.list___mul___list_int_3 l its.toArray n k t Ga Vl FZ) ⟨e,?_⟩⟩)
 rw[Vm];exact⟨.ref _,_,I.MC (t':=s.toks) (r.rep k.toNat) (by rw[MF,Nat.mul_comm];exact hz),rfl,q _ I.fresh⟩
end
section
variable{prog:Program}{w:World}{A:Around}{E:QV}{s:Shared}
end
section
variable{X:Cx}
end
end L2
namespace Att
open PySem PySem.W PySem.Calls PyProof.Rows
theorem Vo{P:Params}{h:Heap}:∀(ns:List Int)(vs:List Value),WellAll P h vs (ns.map WData.int)→IntsAre vs ns:=by
 intro ns;induction ns with
 |nil=>
  intro vs w;rw[List.map_nil]at w;cases w;exact .nil
 |cons n ns ih=>
  intro vs w;rw[nP]at w;cases w with
  |cons a b=>
   cases a;exact .cons _ _ (ih _ b)
theorem Vp{l:OpenLaw}{n:Nat}(hn:l.most=some n){P:Params}{h:Heap}{args:List WData}{Gb:List Value}
  (BM:l.row.toRowW.claim.pre args=true) (mn:WellAll P h Gb args) :
  ∃a vs ns,Gb=[Value.ref a]∧args=[WData.list (ns.map WData.int)]∧h.get? a=some { cls:=.type "list",data:=.seq vs.toArray }∧IntsAre vs ns∧ns.length≤n:=by
 have Vq:WShape.hasAll [] args [.list .int]=true:=(pre_splitW BM).1;have hc:l.pre.holds [] { args:=args }=true:=(pre_splitW BM).2;obtain⟨d,r,rfl,h1,h2⟩:=hasAllW_cons Vq;obtain rfl:=hasAllW_nil h2;obtain⟨xs,rfl,h3⟩:=hasW_list h1;obtain⟨ns,rfl⟩:=items_int h3;have cO:ns.length≤n:=by
  unfold OpenLaw.pre at hc;have h4:(WTm.not (.lt (.lit (.int (n:Int))) (.len (.arg 0)))).holds [] { args:=[.list (ns.map .int)] }=true:=by
   have h4:=(holds_andW hc).1;rw[hn]at h4;exact h4
  have h5:=condW_of h4 (w_not (w_lt w_lit (w_len_list (w_arg rfl))));rw[bj]at h5;refine Nat.le_of_not_lt λq=>?_;have q':(n:Int)<((ns.length:Nat):Int):=by lia
  first
   |(rw[aD q']at h5;exact absurd h5 (by decide))
   |(simp at h5;lia)
 cases mn with
 |cons w1 w2=>
  cases w2;cases w1 with
  |list ho Gd=>exact⟨_,_,ns,rfl,rfl,ho,Vo ns _ Gd,cO⟩
theorem Vr(l:OpenLaw)(args:List WData):l.row.toRowW.claim.post args (.bool true) args=true:=
 postW_of (r:=l.row.toRowW) (X:=(true==true))
  (show WShape.has [] (.bool true) .bool=true by first|rfl|decide|simp[WShape.has,WShape.arms,WShape.armsAll])
  (show(WTm.eq .res (.lit (.bool true))).value [] { args:=args,res:=some (.bool true),after:=args }=some (.bool (true==true)) from w_eq_bool (w_res rfl) w_lit) rfl
theorem Vs{l:OpenLaw}{n:Nat}{q:Program}{v9:List Str}{XP:(Str→Option Value)→Heap→Prop}{YP:World→Heap→Prop}{d:DefRec}
  (hn:l.most=some n) (yF:d.params.defaults=[])
  (call:∀(w:World)(s₀ s₁:Shared)(mg mb:Str→Option Value)(fa:Addr)(o:Obj)(pm cd doc:Value)(a:Addr)(vs:List Value)(ns:List Int),
   Ground q v9 [] XP w s₀ mg mb s₁.heap→YP w s₁.heap→
   s₁.heap.get? fa=some o→o.data=.func (docDef d.name d.params d.body d.scope pm cd doc)→s₁.heap.CodeRec cd d.name→mg d.name=some (.ref fa)→
   s₁.heap.get? a=some { cls:=.type "list",data:=.seq vs.toArray }→IntsAre vs ns→ns.length≤n→s₁.gens=#[]→
   codeAny (model l.prog w) callerA (.call (.ref fa) ⟨[.ref a],[]⟩) (λr s'=>r=.ok (.ret (.bool true))∧OldK s₁.heap s'.heap∧s'.os=s₁.os∧AllBare s'.gens) s₁) :
  WalkO q v9 XP YP l.row.toRowW d [] (λf vs=>PySem.call f vs):=by
 intro w s₀ s₁ mg mb G Y fa o pm cd doc dV kV ho hd gI hD hmg hg args Gb as BM acM hrd mn Ge;obtain rfl:dV=.none:=Dflts.none hD yF;obtain rfl:kV=.none:=Dflts.noKw hD;obtain⟨a,vs,ns,rfl,rfl,Gf,hints,cO⟩:=Vp hn BM mn;refine enter_call (codeAny_mono (call w s₀ s₁ mg mb fa o pm cd doc a vs ns G Y ho (fd_plain hd) gI hmg Gf hints cO hg) λr s' hq=>?_);obtain⟨rfl,h2,h3,h4⟩:=hq;exact⟨.inl ⟨.bool true,.bool true,[],rfl,λ_=>rfl,.bool true,Vr l _,λ_=>⟨List.Pairwise.nil,λ_ hm=>(nomatch hm)⟩⟩,h2,h3,h4⟩
section
variable{prog:Program}{w:World}{A:Around}{E:QV}{s:Shared}{K:Frag}
end
end Att
namespace L2
open PySem PySem.Spec PyProof.Rows
variable{A:Around}{B:Prop}{H H':Hp}{Q:QV}{X:Cx}{a c f it l p:Addr}{b:Bool}{env:Env}{es:List Expr}{h h':Heap}{i kt n:Nat}{its:Array Value}{aH:List (Addr×Obj)}{qual x:Str}{s:Shared}{scope:Scope}{st:Stmt}{v:Value}{xs:List V}
theorem MG:∀{vs:List Value}{ns:List Int},IntsAre vs ns→Vals (ns.map V.int) vs
 |_,_,.nil=>.nil
 |_,_,.cons n t h=>.cons ⟨t,rfl⟩ (MG h)
noncomputable def pW(s:Stmt):Arguments:=match s with
 | .FunctionDef _ a _ _ _ _ _ _ _ _=>a
 |_=>{ posonlyargs:=[],args:=[],vararg:=none,kwonlyargs:=[],kw_defaults:=[],kwarg:=none,defaults:=[] }
noncomputable def j8(s:Stmt):List Stmt:=match s with
 | .FunctionDef _ _ b _ _ _ _ _ _ _=>b
 |_=>[]
noncomputable def bo(s:Stmt):Scope:=match s with
 | .FunctionDef _ _ _ _ _ _ sc _ _ _=>sc
 |_=>{ kind:=.function,names:=[],isGenerator:=false,isCoroutine:=false }
abbrev bx:oY:=λ_ _ _ _ _ _=>False
abbrev E0:XK:=λ_ _ _=>False
theorem cU:Passes bx X E0:=λ_ _ _ _ _ _ _ h=>h.elim
structure cG(K:Frag)(x qual:Str)(st:Stmt)(f:Addr)(fd:FuncData):Prop where
 ex:∃(oc:Value)(od:Option Addr)(kV doc pm:Value)(an:Option Addr)(bI ct:Value)(nv:Array (Option Value)),
  fd=fnOf x qual (pW st) (j8 st) (bo st) .none kV doc pm an bI ct∧K.lookup f=some ⟨oc,od,.func fd,nv⟩∧codeIn K bI qual=true
 kp:Kp K f
section
variable{P:Program}{w:World}{K:Frag}{mg:Str→Option Value}{base:Heap}
theorem cG.ok{fd:FuncData}{N ps:List Str}{k:Nat}{sp:Sp}(F:cG K x qual st f fd)(S:dj N ps (bo st))(len:∀vs H Q E,sp vs H Q E→vs.length=ps.length)
  (oZ:∀(bI:Value)(A:Around)(outer:List Env)(s:Shared)(H:Hp)(vs:List V)(Q:VK)(E:XK),dP k (A.deeper (envOfC qual (bo st) s.heap.objs.size f bI))→sp vs H Q E→
   ∃t,jl (km bx P w K mg base N qual (bo st) f bI A outer s H E).ma (j8 st) t∧t { nx:=λ_ H'=>Q .cg H',rt:=Q } (start N vs) H):bz P w K mg base bx (k+1) f fd ps sp:=by
 obtain⟨oc,od,kV,doc,pm,an,bI,ct,nv,rfl,lk,gI⟩:=F.ex;refine FO lk gI S len λA outer s H vs Q E hr i4=>?_;obtain⟨t,h,q⟩:=oZ bI A outer s H vs Q E hr i4;exact⟨t,h.ma,q⟩
theorem cG.binds{fd:FuncData}{ps:List Str}(F:cG K x qual st f fd)
  (h:∀(kV doc pm:Value)(an:Option Addr)(bI ct:Value)(us:List Value),us.length=ps.length→bindArgs (fnOf x qual (pW st) (j8 st) (bo st) .none kV doc pm an bI ct) ⟨us,[]⟩=pure (ps.zip us)):Binds K fd ps []:=by
 obtain⟨oc,od,kV,doc,pm,an,bI,ct,nv,rfl,lk,gI⟩:=F.ex;exact .all (h kV doc pm an bI ct)
theorem BN{oc:Value}{od an:Option Addr}{nv:Array (Option Value)}{kV doc pm bI ct:Value}(l:K.lookup f=some ⟨oc,od,.func (fnOf x qual (pW st) (j8 st) (bo st) .none kV doc pm an bI ct),nv⟩)
  (c:codeIn K bI qual=true) (k:Kp K f):cG K x qual st f (fnOf x qual (pW st) (j8 st) (bo st) .none kV doc pm an bI ct):=⟨⟨oc,od,kV,doc,pm,an,bI,ct,nv,rfl,l,c⟩,k⟩
end
theorem Gg{k:Nat}(hr:dP k A):A.units+1<cLine:=Nat.lt_of_le_of_lt (Nat.add_le_add_left (by decide:1≤64) _) hr.units
theorem BO(h:n≤1000):n<sizeLine:=Nat.lt_of_le_of_lt h (by decide)
section
variable{X:Cx}
theorem pv(i:Nat){pos:Pos}(hN:X.N[i]?=some x:=by rfl)(hv:x5 X.env.scope x:=by first|exact Or.inl rfl|exact Or.inr (.inl rfl)|exact Or.inr (Or.inr rfl))(hd:(x==("__debug__":Str))=false:=by decide)
  (gI:(x==("__classdict__":Str))=false:=by decide):PE X (.Name x pos) (aW i):=LQ hN hv hd gI
end
theorem fi{A:Prop}(h:B):if false=true then A else B:=by
 rw[af gX];exact h
theorem gQ{A:Prop}(h:A):if true=true then A else B:=by
 rw[ae rfl];exact h
theorem pX{c A:Prop} [Decidable c] (h1:c→A) (h2:¬c→B):if c then A else B:=by
 by_cases h:c
 ·rw[ae h];exact h1 h
 ·rw[af h];exact h2 h
theorem Vt{c A:Prop} [Decidable c] (hc:c) (h:B):if(!decide c)=true then A else B:=by
 rw[aD hc];exact fi h
def aL(H H':Hp):Prop:=∀b o,H b=some o→H' b=some o
theorem aL.refl(H:Hp):aL H H:=λ_ _ h=>h
theorem aL.trans{H1 H2:Hp}(a:aL H H1)(b:aL H1 H2):aL H H2:=λc o h=>b c o (a c o h)
theorem aL.seq{K:Frag}(e:aL H H')(h:dw K H a xs):dw K H' a xs:=by
 rcases h with(h|⟨o,h⟩)|h
 ·exact .inl (.inl (e _ _ h))
 ·exact .inl (.inr ⟨o,e _ _ h⟩)
 ·exact .inr h
noncomputable def lG(cells:List (Str×Addr)):List (Str×NameKind)→List (Str×Addr)→List (Str×Addr)
 | [],df=>df
 |(n,k)::r,df=>if k == .free then lG cells r ((n,(cells.lookup n).getD 0)::df)else lG cells r df
theorem Vu(h:∀x∈scope.names,x.2=.free→∃c,env.cells.lookup x.1=some c):closureFor scope env=pure (lG env.cells scope.names []):=by
 unfold closureFor;have key:∀(names:List (Str×NameKind))(df:List (Str×Addr)),(∀x∈names,x.2=.free→∃c,env.cells.lookup x.1=some c)→
   (forIn names df (λ(x:Str×NameKind)(r:List (Str×Addr))=>(if(x.2==NameKind.free)=true then do let c ← cellOf env x.1;pure (ForInStep.yield ((x.1,c)::r))else pure (ForInStep.yield r):Sem (ForInStep (List (Str×Addr))))))=pure (lG env.cells names df):=by
  intro names;induction names with
  |nil=>intro df _;rfl
  |cons x r ih=>
   intro df hx;obtain⟨n,k⟩:=x;rw[List.forIn_cons];unfold lG;by_cases hk:(k==NameKind.free)=true
   ·have hU:k=.free:=by simpa using hk
    obtain⟨c,hc⟩:=hx (n,k) cP hU;have jk:env.cells.lookup n=some c:=hc;simp only[hk,if_true];have e1:cellOf env n=pure c:=by unfold cellOf;rw[jk]
    rw[e1,jk];exact ih ((n,c)::df) λy hy=>hx y (dU _ hy)
   ·simp only[hk,if_false,Bool.false_eq_true];exact ih df λy hy=>hx y (dU _ hy)
 have e:=key scope.names [] h;first
  |exact e
  |(simp only[bind_pure];exact e)
theorem BP{cells:List (Str×Addr)}{x:Str}{c:Addr}:∀(names:List (Str×NameKind))(df:List (Str×Addr)),(lG cells names df).lookup x=some c→df.lookup x=some c∨((x,NameKind.free)∈names∧c=(cells.lookup x).getD 0)
 | [],_,h=>.inl h
 |(n,k)::r,df,h=>by
  unfold lG at h;by_cases hk:(k==NameKind.free)=true
  ·have hU:k=.free:=by simpa using hk
   rw[ae hk]at h;rcases BP r _ h with z|⟨z,e⟩
   ·rw[tZ]at z;cases hb:x==n with
    |true=>
     rw[hb]at z;have e':x=n:=by simpa using hb
     subst e';subst hU;exact .inr ⟨cP,(cN z).symm⟩
    |false=>rw[hb]at z;exact .inl z
   ·exact .inr ⟨dU _ z,e⟩
  ·rw[af hk]at h;rcases BP r _ h with z|⟨z,e⟩
   ·exact .inl z
   ·exact .inr ⟨dU _ z,e⟩
theorem Gh{cells:List (Str×Addr)}{x:Str}:∀(names:List (Str×NameKind))(df:List (Str×Addr)),((x,NameKind.free)∈names∨(df.lookup x).isSome=true)→((lG cells names df).lookup x).isSome=true
 | [],_,h=>by
  rcases h with h|h
  ·cases h
  ·exact h
 |(n,k)::r,df,h=>by
  unfold lG;by_cases hk:(k==NameKind.free)=true
  ·rw[ae hk];refine Gh r _ ?_;rcases h with h|h
   ·rcases(cS.mp h)with(e|h)
    ·cases e;exact .inr (by rw[tZ];simp)
    ·exact .inl h
   ·refine .inr ?_;rw[tZ];cases hb:x==n<;>simp[h]
  ·rw[af hk];refine Gh r _ ?_;rcases h with h|h
   ·rcases(cS.mp h)with(e|h)
    ·cases e;exact absurd rfl hk
    ·exact .inl h
   ·exact .inr h
theorem wc:∀(names:List (Str×NameKind))(n:Nat)(df:List (Str×Addr)),cellsFrom n names df=cellsFrom n names []++df
 | [],_,_=>rfl
 |(x,k)::r,n,df=>by
  unfold cellsFrom;by_cases hk:(k==NameKind.cell)=true
  ·rw[ae hk,ae hk,wc r (n+1) ((x,n)::df),wc r (n+1) [(x,n)],gH];rfl
  ·rw[af hk,af hk];exact wc r n df
theorem Gi:∀(names:List (Str×NameKind))(n:Nat)(x:Str)(c:Addr),(x,c)∈cellsFrom n names []→(x,NameKind.cell)∈names
 | [],_,_,_,h=>nomatch h
 |(y,k)::r,n,x,c,h=>by
  unfold cellsFrom at h;by_cases hk:(k==NameKind.cell)=true
  ·have hU:k=.cell:=by simpa using hk
   rw[ae hk,wc]at h;refine(dm.mp h).elim (λh=>?_) λh=>?_
   ·exact dU _ (Gi r _ x c h)
   ·have e:(x,c)=(y,n):=by simpa using h
    cases e;subst hU;exact cP
  ·rw[af hk]at h;exact dU _ (Gi r n x c h)
theorem Gj{α:Type}{x:Str}:∀(a b:List (Str×α)),(a++b).lookup x=(a.lookup x).or (b.lookup x)
 | [],_=>by simp
 |(y,v)::r,b=>by
  rw[List.cons_append,tZ,tZ];cases hb:x==y with
  |true=>simp
  |false=>exact Gj r b
theorem yG{α:Type}{x:Str}{v:α}:∀{l:List (Str×α)},(l.map (·.1)).Nodup→(x,v)∈l→l.lookup x=some v
 | [],_,h=>by cases h
 |(y,w)::r,nd,h=>by
  rw[nP,List.nodup_cons]at nd;rw[tZ];cases h with
  |head=>simp
  |tail _ h=>
   have cB:(x==y)=false:=by
    apply beq_false_of_ne;intro Vv;exact nd.1 (dq.mpr ⟨(x,v),h,Vv⟩)
   rw[cB];exact yG nd.2 h
theorem MH{α β:Type}{x:Str}(f:Str×α→Str×β)(hf:∀p,(f p).1=p.1):∀(l:List (Str×α)),(l.map f).lookup x=(l.lookup x).map λk=>(f (x,k)).2
 | []=>rfl
 |(n,k)::r=>by
  obtain⟨m,z⟩:∃z,f (n,k)=(n,z):=⟨(f (n,k)).2,Prod.ext (hf _) rfl⟩;rw[nP,z,tZ,tZ];cases hx:x==n with
  |false=>exact MH f hf r
  |true=>cases(beq_iff_eq.mp hx);simp[z]
theorem Vw(names:List (Str×NameKind)):(names.map λ(n,k)=>if(k==NameKind.free&&env.scope.kind == .function&&env.kindOf n==some .cell)then(n,NameKind.cell)else(n,k)).lookup x =
  (names.lookup x).map λk=>if(k==NameKind.free&&env.scope.kind == .function&&env.kindOf x==some .cell)=true then NameKind.cell else k:=by
 rw[MH _ (λp=>by dsimp only;split<;>rfl)]
 congr 1
 funext k
 dsimp only;split<;>rfl
theorem Vx{M:Model}{E:QV}{cl:List (Str×Addr)}{Q:Env→Shared→Prop}
  (q:Q (newEnv scope s.heap.objs.size env.globals (cellsFrom (s.heap.objs.size+1) scope.names cl) env.qual none .none (some env) builtinsNs)
   { s with heap:=pushCells (s.heap.push { cls:=.type "dict",data:=.dict #[] }) scope.names }) :
  wpAny M A (newFunctionEnv scope env.globals cl [] env.qual none .none (some env)) Q E s:=by
 have z:(s.heap.push { cls:=.type "dict",data:=.dict #[] }).objs.size=s.heap.objs.size+1:=oK ..;rw[← z]at q;unfold newFunctionEnv;have cells:=wpAny_layCells (M:=M) (A:=A) (E:=E) (λx r=>if(x.2==NameKind.cell)=true then(do let c ← alloc { cls:=.type "cell",data:=.cell none };pure (ForInStep.yield ((x.1,c)::r)))else pure (ForInStep.yield r)) (λ_ _ _=>rfl) scope.names cl { s with heap:=s.heap.push { cls:=.type "dict",data:=.dict #[] } }
 exact ak (wpAny_alloc (ak (cells _ (ak (aq (aq q))))))
noncomputable def nW(X:Cx)(N:List Str)(scope:Scope)(cs:List (Str×Addr))(C:Addr)(s₀:Shared)(H₀:Hp)(ex:List Addr):Cx where
 prog:=X.prog
 w:=X.w
 K:=X.K
 mg:=X.mg
 base:=X.base
 A:=X.A
 N:=N
 s₀:=s₀
 H₀:=H₀
 env:=compEnvC scope cs C X.env
 outer:=X.stack
 stack:=X.stack
 ex:=ex
 fn:=λx=>scope.names.lookup x==some .cell
 calm:=X.calm
 pn:=[]
 xe:=λ_ _=>False
structure dk(oN:List Str)(sr:Scope)(N:List Str)(own:Nat)(caps:List Nat)(scope:Scope):Prop where
 kind:scope.kind=.function
 nd:N.Nodup
 BQ:(scope.names.map (·.1)).Nodup
 free:∀x∈scope.names,x.2=.free→sr.names.lookup x.1=some .cell∨sr.names.lookup x.1=some .free
 len:N.length=own+caps.length
 nX:caps.map (λi=>oN[i]?)=(N.drop own).map some
 Vy:∀x∈N.drop own,scope.names.lookup x=some .free
noncomputable def pY(own:Nat)(caps:List Nat)(σ:St):St:=List.replicate own none++caps.map λi=>(σ[i]?).join
noncomputable abbrev su(X:Cx)(scope:Scope)(C:Addr):List (Str×Addr):=cellsFrom (C+1) scope.names (lG X.env.cells scope.names [])
noncomputable abbrev yH(h:Heap)(scope:Scope):Heap:=pushCells (h.push { cls:=.type "dict",data:=.dict #[] }) scope.names
section
variable{X:Cx}{aH:List (Addr×Obj)}{σ:St}{H:Hp}{s:Shared}{N:List Str}{own:Nat}{caps:List Nat}{scope:Scope}{ex:List Addr}
theorem wd(S:dk X.N X.env.scope N own caps scope)(I:Inv X aH σ H s)(n:Nat)(h:(cellsFrom n scope.names (lG X.env.cells scope.names [])).lookup x=some c) :
  (x,c)∈cellsFrom n scope.names []∨((x,NameKind.free)∈scope.names∧X.env.cells.lookup x=some c):=by
 rw[wc,Gj]at h;cases q:(cellsFrom n scope.names []).lookup x with
 |some c'=>
  rw[q]at h;have e:c'=c:=by simpa using h
  subst e;exact .inl (nO q)
 |none=>
  rw[q]at h;have h':(lG X.env.cells scope.names []).lookup x=some c:=by simpa using h
  rcases BP _ _ h' with z|⟨z,e⟩
  ·cases z
  ·refine .inr ⟨z,?_⟩;obtain⟨c',jk⟩:=I.ok.has x (S.free (x,.free) z rfl);rw[jk]at e ⊢;rw[e];rfl
theorem MI(S:dk X.N X.env.scope N own caps scope)(I:Inv X aH σ H s)(n:Nat)(hx:scope.names.lookup x=some .free) :
  ∃c,X.env.cells.lookup x=some c∧(cellsFrom n scope.names (lG X.env.cells scope.names [])).lookup x=some c:=by
 have hm:(x,NameKind.free)∈scope.names:=nO hx;obtain⟨c,hc⟩:=I.ok.has x (S.free (x,.free) hm rfl);refine⟨c,hc,?_⟩;obtain⟨c',jk⟩:=Option.isSome_iff_exists.mp (Gh (cells:=X.env.cells) (x:=x) scope.names [] (.inl hm));have e0:(cellsFrom n scope.names []).lookup x=none:=by
  cases q:(cellsFrom n scope.names []).lookup x with
  |none=>rfl
  |some d=>
   have:=yG S.BQ (Gi _ _ _ _ (nO q))
   rw[hx]at this;cases this
 rw[wc,Gj,e0,jk];rcases BP _ _ jk with z|⟨_,e⟩
 ·cases z
 ·rw[hc]at e;rw[e];rfl
theorem Vz(S:dk X.N X.env.scope N own caps scope)(I:Inv X aH σ H s)(hex:∀b∈ex,j5 X aH H b∧b<s.heap.objs.size) :
  Inv (nW X N scope (su X scope s.heap.objs.size) s.heap.objs.size s H ex) [] (pY own caps σ) H { s with heap:=yH s.heap scope }:=by
 have k1:∀b o,s.heap.get? b=some o→(yH s.heap scope).get? b=some o:=λb o e=>pushCells_keeps _ _ b o (dX _ e);have ok:=cellsFrom_ok scope.names (s.heap.push { cls:=.type "dict",data:=.dict #[] }) (s.heap.objs.size+1) [] ⟨λ_ _ hm=>(nomatch hm),List.Pairwise.nil⟩ (by rw[oK];exact cf _);rw[oK]at ok;have MJ:∀x c,X.env.cells.lookup x=some c→c<s.heap.objs.size:=λx c e=>by
  obtain⟨v,q⟩:=I.cell x c e;exact q.lt
 have MK:∀x,(compEnvC scope (su X scope s.heap.objs.size) s.heap.objs.size X.env).kindOf x=(scope.names.lookup x).map λk=>if(k==NameKind.free&&X.env.scope.kind == .function&&X.env.kindOf x==some .cell)=true then NameKind.cell else k:=
  λx=>Vw (env:=X.env) scope.names
 have kk:∀x,(compEnvC scope (su X scope s.heap.objs.size) s.heap.objs.size X.env).kindOf x=some .cell∨(compEnvC scope (su X scope s.heap.objs.size) s.heap.objs.size X.env).kindOf x=some .free→
   scope.names.lookup x=some .cell∨scope.names.lookup x=some .free:=λx h=>by
  rw[MK]at h;cases q:scope.names.lookup x with
  |none=>rw[q]at h;rcases h with h|h<;>cases h
  |some k=>
   rw[q]at h;by_cases hf:k=.free
   ·exact .inr (by rw[hf])
   ·have hb:(k==NameKind.free)=false:=by simpa using hf
    have e:(some k).map (λk=>if(k==NameKind.free&&X.env.scope.kind == .function&&X.env.kindOf x==some .cell)=true then NameKind.cell else k)=some k:=by
     simp[hf]
    rw[e]at h;exact h
 refine⟨⟨I.ok.mod,S.kind,I.ok.glob,I.ok.blt,cf _,λx y c h1 h2=>?_,λx hx=>?_,λx c hf h=>?_,I.ok.hd,I.ok.frames,.inl rfl,λb hb=>⟨?_,λx c h=>?_⟩,λb o e=>?_,eJ I.ok.qJ I.sz,λb o e hb=>?_,λb hb hf=>?_,I.stack,I.Bk⟩,
  rfl,I.bare,Un.kept k1,⟨λ_=>none,?_,λi x v h1 h2 h3=>?_⟩,λx c h=>?_,I.bH.fresh (cf _),λx c h=>?_,λp hp=>absurd (show p∈([]:List (Addr×Obj)) from hp) (by simp),I.bH.kept k1,?_⟩
 ·
  rcases wd S I _ h1 with a1|⟨_,a1⟩<;>rcases wd S I _ h2 with a2|⟨_,a2⟩
  ·exact name_of_addr ok.apart a1 a2
  ·exact absurd (MJ _ _ a2) (Nat.not_lt.mpr (Nat.le_of_succ_le (ok.empty _ _ a1).2))
  ·exact absurd (MJ _ _ a1) (Nat.not_lt.mpr (Nat.le_of_succ_le (ok.empty _ _ a2).2))
  ·exact I.ok.inj _ _ _ a1 a2
 ·
  rcases kk x hx with q|q
  ·exact Option.isSome_iff_exists.mp (E7 scope.names _ _ (.inl q))
  ·obtain⟨c,_,hc⟩:=MI S I (s.heap.objs.size+1) q;exact⟨c,hc⟩
 ·
  have fH:scope.names.lookup x=some .cell:=by simpa[nW]using hf
  rcases wd S I _ h with a|⟨a,_⟩
  ·exact Nat.le_of_succ_le (ok.empty _ _ a).2
  ·rw[yG S.BQ a]at fH;cases fH
 ·exact gU (hex b hb).2
 ·rcases wd S I _ h with a|⟨_,a⟩
  ·exact Nat.ne_of_gt (ji (hex b hb).2 (Nat.le_of_succ_le (ok.empty _ _ a).2))
  ·exact(hex b hb).1.2.2.2.2.1 x c a
 ·exact I.bs b o e
 ·rcases(hex b hb).1.2.2.2.1 with z|z
  ·exact I.ok.x9 b o e z
  ·exact absurd (ji (dN e) (eJ I.ok.qJ z)) (vK _)
 ·rcases cS.mp (I.Fd b hf)with z|z
  ·exact(hex b hb).1.2.1 z
  ·exact(hex b hb).1.2.2.1 z
 ·exact(Heap.Ns.new s.heap (.type "dict")).keeps (pushCells_keeps _ _)
 ·
  have hi:own≤i:=by
   refine Nat.le_of_not_lt λcL=>?_;unfold pY at h2;rw[iA (by simpa using cL),vL]at h2;split at h2<;>cases h2
  obtain⟨j,rfl⟩:∃j,i=own+j:=⟨i-own,by lia⟩;unfold pY at h2;rw[iL (by simp),gG,Nat.add_sub_cancel_left,du]at h2;cases hc:caps[j]? with
  |none=>rw[hc]at h2;cases h2
  |some ci=>
   rw[hc]at h2;have hσ:σ[ci]?=some (some v):=by
    have z:(σ[ci]?).join=some v:=by simpa using h2
    cases q:σ[ci]? with
    |none=>rw[q]at z;cases z
    |some o=>rw[q]at z;have z':o=some v:=z;rw[z']
   have ML:(N.drop own)[j]?=some x:=by rw[t8];exact h1
   have hX:X.N[ci]?=some x:=by
    have e:=ai (λl=>l[j]?) S.nX;simp only[du,hc,ML,Option.map_some]at e;exact cN e
   have yI:=S.Vy x (dY ML);obtain⟨c,VA,jO⟩:=MI S I (s.heap.objs.size+1) yI;obtain⟨m,hn,hl⟩:=I.loc;have hk:=S.free (x,.free) (nO yI) rfl;have VB:x5 X.env.scope x:=.inr hk;obtain⟨u,ru,lk⟩:=hl ci x v hX hσ VB;refine⟨u,ru,?_⟩;rcases lk with⟨z,_⟩|⟨_,c',e',z⟩
   ·have z':X.env.scope.names.lookup x=some .local:=z;rcases hk with hk|hk
    ·have hU:X.env.scope.names.lookup x=some .cell:=hk;rw[z']at hU;cases hU
    ·have hU:X.env.scope.names.lookup x=some .free:=hk;rw[z']at hU;cases hU
   ·rw[VA]at e';cases e';refine .inr ⟨?_,c,jO,z.keeps k1⟩;show(compEnvC scope _ _ X.env).kindOf x=_∨(compEnvC scope _ _ X.env).kindOf x=_;rw[MK,yI];show some (if _ then NameKind.cell else NameKind.free)=_∨some (if _ then NameKind.cell else NameKind.free)=_
    split
    ·exact .inl rfl
    ·exact .inr rfl
 ·rcases wd S I _ h with a|⟨_,a⟩
  ·exact⟨_,(ok.empty _ _ a).1⟩
  ·obtain⟨v,q⟩:=I.cell x c a;exact⟨v,q.keeps k1⟩
 ·rcases wd S I _ h with a|⟨_,a⟩
  ·exact I.bH.fresh (Nat.le_of_succ_le (ok.empty _ _ a).2)
  ·exact I.nU x c a
 ·unfold pY;show _=N.length;rw[S.len,cx,gG,bj]
end
def we(X:Cx)(jP:List Expr)(t:TT):Prop:=
 ∀(aH:List (Addr×Obj))(s:Shared)(σ:St)(H:Hp)(Q:Bool→Hp→Prop),Inv X aH σ H s→t σ H Q→
  wpAny (model X.prog X.w) X.A (forIn jP true λc r=>if r=true then do let ok ← isTrue c X.env (eval c X.env);pure (ForInStep.yield ok)else pure (ForInStep.yield r)) (TP X aH σ Q) X.xe s
def iP:TT:=λ_ H Q=>Q true H
theorem eU:we X [] iP:=λ_ _ _ H _ I h=>wpAny_tests_nil ⟨H,I,h⟩
theorem wg{c:Expr}{t:TT}(h:PT X c t):we X [c] t:=λaH s σ H Q I q=>wpAny_tests_one (h aH s σ H Q I q)
def Gm(M:Model)(A:Around)(env:Env)(it df:Value)(tg kn:Expr)(jP:List Expr)(E:QV)(fin more:Shared→Prop):Shared→Prop:=
 let kept:Shared→Prop:=λu=>wpAny M A (eval kn env) (λx u5=>wpAny M A (call (.builtin "list.append") [df,x]) (λ_ u6=>more u6) E u5) E u
 let VC:Shared→Prop:=λu=>wpAny M A (forIn jP true λc r=>if r=true then(do let ok ← isTrue c env (eval c env);pure (ForInStep.yield ok))else pure (ForInStep.yield r)) (λok u4=>if ok=true then kept u4 else more u4) E u
 let VD:QV:=λv u=>wpAny M A (letOwnedTupleGo tg it v) (λ_ u2=>wpAny M A (assign tg env v) (λ_ u3=>VC u3) E u2) E u
 λu=>wpAny M A (pyNext it) (λo u1=>match o with|none=>fin u1|some v=>VD v u1) E u
theorem VE{prog:Program}{w:World}{R:Result→Shared→Prop}{kn tg iter:Expr}{jP:List Expr}{pos:Pos}{it df:Value}(I:Nat→Shared→Prop)(n:Nat)(start:I n s)
  (qR:∀m u,I m u→Gm (model prog w) A env it df tg kn jP (notedBy (model prog w) A env λe v=>R (.error e) v) (R (.ok .next)) (λv=>∃j,j<m∧I j v) u) :
  codeAny (model prog w) A (.compLoop (.ListComp kn [⟨tg,iter,jP,0⟩] scope pos) 0 it df env) R s:=by
 refine codeAny_loop rfl I (λm u hu=>wpAny_noted (m:=compTurn (.ListComp kn [⟨tg,iter,jP,0⟩] scope pos) 0 it df env) ?_) n start;have go:=qR m u hu;unfold Gm at go;rw[compTurn_list];refine ak (wpAny_standAt (ak (bf go λo u1 b1=>?_)))
 match o,b1 with
 |none,b1=>exact aq b1
 |some v,b1=>
  refine ak (bf b1 λ_ u2 b2=>ak (bf b2 λ_ u3 b3=>ak (bf b3 λok u4 b4=>?_)))
  match ok,b4 with
  |false,b4=>exact aq ⟨rfl,b4⟩
  |true,b4=>exact ak (ak (bf b4 λx u5 b5=>ak (bf b5 λ_ u6 b6=>aq (aq ⟨rfl,b6⟩))))
def mq(J:It)(g:TG)(tt:TT)(te:TE)(Q:VK)(W:Nat→Nat→St→Hp→List V→Prop):Prop:=
 ∀i m σ' H' ys,W i m σ' H' ys→
  (J.stop i H'∧ys.length≤sizeLine∧∀p,H' p=none→Q (.ref p) (upd H' p (.lst ys))) ∨
  (J.go i H'∧ys.length<sizeLine∧∃N:St→Hp→List V→Prop,(∀σ2 H2 zs,N σ2 H2 zs→∃m',m'<m∧W (i+1) m' σ2 H2 zs)∧
   ∀x H2,J.qO i H' x H2→g x σ' H2 λσ3 H3=>tt σ3 H3 λb H4=>if b=true then te σ3 H4 λv H5=>N σ3 H5 (ys++[v])else N σ3 H4 ys)
def j9(wi:TI)(own:Nat)(caps:List Nat)(g:TG)(tt:TT)(te:TE):TE:=λσ H Q=>wi σ H λJ H1=>
 ∃W:Nat→Nat→St→Hp→List V→Prop,(∃m,W 0 m (pY own caps σ) H1 [])∧mq J g tt te Q W
section
variable{X:Cx}{tg kn iter:Expr}{jP:List Expr}{scope:Scope}{pos:Pos}{N:List Str}{own:Nat}{caps:List Nat}{wi:TI}{g:TG}{tt:TT}{te:TE}
theorem MM{σ:St}{H2:Hp}{s2:Shared}{J:It}{fp:List Addr}{tn:Nat→Heap→Prop}{Q:VK}{W:Nat→Nat→St→Hp→List V→Prop}{m0:Nat}
  {E:QV} {R:Value→Addr→Result→Shared→Prop} (hc:X.calm=true) (S:dk X.N X.env.scope N own caps scope)
  (hg:∀cs C s₀ H₀ ex,PG (nW X N scope cs C s₀ H₀ ex) tg g) (ht:∀cs C s₀ H₀ ex,we (nW X N scope cs C s₀ H₀ ex) jP tt) (he:∀cs C s₀ H₀ ex,PE (nW X N scope cs C s₀ H₀ ex) kn te)
  (I2:Inv X aH σ H2 s2) (T:Turn X.prog X.w X.K tg J fp it tn) (mh:tn 0 s2.heap) (f2:∀b∈fp,j5 X aH H2 b)
  (w0:W 0 m0 (pY own caps σ) H2 []) (qR:mq J g tt te Q W)
  (VF:∀D C s' H' ys,Inv X aH σ (upd H' D (.lst ys)) s'→j5 X aH (upd H' D (.lst ys)) C→(∃m,s'.heap.Ns C m)→Q (.ref D) (upd H' D (.lst ys))→R (.ref D) C (.ok .next) s') :
  wpAny (model X.prog X.w) X.A (newList []) (λdf s₃=>wpAny (model X.prog X.w) X.A (newFunctionEnv scope X.env.globals (lG X.env.cells scope.names []) [] X.env.qual none .none (some X.env)) (λMN s₄=>
   codeAny (model X.prog X.w) X.A (.compStart (.ListComp kn [⟨tg,iter,jP,0⟩] scope pos) 0 (.ref it) df { MN with scope:=relabel scope X.env }) (R df MN.locals) s₄) E s₃) E s2:=by
 refine aA (Vx ?_);dsimp only;generalize Gn:s2.heap.push { cls:=.type "list",dict:=none,data:=.seq ([]:List Value).toArray }=h3;have hC:h3.objs.size=s2.heap.objs.size+1:=by rw[← Gn,oK]
 have MO:∀b o,s2.heap.get? b=some o→h3.get? b=some o:=λb o e=>Gn▸dX _ e;have I3:Inv X aH σ H2 { s2 with heap:=h3 }:=I2.kept (t':=s2.toks) MO;have gD:h3.get? s2.heap.objs.size=some { cls:=.type "list",data:=.seq ([]:List Value).toArray }:=Gn▸iW _ rfl;have fD:j5 X aH H2 s2.heap.objs.size:=I2.pQ (cf _) (I2.bH.fresh (cf _));have MP:∀b∈fp,b<s2.heap.objs.size:=λb hb=>by
  obtain⟨o,e,_⟩:=T.obj 0 _ mh b hb;exact dN e
 have hex:∀b∈s2.heap.objs.size::fp,j5 X aH H2 b∧b<({ s2 with heap:=h3 }:Shared).heap.objs.size:=λb hb=>by
  show _∧b<h3.objs.size;rw[hC];cases hb with
  |head=>exact⟨fD,Nat.lt_succ_self _⟩
  |tail _ hb=>exact⟨f2 b hb,Nat.lt_succ_of_lt (MP b hb)⟩
 have IB:=Vz S I3 hex;generalize hY:nW X N scope (su X scope h3.objs.size) h3.objs.size { s2 with heap:=h3 } H2 (s2.heap.objs.size::fp)=Y at IB;have yP:Y.prog=X.prog:=by rw[← hY];rfl
 have yW:Y.w=X.w:=by rw[← hY];rfl
 have yK:Y.K=X.K:=by rw[← hY];rfl
 have yc:Y.calm=true:=by rw[← hY];exact hc
 have yA:Y.A=X.A:=by rw[← hY];rfl
 have yx:Y.xe=λ_ _=>False:=by rw[← hY];rfl
 have yL:Y.env.locals=h3.objs.size:=by rw[← hY];rfl
 have MQ:Y.ex=s2.heap.objs.size::fp:=by rw[← hY];rfl
 have VG:Y.fs=fj X.stack:=by rw[← hY];rfl
 have MR:Y.pn=[]:=by rw[← hY];rfl
 have Gp:Y.env=compEnvC scope (su X scope h3.objs.size) h3.objs.size X.env:=by rw[← hY];rfl
 have yg:PG Y tg g:=by rw[← hY];exact hg _ _ _ _ _
 have yt:we Y jP tt:=by rw[← hY];exact ht _ _ _ _ _
 have ye:PE Y kn te:=by rw[← hY];exact he _ _ _ _ _
 have yb:∀{σ':St}{H':Hp}{s':Shared}{pn:List (Addr×Obj)},Inv Y pn σ' H' s'→Un (fj X.stack) (s2.heap.objs.size::fp) H2 H' h3 s'.heap:=λ{σ' H' s' pn} J=>by
  have b:=J.base;rw[VG,MQ]at b;have e1:Y.H₀=H2:=by rw[← hY];rfl
  have e2:Y.s₀.heap=h3:=by rw[← hY];rfl
  rw[e1,e2]at b;exact b
 have VH:∀{σ':St}{H':Hp}{s':Shared}{pn:List (Addr×Obj)},Inv Y pn σ' H' s'→s'.os=s2.os:=λ{σ' H' s' pn} J=>by
  have e:Y.s₀.os=s2.os:=by rw[← hY];rfl
  exact J.os.trans e
 have DL:s2.heap.objs.size≠Y.env.locals:=by rw[yL,hC];exact gU (Nat.lt_succ_self _)
 have MT:s2.heap.objs.size ∉ fp:=λz=>vK _ (MP _ z);have Gq:∀b∈s2.heap.objs.size::fp,b∈Y.ex:=λb hb=>by rw[MQ];exact hb
 have VI:∀{pn:List (Addr×Obj)}{H':Hp},(∀p∈pn,p.1 ∉ fp)→(∀b∈fp,H' b=none)→∀b∈fp,j5 Y pn H' b:=λ{pn H'} hp hn b hb=>by
  have e7:=Gq b (dU _ hb);refine⟨hn b hb,(IB.ok.x8 b e7).1,IB.ok.vT b e7,.inl e7,(IB.ok.x8 b e7).2,λp wj z=>?_⟩;rw[MR,List.nil_append]at wj;exact hp p wj (z▸hb)
 have BR:∀b o,h3.get? b=some o→(yH h3 scope).get? b=some o:=λb o e=>pushCells_keeps _ _ b o (dX _ e);have MU:tn 0 (yH h3 scope):=T.keep 0 s2.heap _ mh λb _ o e=>BR b o (MO b o e);have BS:=BR _ _ gD;have loop:codeAny (model X.prog X.w) X.A (.compLoop (.ListComp kn [⟨tg,iter,jP,0⟩] scope pos) 0 (.ref it) (.ref s2.heap.objs.size) (compEnvC scope (su X scope h3.objs.size) h3.objs.size X.env)) (R (.ref s2.heap.objs.size) h3.objs.size)
   { s2 with heap:=yH h3 scope }:=by
  refine VE (λn s'=>∃i σ' H' ys its nX,Inv Y [] σ' H' s'∧tn i s'.heap∧(∀b∈fp,H' b=none)∧H' s2.heap.objs.size=none∧
   s'.heap.get? s2.heap.objs.size=some { cls:=.type "list",data:=.seq (its:List Value).toArray nX }∧Vals ys its∧W i n σ' H' ys) m0
   ⟨0,_,H2,[],[],_,IB,MU,λb hb=>(f2 b hb).1,fD.1,BS,.nil,w0⟩ ?_
  rintro n s5 ⟨i,σ5,H5,ys,its,nX,I5,t5,Bu,MV,VJ,BU,w5⟩;unfold Gm;dsimp only;have MW:Inv Y [(s2.heap.objs.size,{ cls:=.type "list",data:=.seq its.toArray nX })] σ5 H5 s5:=I5.Bm λp hp=>by
   have e:=cQ.mp hp;subst e;exact⟨VJ,MV,DL,IB.ok.vT _ (Gq _ cP),λv z=>by cases z⟩
  have VL:∀p∈[((s2.heap.objs.size:Addr),({ cls:=.type "list",data:=.seq its.toArray nX }:Obj))],p.1 ∉ fp:=λp hp=>by
   have e:=cQ.mp hp;subst e;exact MT
  have Gr:∀{H':Hp},(∀b∈fp,H' b=none)→∀b∈fp,j5 Y [((s2.heap.objs.size:Addr),({ cls:=.type "list",data:=.seq its.toArray nX }:Obj))] H' b:=λhn=>VI VL hn;rcases qR i n σ5 H5 ys w5 with⟨stop,hz,qn⟩|⟨go,hz,NN,MX,step⟩
  ·rw[← yA];refine ag (T.done Y yP yW yK yc i _ s5 σ5 H5 (λ_ _=>False) MW (Gr Bu) t5 stop) (λr s6 h6=>?_) λ_ _ f=>f.elim;obtain⟨hr,I6⟩:=h6;subst hr;have Gs:=I6.pin (s2.heap.objs.size,_) (iX _ (cQ.mpr rfl));have nD:H2 s2.heap.objs.size=none:=fD.1;have base:=yb I6;have un:Un (fj X.stack) (s2.heap.objs.size::fp) H2 (upd H5 s2.heap.objs.size (.lst ys)) h3 s6.heap:=⟨base.keep,base.slot,λb o e n hx=>by
     rw[bZ (λz=>hx (by rw[z];exact cP))];exact base.free b o e n hx,base.there,
    λb xs e=>by rw[bZ (eQ e nD)];exact base.l7 b xs e,λb o u e=>by rw[bZ (eQ e nD)];exact base.lC b o u e,λb ps e=>by
     obtain⟨more,q⟩:=base.l8 b ps e;exact⟨more,by rw[bZ (eQ e nD)];exact q⟩⟩
   have bH:dG X.prog X.w (upd H5 s2.heap.objs.size (.lst ys)) s6.heap:=λb u e=>by
    have MY:=I6.bH;rw[yP,yW]at MY;by_cases hb:b=s2.heap.objs.size
    ·subst hb;rw[aX]at e;cases e;exact⟨hz,its,nX,BU,Gs.1⟩
    ·rw[bZ hb]at e;exact(MY b u e).oR (λc v _ q=>q) (λc q=>by rw[bZ (eQ q Gs.2.1)];exact q) λc xs q=>by rw[bZ (eQ q Gs.2.1)];exact q
   have I7:Inv X aH σ (upd H5 s2.heap.objs.size (.lst ys)) s6:=I3.Fh (VH I6) un bH I6.bare λb hb=>by
    have z:=(hex b hb).1;exact⟨z.2.2.2.1,z.2.1,z.2.2.2.2.1,z.2.2.2.2.2⟩
   have VM:H5 h3.objs.size=none:=by rw[← yL];exact I6.free
   have CD:h3.objs.size≠s2.heap.objs.size:=by rw[hC];exact Nat.succ_ne_self _
   refine VF _ _ s6 H5 ys I7 (I3.pQ (cf _) (by rw[bZ CD];exact VM)) ?_ (qn _ MV);obtain⟨m,hn,_⟩:=I6.loc;rw[yL]at hn;exact⟨m,hn⟩
  ·rw[← yA];have lift:∀{α:Type}{t:Sem α}{Q1 Q2:α→Shared→Prop}{s':Shared},wpAny (model X.prog X.w) Y.A t Q1 Y.xe s'→(∀a nu,Q1 a nu→Q2 a nu)→
     wpAny (model X.prog X.w) Y.A t Q2 (notedBy (model X.prog X.w) Y.A (compEnvC scope (su X scope h3.objs.size) h3.objs.size X.env) λe s'=>R (.ref s2.heap.objs.size) h3.objs.size (.error e) s') s':=λh k=>
    ag h k λ_ _ f=>by rw[yx]at f;exact f.elim
   refine lift (T.item Y yP yW yK yc i _ s5 σ5 H5 Y.xe MW (Gr Bu) t5 go) λr s6 h6=>?_;obtain⟨u,hr,h6⟩:=h6;subst hr;refine lift h6 λ_ s7 h7=>?_;obtain⟨x,H7,I7,r7,y7,t7,VN⟩:=h7;have VO:=I7.pinned (Gr VN) (T.obj _ _ t7);have ha:=yg _ s7 σ5 H7 x u _ VO r7 (step x H7 y7);rw[yP,yW,Gp]at ha;refine lift ha λ_ s8 h8=>?_;obtain⟨σ8,H8,I8,q8⟩:=h8;have hb:=yt _ s8 σ8 H8 _ I8 q8;rw[yP,yW,Gp]at hb;refine lift hb λok s9 h9=>?_;obtain⟨H9,I9,q9⟩:=h9;have after:∀{σ':St}{H':Hp}{s':Shared},Inv Y ([((s2.heap.objs.size:Addr),({ cls:=.type "list",data:=.seq its.toArray nX }:Obj))]++ym fp s7.heap) σ' H' s'→
     Inv Y [] σ' H' s'∧tn (i+1) s'.heap∧(∀b∈fp,H' b=none)∧H' s2.heap.objs.size=none∧s'.heap.get? s2.heap.objs.size=some { cls:=.type "list",data:=.seq its.toArray nX }:=λ{σ' H' s'} J=>by
    have pD:=J.pin (s2.heap.objs.size,_) (iX _ (nc _ (cQ.mpr rfl)));refine⟨J.Bm (λp hp=>by cases hp),T.keep _ _ _ t7 λb hb o e=>(J.pin (b,o) (iX _ (iX _ (Bt hb e)))).1,λb hb=>?_,pD.2.1,pD.1⟩;obtain⟨o,e,d⟩:=T.obj _ _ t7 b hb;exact(J.pin (b,o) (iX _ (iX _ (Bt hb e)))).2.1
   cases ok with
   |false=>
    rw[af (by decide)]at q9;rw[af (by decide)];obtain⟨m',hm,w9⟩:=MX _ _ _ q9;obtain⟨a1,a2,a3,a4,a5⟩:=after I9;exact⟨m',hm,i+1,σ8,H9,ys,its,nX,a1,a2,a3,a4,a5,BU,w9⟩
   |true=>
    rw[ae rfl]at q9;rw[ae rfl];have hd:=ye _ s9 σ8 H9 _ I9 q9;rw[yP,yW,Gp]at hd;refine lift hd λv dy Gu=>?_;obtain⟨y,MZ,VP,VQ,VR⟩:=Gu;obtain⟨m',hm,VT⟩:=MX _ _ _ VR;obtain⟨a1,a2,a3,a4,a5⟩:=after VP;have cO:=BU.length;refine append_at (hsz:=by rw[dE];lia) a5 λh' sb g'=>?_;have M0:=Gq _ (cP (a:=s2.heap.objs.size) (l:=fp));have VU:Inv Y [] σ8 MZ { dy with heap:=h' }:=a1.turned (t':=dy.toks) (it:=s2.heap.objs.size) (λb o hb e=>(sb.2 b hb).trans e) a4 DL (.inl M0) (IB.ok.x8 _ M0).2 (by rw[MR];intro p hp;cases hp);refine⟨m',hm,i+1,σ8,MZ,ys++[y],its++[v],nX+1,VU,T.keep _ _ _ a2 λb hb o e=>(sb.2 b (λz=>MT (z▸hb))).trans e,a3,a4,?_,BU.snoc VQ,VT⟩;rw[g',List.push_toArray]
 exact codeAny_compStart_list loop (T.self X.A 0 _ _ _ MU loop)
theorem M1(S:dk X.N X.env.scope N own caps scope){σ:St}(I:Inv X aH σ H s):closureFor scope X.env=pure (lG X.env.cells scope.names []):=
 Vu λx hx hk=>I.ok.has x.1 (S.free x hx hk)
theorem fY(hc:X.calm=true)(hi:PI X tg iter wi)(S:dk X.N X.env.scope N own caps scope)
  (hg:∀cs C s₀ H₀ ex,PG (nW X N scope cs C s₀ H₀ ex) tg g) (ht:∀cs C s₀ H₀ ex,we (nW X N scope cs C s₀ H₀ ex) jP tt) (he:∀cs C s₀ H₀ ex,PE (nW X N scope cs C s₀ H₀ ex) kn te)
  (hs:∀x,foldedSetIterable iter X.env x=pure x:=by intro _;rfl):PE X (.ListComp kn [⟨tg,iter,jP,0⟩] scope pos) (j9 wi own caps g tt te):=by
 intro aH s σ H Q I h;rw[eval_ListComp];refine wpAny_comprehension_free (use:=none) rfl hs (M1 S I) S.kind (λx hx hl=>yG S.BQ (by rw[← hl];exact hx)) ?_;refine bf (hi aH s σ H _ I h) λv s1 h1=>bf h1 λBq s2 h2=>?_;obtain⟨it,fp,tn,J,H2,e,I2,T,mh,f2,W,⟨m0,w0⟩,qR⟩:=h2;subst e;refine MM hc S hg ht he I2 T mh f2 w0 qR λD C s' H' ys I' F' hn q=>?_;obtain⟨m,hn⟩:=hn;refine⟨m,hn,λh' sb=>⟨.ref D,_,I'.turned (t':=s'.toks) (λb o hb e=>(sb.2 b hb).trans e) F'.1 F'.2.1 F'.2.2.2.1 F'.2.2.2.2.1 F'.2.2.2.2.2,rfl,q⟩⟩
theorem nY{oW M3:Pos}(hc:X.calm=true)(hN:X.N.Nodup)(wk:X.N[i]?=some x)(hx:X.env.scope.names.lookup x=some .local)(hi:PI X tg iter wi)(S:dk X.N X.env.scope N own caps scope)
  (hg:∀cs C s₀ H₀ ex,PG (nW X N scope cs C s₀ H₀ ex) tg g) (ht:∀cs C s₀ H₀ ex,we (nW X N scope cs C s₀ H₀ ex) jP tt) (he:∀cs C s₀ H₀ ex,PE (nW X N scope cs C s₀ H₀ ex) kn te)
  (VW:swapsWith (.ListComp kn [⟨tg,iter,jP,0⟩] scope pos) (some (.Name x oW)) M3.line X.env=pure true:=by rfl)
  (hs:∀x,foldedSetIterable iter X.env x=pure x:=by intro _;rfl):PS X (.Assign [.Name x oW] (.ListComp kn [⟨tg,iter,jP,0⟩] scope pos) M3) (dC (j9 wi own caps g tt te) (cq i)):=by
 intro aH s σ H D I h;rw[exec_Assign_Name_used _ _ _ _ VW];refine ak (wpAny_standAt (ak ?_));show wpAny _ X.A (do let _ ← comprehension (.ListComp kn [⟨tg,iter,jP,0⟩] scope pos) scope X.env _ (newList []) false (eval iter X.env) (some (assign (.Name x oW) X.env))) _ _ s
 refine ak (ag (wpAny_comprehension_free (use:=some (assign (.Name x oW) X.env)) (Q:=λ_ s'=>SP X aH D .next s') rfl hs (M1 S I) S.kind (λx hx hl=>yG S.BQ (by rw[← hl];exact hx)) ?_) (λ_ s' hq=>aq (aq hq)) λ_ _ e=>e);refine bf (hi aH s σ H _ I h) λv s1 h1=>bf h1 λBq s2 h2=>?_;obtain⟨it,fp,tn,J,H2,e,I2,T,mh,f2,W,⟨m0,w0⟩,qR⟩:=h2;subst e;refine MM hc S hg ht he I2 T mh f2 w0 qR λD' C s' H' ys I' F' hn q=>?_;obtain⟨m,hn⟩:=hn;refine wpAny_assign_Name (LK (v:=.ref D') I' hN wk (.inl hx) rfl (λnu VX nZ=>?_) (.inr hx));obtain⟨a,sb,ha⟩:=nZ;have VY:C≠a:=by
  rcases ha with ha|ha
  ·rw[ha];exact F'.2.1
  ·exact(F'.2.2.2.2.1 x a ha).symm
 exact⟨m,hn.sameBut sb VY,λh' VZ=>⟨_,_,VX.turned (t':=nu.toks) (λb o hb e=>(VZ.2 b hb).trans e) F'.1 F'.2.1 F'.2.2.2.1 F'.2.2.2.2.1 F'.2.2.2.2.2,q⟩⟩
end
noncomputable def V3(b:Bool):String:=match b with
 |true => "list_iterator"
 |false => "tuple_iterator"
noncomputable def M4(b:Bool):String:=match b with
 |true => "list"
 |false => "tuple"
noncomputable abbrev lH(b:Bool)(a:Addr)(i:Nat):Obj:={ cls:=.type (V3 b),data:=.fields #[.ref a,.int i 0] }
def iQ(b:Bool)(h:Heap)(it a:Addr)(i:Nat):Prop:=h.get? it=some (lH b a i)
def kc(b:Bool)(h:Heap)(a:Addr)(its:Array Value):Prop:=∃o n,h.get? a=some o∧o.cls=.type (M4 b)∧o.data=.seq its n
section
variable(it a:Addr)(i:Nat)(its:Array Value)(o:Obj)(n:Nat)(ed:o.data=.seq its n)
include ed
theorem V4(x:Value)(hx:its[i]?=some x) :
  Meets (Builtin.«tuple_iterator.__next__» ⟨[.ref it],[]⟩) (λ_ R s=>(s.heap.get? it=some (lH false a i)∧s.heap.get? a=some o)∧
   R (.ok (.ret x)) { s with heap:=s.heap.update it (Obj.mapFields λvs=>vs.setIfInBounds 1 (rawInt ((i:Int)+1))) }):=
 .of_wp λprog w A R s hyp=>by
  obtain⟨h,g,dr,tk,os⟩:=s;obtain⟨⟨e1,e2⟩,fin⟩:=hyp;have i6:its[((i:Nat):Int).toNat]?=some x:=by simpa using hx
  wp_walk
  rw[ed];wp_walk
  rw[i6];wp_walk
  exact⟨_,rfl,fin⟩
theorem V5(x:Value)(hx:its[i]?=some x) :
  Meets (Builtin.«list_iterator.__next__» ⟨[.ref it],[]⟩) (λ_ R s=>(s.heap.get? it=some (lH true a i)∧s.heap.get? a=some o)∧
   R (.ok (.ret x)) { s with heap:=s.heap.update it (Obj.mapFields λvs=>vs.setIfInBounds 1 (rawInt ((i:Int)+1))) }):=
 .of_wp λprog w A R s hyp=>by
  obtain⟨h,g,dr,tk,os⟩:=s;obtain⟨⟨e1,e2⟩,fin⟩:=hyp;have i6:its[((i:Nat):Int).toNat]?=some x:=by simpa using hx
  wp_walk
  rw[ed];wp_walk
  rw[i6];wp_walk
  exact⟨_,rfl,fin⟩
theorem V6(hx:its[i]?=none) :
  Meets (Builtin.«tuple_iterator.__next__» ⟨[.ref it],[]⟩) (λA R s=>A.handled=none∧(s.heap.get? it=some (lH false a i)∧s.heap.get? a=some o)∧
   ∀h' e,(∀b u,b≠it→s.heap.get? b=some u→h'.get? b=some u)→(∃u,h'.get? e=some u∧u.cls=.type "StopIteration")→R (.error (.ref e)) { s with heap:=h' }):=
 .of_wp λprog w A R s hyp=>by
  obtain⟨h,g,dr,tk,os⟩:=s;obtain⟨hh,⟨e1,e2⟩,fin⟩:=hyp;have V7:A.in1.handled=none:=hh;have i6:its[((i:Nat):Int).toNat]?=none:=by simpa using hx
  wp_walk
  rw[ed];wp_walk
  rw[i6];wp_walk
  unfold raiseNew;wp_walk
  refine fin _ _ (λb u hb q=>?_) ⟨_,iW _ rfl,rfl⟩;exact dX _ (dX _ ((Heap.get?_update_other _ _ (Ne.symm hb)).trans q))
theorem V8(hx:its[i]?=none) :
  Meets (Builtin.«list_iterator.__next__» ⟨[.ref it],[]⟩) (λA R s=>A.handled=none∧(s.heap.get? it=some (lH true a i)∧s.heap.get? a=some o)∧
   ∀h' e,(∀b u,b≠it→s.heap.get? b=some u→h'.get? b=some u)→(∃u,h'.get? e=some u∧u.cls=.type "StopIteration")→R (.error (.ref e)) { s with heap:=h' }):=
 .of_wp λprog w A R s hyp=>by
  obtain⟨h,g,dr,tk,os⟩:=s;obtain⟨hh,⟨e1,e2⟩,fin⟩:=hyp;have V7:A.in1.handled=none:=hh;have i6:its[((i:Nat):Int).toNat]?=none:=by simpa using hx
  wp_walk
  rw[ed];wp_walk
  rw[i6];wp_walk
  unfold raiseNew;wp_walk
  refine fin _ _ (λb u hb q=>?_) ⟨_,iW _ rfl,rfl⟩;exact dX _ (dX _ ((Heap.get?_update_other _ _ (Ne.symm hb)).trans q))
end
section
variable{prog:Program}{w:World}{A:Around}{E:QV}{s:Shared}{b:Bool}{it a:Addr}{i:Nat}{its:Array Value}
theorem iQ.moved(h:Heap)(e:iQ b h it a i):iQ b (h.update it (Obj.mapFields λvs=>vs.setIfInBounds 1 (rawInt ((i:Int)+1)))) it a (i+1):=vM _ e rfl
theorem V9{x:Value}(e1:iQ b s.heap it a i)(e2:kc b s.heap a its)(hx:its[i]?=some x)
  (q:∀h',iQ b h' it a (i+1)→Heap.SameBut it s.heap h'→Q x { s with heap:=h' }):wpAny (model prog w) A (Builtin.SmallTypes.nextOf (.ref it)) Q E s:=by
 obtain⟨o,n,eo,ec,ed⟩:=e2;cases b<;>unfold Builtin.SmallTypes.nextOf
 ·exact ak (ay (T := "tuple_iterator") ⟨_,e1,rfl⟩ LC (aC LC ⟨_,e1,rfl⟩ F.entry_tuple_iterator_next (F.args_tuple_iterator_next_1 _) (V4 it a i its o n ed x hx) ⟨⟨e1,eo⟩,aq (q _ (iQ.moved _ e1) (pF ..))⟩))
 ·exact ak (ay (T := "list_iterator") ⟨_,e1,rfl⟩ slot_listiter_next (aC slot_listiter_next ⟨_,e1,rfl⟩ entry_listiter_next (args_listiter_next _) (V5 it a i its o n ed x hx) ⟨⟨e1,eo⟩,aq (q _ (iQ.moved _ e1) (pF ..))⟩))
theorem Wa(hh:A.handled=none)(e1:iQ b s.heap it a i)(e2:kc b s.heap a its)(hx:its[i]?=none)
  (q:∀h' e,Heap.ExtBut it s.heap h'→(∃u,h'.get? e=some u∧u.cls=.type "StopIteration")→E (.ref e) { s with heap:=h' }):wpAny (model prog w) A (Builtin.SmallTypes.nextOf (.ref it)) Q E s:=by
 obtain⟨o,n,eo,ec,ed⟩:=e2;cases b<;>unfold Builtin.SmallTypes.nextOf
 ·exact ak (ay (T := "tuple_iterator") ⟨_,e1,rfl⟩ LC (aC LC ⟨_,e1,rfl⟩ F.entry_tuple_iterator_next (F.args_tuple_iterator_next_1 _) (V6 it a i its o n ed hx) ⟨hh,⟨e1,eo⟩,λh' e k z=>q h' e (λc u hc y=>k c u hc y) z⟩))
 ·exact ak (ay (T := "list_iterator") ⟨_,e1,rfl⟩ slot_listiter_next (aC slot_listiter_next ⟨_,e1,rfl⟩ entry_listiter_next (args_listiter_next _) (V8 it a i its o n ed hx) ⟨hh,⟨e1,eo⟩,λh' e k z=>q h' e (λc u hc y=>k c u hc y) z⟩))
end
theorem wo{prog:Program}{w:World}(b:Bool)(hh:A.handled=none)(it l:Addr)(cB:l≠it)(items:Array Value) :
  Draws prog w A it [it,l] items.size (λi v=>items[i]?=some v) (λi h=>iQ b h it l i∧kc b h l items):=by
 refine⟨λi h st=>⟨_,st.1⟩,λi h h' st k=>⟨k it (by simp) _ st.1,?_⟩,λi s Q E hi st q=>?_,λs Q E st q=>Wa hh st.1 st.2 (by simp) q⟩
 ·obtain⟨o,n,eo,r⟩:=st.2;exact⟨o,n,k l (by simp) o eo,r⟩
 ·have hx:items[i]?=some items[i]:=by simp[hi]
  refine V9 st.1 st.2 hx λh' e1 sb=>q _ h' s.toks hx ⟨e1,?_⟩ sb;obtain⟨o,n,eo,r⟩:=st.2;exact⟨o,n,(sb.2 l cB).trans eo,r⟩
structure Gv(z TI TO i1 i2:Addr)(qW qX:List Addr):Prop where
 M5:TI≠z
 sx:TO≠z
 BV:i1≠z
 Gw:i2≠z
 Wb:TI≠TO
 Wc:TI≠i1
 Wd:TI≠i2
 M6:TO≠i1
 We:TO≠i2
 M7:i1≠i2
 fz:z ∉ qW∧z ∉ qX
 fO:TO ∉ qW∧TO ∉ qX
 f2:i2 ∉ qW
 f1:i1 ∉ qX
section
variable{prog:Program}{w:World}{A:Around}{E:QV}{z TI TO i1 i2:Addr}{qW qX:List Addr}{n1 n2 k:Nat}{P1 P2:Nat→Value→Prop}{S1 S2:Nat→Heap→Prop}{a b:Value}
theorem Draws.but{fp:List Addr}{P:Nat→Value→Prop}{St:Nat→Heap→Prop}(D:PySem.Draws prog w A it fp n P St){k:Nat}(x:St k h)(hc:c ∉ fp)(sb:Heap.SameBut c h h'):St k h':=
 D.frame _ _ _ x λb hb o e=>(sb.2 b λz=>hc (z▸hb)).trans e
def M8(z TO i1 i2:Addr)(h h':Heap):Prop:=∀c o,c≠z→c≠TO→c≠i1→c≠i2→h.get? c=some o→h'.get? c=some o
set_option maxHeartbeats 2000000 in
theorem Wf(D1:PySem.Draws prog w A i1 qW n1 P1 S1)(D2:PySem.Draws prog w A i2 qX n2 P2 S2)(D:Gv z TI TO i1 i2 qW qX)
  (hz:IsZip s.heap z TI TO .none) (hT:IsPair s.heap TI (.ref i1) (.ref i2)) (hO:IsPair s.heap TO a b) (h1:S1 k s.heap) (h2:S2 k s.heap) (l1:k<n1) (l2:k<n2)
  (q:∀x y h' t,P1 k x→P2 k y→IsZip h' z TI TO (rawInt s.heap.objs.size)→IsPair h' TO x y→S1 (k+1) h'→S2 (k+1) h'→IsPair h' s.heap.objs.size x y→h'.objs.size=s.heap.objs.size+1→M8 z TO i1 i2 s.heap h'→
   Q (.ref s.heap.objs.size) { s with heap:=h',toks:=t }):wpAny (model prog w) A (Builtin.«zip.__next__» ⟨[.ref z],[]⟩) (λfin s'=>∃v,fin=.done (.ret v)∧Q v s') E s:=by
 obtain⟨h,g,dr,tk,os⟩:=s;have yJ:h.get? z=some _:=hz;have Wg:h.get? TI=some _:=hT;wp_walk using wpAny_onRaise,D1.item k _ _ _ l1
 ·exact Draws.but D1 h1 D.fz.1 (pF ..)
 intro x ha ta p1 sa ka;replace ka:Heap.SameBut i1 (h.update z _) ha:=ka;have zz:=pF h z (Obj.mapFields λvs=>vs.setIfInBounds 0 Value.ellipsis);have BW:ha.get? TO=some _:=((ka.2 TO D.M6).trans (zz.2 TO D.sx)).trans hO;have tt:=pF ha TO (Obj.mapSeq λvs=>vs.setIfInBounds 0 x);wp_walk using wpAny_onRaise,wpAny_updateSeq BW rfl,D2.item k _ _ _ l2
 all_goals try exact Draws.but D2 (Draws.but D2 (Draws.but D2 h2 D.fz.2 zz) D.f1 ka) D.fO.2 tt
 intro y hb tb p2 sb kb;replace kb:Heap.SameBut i2 (ha.update TO _) hb:=kb;have M9:hb.get? TO=some { cls:=.type "tuple",data:=.seq #[x,b] }:=by
  rw[kb.2 TO D.We,vM _ BW rfl];simp[Obj.mapSeq]
 have Wh:hb.get? z=some { cls:=.type "zip",dict:=none,data:=.fields #[.ellipsis,.bool false,.bool false,.ref TI,.ref TO],slots:=#[] }:=by
  rw[kb.2 z D.Gw.symm,tt.2 z D.sx.symm,ka.2 z D.BV.symm,vM _ yJ rfl];simp[Obj.mapFields]
 have nz:TO≠z:=D.sx;wp_walk using wpAny_updateSeq M9 rfl
 refine⟨_,rfl,?_⟩;dsimp only;have sz:hb.objs.size=h.objs.size:=by rw[kb.1,tt.1,ka.1,zz.1]
 have uu:=pF hb TO (Obj.mapSeq λvs=>vs.setIfInBounds (0+1) y);have Na:(hb.update TO (Obj.mapSeq λvs=>vs.setIfInBounds (0+1) y)).get? TO=some { cls:=.type "tuple",data:=.seq #[x,y] }:=by
  rw[vM _ M9 rfl];simp[Obj.mapSeq]
 have ex:(#[x,b].setIfInBounds (0+1) y).toList.toArray=#[x,y]:=by simp
 rw[ex];generalize hb.update TO (Obj.mapSeq λvs=>vs.setIfInBounds (0+1) y)=hc at uu Na ⊢;have Wi:hc.objs.size=h.objs.size:=uu.1.trans sz;have new:=iW hc (o:={ cls:=.type "tuple",data:=.seq #[x,y] }) rfl;have Gx:=oK hc { cls:=.type "tuple",data:=.seq #[x,y] };have old:∀c o,hc.get? c=some o→(hc.push { cls:=.type "tuple",data:=.seq #[x,y] }).get? c=some o:=λc o e=>dX _ e;rw[Wi]at new Gx ⊢;generalize hc.push { cls:=.type "tuple",data:=.seq #[x,y] }=hp at new Gx old ⊢;have Wj:=old z _ ((uu.2 z D.sx.symm).trans Wh);have v1:=pF hp z (Obj.mapFields λvs=>vs.setIfInBounds 0 (rawInt h.objs.size));have v2:=pF (hp.update z (Obj.mapFields λvs=>vs.setIfInBounds 0 (rawInt h.objs.size))) z (Obj.mapFields λvs=>vs.setIfInBounds 1 (Value.bool false));have Nb:((hp.update z (Obj.mapFields λvs=>vs.setIfInBounds 0 (rawInt h.objs.size))).update z (Obj.mapFields λvs=>vs.setIfInBounds 1 (Value.bool false))).get? z=some { cls:=.type "zip",dict:=none,data:=.fields #[rawInt h.objs.size,.bool false,.bool false,.ref TI,.ref TO],slots:=#[] }:=by
  rw[vM _ (vM _ Wj rfl) rfl];simp[Obj.mapFields]
 have fwd:∀c o,c≠z→hc.get? c=some o→((hp.update z (Obj.mapFields λvs=>vs.setIfInBounds 0 (rawInt h.objs.size))).update z (Obj.mapFields λvs=>vs.setIfInBounds 1 (Value.bool false))).get? c=some o:=λc o ne e=>((v2.2 c ne).trans (v1.2 c ne)).trans (old c o e);have Nc:=(v2.1.trans v1.1).trans Gx;have Nd:=((v2.2 h.objs.size (Nat.ne_of_gt (dN yJ))).trans (v1.2 h.objs.size (Nat.ne_of_gt (dN yJ)))).trans new;generalize (hp.update z (Obj.mapFields λvs=>vs.setIfInBounds 0 (rawInt h.objs.size))).update z (Obj.mapFields λvs=>vs.setIfInBounds 1 (Value.bool false))=hF at Nb fwd Nc Nd ⊢;refine q x y hF tb p1 p2 Nb (fwd TO _ D.sx Na) (D1.frame _ _ _ (Draws.but D1 (Draws.but D1 (Draws.but D1 sa D.fO.1 tt) D.f2 kb) D.fO.1 uu) λc hm o e=>fwd c o (λj=>D.fz.1 (j▸hm)) e)
  (D2.frame _ _ _ (Draws.but D2 sb D.fO.2 uu) λc hm o e=>fwd c o (λj=>D.fz.2 (j▸hm)) e) Nd Nc λc o n1 n2 n3 n4 e=>fwd c o n1 ?_
 rw[uu.2 c n2,kb.2 c n4,tt.2 c n2,ka.2 c n3,zz.2 c n1];exact e
end
section
variable{prog:Program}{w:World}{A:Around}{E:QV}{z TI TO i1 i2:Addr}{qW qX:List Addr}{n1 n2 k:Nat}{P1 P2:Nat→Value→Prop}{S1 S2:Nat→Heap→Prop}{a b:Value}
set_option maxHeartbeats 2000000 in
theorem Wk{Q:Fin→Shared→Prop}(D1:PySem.Draws prog w A i1 qW n1 P1 S1)(D2:PySem.Draws prog w A i2 qX n2 P2 S2)(D:Gv z TI TO i1 i2 qW qX)
  (hz:IsZip s.heap z TI TO .none) (hT:IsPair s.heap TI (.ref i1) (.ref i2)) (hO:IsPair s.heap TO a b) (h1:S1 k s.heap) (h2:S2 k s.heap) (Wl:k=n1∨(k<n1∧k=n2))
  (q:∀h' e t,M8 z TO i1 i2 s.heap h'→(∃o,h'.get? e=some o∧o.cls=.type "StopIteration")→E (.ref e) { s with heap:=h',toks:=t }):wpAny (model prog w) A (Builtin.«zip.__next__» ⟨[.ref z],[]⟩) Q E s:=by
 obtain⟨h,g,dr,tk,os⟩:=s;have yJ:h.get? z=some _:=hz;have Wg:h.get? TI=some _:=hT;have zz:=pF h z (Obj.mapFields λvs=>vs.setIfInBounds 0 Value.ellipsis);have Nf:(h.update z (Obj.mapFields λvs=>vs.setIfInBounds 0 Value.ellipsis)).get? z=some { cls:=.type "zip",dict:=none,data:=.fields #[.ellipsis,.bool false,.bool false,.ref TI,.ref TO],slots:=#[] }:=by
  rw[vM _ yJ rfl];simp[Obj.mapFields]
 rcases Wl with rfl|⟨l1,rfl⟩
 ·wp_walk using wpAny_onRaise,D1.done
  all_goals try exact Draws.but D1 h1 D.fz.1 zz
  intro hx e kx ⟨oe,xe,xc⟩;have Gy:hx.get? z=some _:=kx z _ D.BV.symm Nf;have Gz:e≠z:=λy=>by
   subst y;rw[Gy]at xe;cases xe;simp at xc
  wp_walk
  have vv:=pF hx z (Obj.mapFields λvs=>vs.setIfInBounds 0 Value.none);exact q _ e _ (λc o m1 m2 m3 m4 y=>(vv.2 c m1).trans (kx c o m3 ((zz.2 c m1).trans y))) ⟨oe,(vv.2 e Gz).trans xe,xc⟩
 ·wp_walk using wpAny_onRaise,D1.item k _ _ _ l1
  all_goals try exact Draws.but D1 h1 D.fz.1 zz
  intro x ha ta p1 sa ka;replace ka:Heap.SameBut i1 (h.update z _) ha:=ka;have BW:ha.get? TO=some _:=((ka.2 TO D.M6).trans (zz.2 TO D.sx)).trans hO;have tt:=pF ha TO (Obj.mapSeq λvs=>vs.setIfInBounds 0 x);wp_walk using wpAny_onRaise,wpAny_updateSeq BW rfl,D2.done
  all_goals try exact Draws.but D2 (Draws.but D2 (Draws.but D2 h2 D.fz.2 zz) D.f1 ka) D.fO.2 tt
  intro hx e kx ⟨oe,xe,xc⟩;replace kx:Heap.ExtBut i2 (ha.update TO _) hx:=kx;have Gy:hx.get? z=some _:=kx z _ D.Gw.symm ((tt.2 z D.sx.symm).trans ((ka.2 z D.BV.symm).trans Nf));have Gz:e≠z:=λy=>by
   subst y;rw[Gy]at xe;cases xe;simp at xc
  wp_walk
  have vv:=pF hx z (Obj.mapFields λvs=>vs.setIfInBounds 0 Value.none);exact q _ e _ (λc o m1 m2 m3 m4 y=>(vv.2 c m1).trans (kx c o m4 ((tt.2 c m2).trans ((ka.2 c m3).trans ((zz.2 c m1).trans y))))) ⟨oe,(vv.2 e Gz).trans xe,xc⟩
end
def Sq(b:Bool)(K:Frag)(H:Hp)(a:Addr)(xs:List V):Prop:=match b with
 |true=>dw K H a xs
 |false=>bh K H a xs
theorem Inv.sq{σ:St}(I:Inv X aH σ H s)(h:Sq b X.K H a xs):∃its:List Value,Vals xs its∧kc b s.heap a its.toArray∧xs.length≤sizeLine:=by
 cases b with
 |true=>
  obtain⟨its,rv,p,hz⟩:=I.list h;obtain⟨o,eo,ec,n,ed⟩:=p.isList;exact⟨its,rv,⟨o,n,eo,ec,ed⟩,hz⟩
 |false=>
  obtain⟨its,rv,⟨o,eo,ec,n,ed⟩,hz⟩:=I.tuple h;exact⟨its,rv,⟨o,n,eo,ec,ed⟩,hz⟩
theorem Inv.GG{σ:St}{ys:List V}(I:Inv X aH σ H s)(h:Sq b X.K H a xs)(h':Sq b X.K H a ys):xs=ys:=by
 cases b with
 |true=>exact I.LX h h'
 |false=>exact I.LY h h'
theorem iQ.up(x:iQ b h it a i)(k:∀o,h.get? it=some o→h'.get? it=some o):iQ b h' it a i:=k _ x
theorem iQ.obj(x:iQ b h it a i):∃o,h.get? it=some o∧∀v,o.data≠.cell v:=⟨_,x,λv z=>by cases z⟩
theorem kc.obj(x:kc b h a its):∃o,h.get? a=some o:=let ⟨o,_,e,_⟩:=x;⟨o,e⟩
section
variable{X:Cx}{aH:List (Addr×Obj)}{σ:St}{H:Hp}{s:Shared}{h':Heap}
theorem Inv.BX{t':Nat}{ch:List Addr}(I:Inv X aH σ H s)(k:∀b o,b ∉ ch→s.heap.get? b=some o→h'.get? b=some o)(hf:∀b∈ch,j5 X aH H b):Inv X aH σ H { s with heap:=h',toks:=t' }:=by
 have yd:∀b u,H b=some u→b ∉ ch:=λb u e z=>by rw[(hf b z).1]at e;cases e
 refine I.step (g':=s.gens) (d':=s.drawn) (ch:=ch) (λb hb=>⟨(hf b hb).2.2.2.1,(hf b hb).2.1,(hf b hb).2.2.2.2.1,(hf b hb).2.2.2.2.2⟩) (λb o _ _ hc e _=>k b o hc e) (λb o _ _ hc e _=>⟨o.slots,k b o hc e⟩) (λ_ _ _ _ n=>n)
  (λb o hc e=>⟨o,k b o hc e⟩) (λ_ _ e=>e) (λ_ _ _ e=>e) (λb ps e=>⟨#[],by rw[e];simp⟩) (λm hm=>?_) (λb u e=>?_) I.bare
 ·obtain⟨o,es,ep,ho,r⟩:=hm;exact⟨o,es,ep,k _ o (λz=>(hf _ z).2.1 rfl) ho,r⟩
 ·refine(I.bH b u e).oR (λc v hc q=>k c v ?_ q) (λ_ q=>q) λ_ _ q=>q;rcases hc with z|z
  ·rw[z];exact yd b u e
  ·exact yd c _ z
theorem Inv.Ng{o:HO}(I:Inv X aH σ H s)(f:j5 X aH H p)(new:eC X.prog X.w (upd H p o) s.heap p o):Inv X aH σ (upd H p o) s:=by
 have hp:=f.1;refine I.step (g':=s.gens) (d':=s.drawn) (t':=s.toks) (h':=s.heap) (ch:=[p]) (λb hb=>?_) (λb o _ _ _ e _=>e) (λb o _ _ _ e _=>⟨o.slots,e⟩) (λb o hc e n=>?_)
  (λb o _ e=>⟨o,e⟩) (λb xs e=>by rw[bZ (eQ e hp)];exact e) (λb o u e=>by rw[bZ (eQ e hp)];exact e) (λb ps e=>⟨#[],by rw[bZ (eQ e hp),e];simp⟩) (λm hm=>hm) (λb u e=>?_) I.bare
 ·have e:=cQ.mp hb;subst e;exact⟨f.2.2.2.1,f.2.1,f.2.2.2.2.1,f.2.2.2.2.2⟩
 ·rw[bZ (λz=>hc (by rw[z];exact cQ.mpr rfl))];exact n
 ·by_cases hb:b=p
  ·subst hb;rw[aX]at e;cases e;exact new
  ·rw[bZ hb]at e;exact(I.bH b u e).oR (λc v _ q=>q) (λc q=>by rw[bZ (eQ q hp)];exact q) λc xs q=>by rw[bZ (eQ q hp)];exact q
end
section
variable{prog:Program}{w:World}{A:Around}{E:QV}{s:Shared}
theorem Nh{T id:String}{Q:Option Value→Shared→Prop}(ty:s.TypeIs v T)(sl:Slot T (Str.ofString "__next__") id)
  (h:wpAny (model prog w) A (call (.builtin id) [v]) (λx s'=>Q (some x) s') (λe s'=>∃c o,e=.ref c∧s'.heap.get? c=some o∧o.cls=.type "StopIteration"∧Q none s') s):wpAny (model prog w) A (pyNext v) Q E s:=by
 unfold pyNext;refine ak (wpAny_attempt (ay ty sl (ag h (λx s' y=>aq y) λe s' y=>?_)));obtain⟨c,o,rfl,e1,e2,y⟩:=y;exact ak (wpAny_isInstance (b:=true) ⟨o,e1,e2⟩ isSubtype_stop (aq y))
theorem wq(b:Bool)(e:kc b s.heap a its)(q:Q (.ref s.heap.objs.size) { s with heap:=s.heap.push (lH b a 0) }):wpAny (model prog w) A (pyIter (.ref a)) Q E s:=by
 obtain⟨o,n,eo,ec,ed⟩:=e;cases b
 ·exact wpAny_pyIter_tuple ⟨o,eo,ec,n,ed⟩ q
 ·exact wpAny_pyIter_list ⟨o,eo,ec,n,ed⟩ q
end
structure Ni(b1 b2:Bool)(l1 l2:Addr)(h h':Heap):Prop where
 zip:IsZip h' (h.objs.size+4) (h.objs.size+2) (h.objs.size+3) .none
 Wm:IsPair h' (h.objs.size+2) (.ref h.objs.size) (.ref (h.objs.size+1))
 out:IsPair h' (h.objs.size+3) .none .none
 one:iQ b1 h' h.objs.size l1 0
 two:iQ b2 h' (h.objs.size+1) l2 0
 old:∀c o,h.get? c=some o→h'.get? c=some o
theorem kc.up(x:kc b h a its)(k:∀o,h.get? a=some o→h'.get? a=some o):kc b h' a its:=by
 obtain⟨o,n,eo,r⟩:=x;exact⟨o,n,k o eo,r⟩
theorem Wn(b1 b2:Bool)(l1 l2:Addr)(xs ys:Array Value) :
  Meets (Builtin.«zip.__new__» ⟨[.type "zip",.ref l1,.ref l2],[]⟩) (λ_ R s=>(kc b1 s.heap l1 xs∧kc b2 s.heap l2 ys)∧
   ∀h',Ni b1 b2 l1 l2 s.heap h'→R (.ok (.ret (.ref (s.heap.objs.size+4)))) { s with heap:=h' }):=
 .of_wp λprog w A R s hyp=>by
  obtain⟨h,g,dr,tk,os⟩:=s;obtain⟨⟨q1,q2⟩,fin⟩:=hyp;have sub:=sub_zip;have Wo:kc b2 (Shared.mk (h.push (lH b1 l1 0)) g dr tk os).heap l2 ys:=q2.up λo e=>dX _ e;wp_walk using wq b1 q1,wq b2 Wo
  dsimp only;have z1:=oK h (lH b1 l1 0);generalize e1:h.push (lH b1 l1 0)=ha at *;have z2:=oK ha (lH b2 l2 0);generalize e2:ha.push (lH b2 l2 0)=hb at *;generalize e3:hb.push _=hc;have z3:hc.objs.size=hb.objs.size+1:=by rw[← e3];exact oK ..
  generalize e4:hc.push _=hd;have z4:hd.objs.size=hc.objs.size+1:=by rw[← e4];exact oK ..
  rw[z1]at z2;rw[z2]at z3;rw[z3]at z4;have a1:ha.get? h.objs.size=some (lH b1 l1 0):=by rw[← e1];exact iW _ rfl
  have a2:hb.get? (h.objs.size+1)=some (lH b2 l2 0):=by rw[← e2,← z1];exact iW _ rfl
  have a3:hc.get? (h.objs.size+2)=some { cls:=.type "tuple",data:=.seq #[.ref h.objs.size,.ref (h.objs.size+1)] }:=by
   rw[← e3,← z2,← z1];exact iW _ rfl
  have a4:hd.get? (h.objs.size+3)=some { cls:=.type "tuple",data:=.seq #[.none,.none] }:=by
   rw[← e4,← z3];exact iW _ rfl
  have u1:∀c o,h.get? c=some o→ha.get? c=some o:=λc o y=>by rw[← e1];exact dX _ y
  have u2:∀c o,ha.get? c=some o→hb.get? c=some o:=λc o y=>by rw[← e2];exact dX _ y
  have u3:∀c o,hb.get? c=some o→hc.get? c=some o:=λc o y=>by rw[← e3];exact dX _ y
  have u4:∀c o,hc.get? c=some o→hd.get? c=some o:=λc o y=>by rw[← e4];exact dX _ y
  have u5:∀(r:Obj) c o,hd.get? c=some o→(hd.push r).get? c=some o:=λr c o y=>dX _ y;rw[z2,z3,z4];refine⟨_,rfl,fin _ ⟨?_,u5 _ _ _ (u4 _ _ a3),u5 _ _ _ a4,u5 _ _ _ (u4 _ _ (u3 _ _ (u2 _ _ a1))),u5 _ _ _ (u4 _ _ (u3 _ _ a2)),λc o y=>u5 _ _ _ (u4 _ _ (u3 _ _ (u2 _ _ (u1 _ _ y))))⟩⟩;rw[← z4];exact iW _ rfl
theorem Wq(b:Bool)(l:Addr)(xs:Array Value)(o:Obj)(n:Nat)(ec:o.cls=.type (M4 b))(ed:o.data=.seq xs n) :
  Meets (Builtin.«enumerate.__new__» ⟨[.type "enumerate",.ref l],[]⟩) (λ_ R s=>s.heap.get? l=some o∧
   ∀h',IsEnum h' (s.heap.objs.size+1) s.heap.objs.size 0 .none→iQ b h' s.heap.objs.size l 0→(∀c o,s.heap.get? c=some o→h'.get? c=some o)→R (.ok (.ret (.ref (s.heap.objs.size+1)))) { s with heap:=h' }):=
 .of_wp λprog w A R s hyp=>by
  obtain⟨h,g,dr,tk,os⟩:=s;obtain⟨e1,fin⟩:=hyp;have sub:=sub_enumerate;have q1:kc b (Shared.mk h g dr tk os).heap l xs:=⟨o,n,e1,ec,ed⟩;have done:∀(e:Addr)(r:Obj),r={ cls:=.type "enumerate",data:=.fields #[.none,.bool false,.ref h.objs.size,rawInt 0,.none,.none] }→e=h.objs.size+1→R (.ok (.ret (.ref e))) (Shared.mk ((h.push (lH b l 0)).push r) g dr tk os):=by
   rintro e r rfl rfl;refine fin _ ?_ (dX _ (iW _ rfl)) λc o y=>dX _ (dX _ y);have z1:=oK h (lH b l 0);show Heap.get? _ (h.objs.size+1)=_;rw[← z1];exact iW _ rfl
  wp_walk using wq b q1
  refine wpAny_stack_any λst=>?_;wp_walk
  split
  ·rename_i c _ _ _ _ _
   rcases Bool.eq_false_or_eq_true (c==Value.type "enumerate")with y|y
   ·rw[y];wp_walk using wq b q1
    exact⟨_,rfl,done _ _ rfl (oK ..)⟩
   ·rw[y];wp_walk using wq b q1
    exact⟨_,rfl,done _ _ rfl (oK ..)⟩
  ·wp_walk using wq b q1
   exact⟨_,rfl,done _ _ rfl (oK ..)⟩
section
variable{prog:Program}{w:World}{A:Around}{E:QV}{s:Shared}
theorem Wr(b1 b2:Bool){l1 l2:Addr}{xs ys:Array Value}(q1:kc b1 s.heap l1 xs)(q2:kc b2 s.heap l2 ys)
  (q:∀h',Ni b1 b2 l1 l2 s.heap h'→Q (.ref (s.heap.objs.size+4)) { s with heap:=h' }):wpAny (model prog w) A (call (.type "zip") [.ref l1,.ref l2]) Q E s:=
 callType_new F.called_zip (by decide) (F.typeCall_zip_2 _ _) (F.newCall_zip_2 _ _) (λv=>F.args_object_init_3 v _ _) F.entry_zip_new (Wn b1 b2 l1 l2 xs ys) ⟨⟨q1,q2⟩,λh' N=>⟨⟨_,N.zip,rfl⟩,q h' N⟩⟩
theorem Ws(b:Bool){xs:Array Value}(q1:kc b s.heap l xs)
  (q:∀h',IsEnum h' (s.heap.objs.size+1) s.heap.objs.size 0 .none→iQ b h' s.heap.objs.size l 0→(∀c o,s.heap.get? c=some o→h'.get? c=some o)→Q (.ref (s.heap.objs.size+1)) { s with heap:=h' }):wpAny (model prog w) A (call (.type "enumerate") [.ref l]) Q E s:=by
 obtain⟨o,n,eo,ec,ed⟩:=q1;exact callType_new F.called_enumerate (by decide) (F.typeCall_enumerate_1 _) (F.newCall_enumerate_1 _) (λv=>F.args_object_init_2 v _) F.entry_enumerate_new (Wq b l xs o n ec ed) ⟨eo,λh' a1 a2 a3=>⟨⟨_,a1,rfl⟩,q h' a1 a2 a3⟩⟩
end
noncomputable def wu(K:Frag)(b1 b2:Bool)(l1 l2:Addr):It:=
 ⟨λi H=>∃xs ys x y,Sq b1 K H l1 xs∧Sq b2 K H l2 ys∧xs[i]?=some x∧ys[i]?=some y,
   λi H v H'=>∃p x y,v=.ref p∧H p=none∧H'=upd H p (.tup [x,y])∧(∀xs,Sq b1 K H l1 xs→xs[i]?=some x)∧∀ys,Sq b2 K H l2 ys→ys[i]?=some y,
   λi H=>∃xs ys,Sq b1 K H l1 xs∧Sq b2 K H l2 ys∧(i=xs.length∨(i<xs.length∧i=ys.length))⟩
noncomputable def yM(K:Frag)(b:Bool)(l:Addr):It:=
 ⟨λi H=>∃xs x,Sq b K H l xs∧xs[i]?=some x,
   λi H v H'=>∃p x,v=.ref p∧H p=none∧H'=upd H p (.tup [.int i,x])∧∀xs,Sq b K H l xs→xs[i]?=some x,
   λi H=>∃xs,Sq b K H l xs∧i=xs.length⟩
theorem Nj{P:Program}{w:World}{x y:V}{u:Value}(hp:IsPair h p u v)(rx:RelV x u)(ry:RelV y v):eC P w H h p (.tup [x,y]):=
 ⟨by show 2≤sizeLine;decide,[u,v],.cons rx (.cons ry .nil),_,hp,rfl,rfl,_,rfl⟩
structure Wt(z TI TO i1 i2 l1 l2:Addr):Prop where
 sep:Gv z TI TO i1 i2 [i1,l1] [i2,l2]
 n1:l1≠i1
 n2:l2≠i2
theorem Wu{P:Program}{w:World}{K:Frag}{pt:Pos}(b1 b2:Bool){z TI TO i1 i2 l1 l2:Addr}(D:Wt z TI TO i1 i2 l1 l2) :
  Turn P w K (.Tuple es kt pt) (wu K b1 b2 l1 l2) [z,TI,TO,i1,i2] z (λi h=>IsZip h z TI TO .none∧IsPair h TI (.ref i1) (.ref i2)∧(∃a b,IsPair h TO a b)∧iQ b1 h i1 l1 i∧iQ b2 h i2 l2 i) where
 mem:=by simp
 obj:=λi h st b hb=>by
  obtain⟨hz,qY,⟨a,c,sG⟩,h1,h2⟩:=st;simp only[cS,or_false,xS]at hb;rcases hb with rfl|rfl|rfl|rfl|rfl
  ·exact⟨_,hz,λv q=>by cases q⟩
  ·exact⟨_,qY,λv q=>by cases q⟩
  ·exact⟨_,sG,λv q=>by cases q⟩
  ·exact h1.obj
  ·exact h2.obj
 keep:=λi h h' st k=>by
  obtain⟨hz,qY,⟨a,c,sG⟩,h1,h2⟩:=st;exact⟨k z (by simp) _ hz,k TI (by simp) _ qY,⟨a,c,k TO (by simp) _ sG⟩,h1.up λo e=>k i1 (by simp) o e,h2.up λo e=>k i2 (by simp) o e⟩
 item:=by
  intro X hP hw hK hc i aH s σ H E I hf st hg;subst hP hw hK;obtain⟨hz,qY,⟨ta,tb,sG⟩,h1,h2⟩:=st;obtain⟨xs,ys,x,y,ny,iB,hx,hy⟩:=hg;obtain⟨mv,qZ,p1,yN⟩:=I.sq ny;obtain⟨wx,BY,p2,Nk⟩:=I.sq iB;obtain⟨u,hu,ru⟩:=qZ.get hx;obtain⟨v,hv,rv⟩:=BY.get hy;have lx:i<mv.toArray.size:=by rw[dE];exact(dO.mp hu).1
  have ly:i<wx.toArray.size:=by rw[dE];exact(dO.mp hv).1
  have hh:X.A.in1.handled=none:=I.ok.hd hc;have Wv:z<s.heap.objs.size:=dN hz;refine Nh ⟨_,hz,rfl⟩ F.slot_zip_next (az F.slot_zip_next ⟨_,hz,rfl⟩ F.entry_zip_next (Wf (wo b1 hh i1 l1 D.n1 mv.toArray) (wo b2 hh i2 l2 D.n2 wx.toArray) D.sep hz qY sG ⟨h1,p1⟩ ⟨h2,p2⟩ lx ly λu' v' h' tk e1 e2 a1 a2 a3 a4 a5 a6 hk=>?_) (F.args_zip_next_1 _));have eu:u'=u:=by
   have yO:mv.toArray[i]?=some u':=e1;rw[List.getElem?_toArray,hu]at yO;exact(cN yO).symm
  have ev:v'=v:=by
   have Nl:wx.toArray[i]?=some v':=e2;rw[List.getElem?_toArray,hv]at Nl;exact(cN Nl).symm
  subst eu ev;refine⟨_,rfl,wpAny_letOwnedTupleGo_zip a1 λnZ Ww sb=>?_⟩;have hU:∀b o,b ∉ [z,TI,TO,i1,i2]→s.heap.get? b=some o→nZ.get? b=some o:=λb o hb e=>by
   have:b≠z∧b≠TI∧b≠TO∧b≠i1∧b≠i2:=by simpa using hb
   exact(sb.2 b this.1).trans (hk b o this.1 this.2.2.1 this.2.2.2.1 this.2.2.2.2 e)
  have I1:Inv X aH σ H { s with heap:=nZ,toks:=tk }:=I.BX hU hf;have Wx:s.heap.objs.size≠z:=Nat.ne_of_gt Wv;have yQ:IsPair nZ s.heap.objs.size u' v':=(sb.2 _ Wx).trans a5;have fp:j5 X aH H s.heap.objs.size:=I.pQ (cf _) (I.bH.fresh (cf _));have I2:=I1.Ng (o:=.tup [x,y]) fp (Nj yQ ru rv);have up:∀b,b≠z→∀o,h'.get? b=some o→nZ.get? b=some o:=λb hb o e=>(sb.2 b hb).trans e;refine⟨.ref s.heap.objs.size,_,I2,rfl,⟨_,x,y,rfl,fp.1,rfl,λWy q=>by rw[I.GG q ny];exact hx,λys' q=>by rw[I.GG q iB];exact hy⟩,⟨Ww,up _ D.sep.M5 _ (hk _ _ D.sep.M5 D.sep.Wb D.sep.Wc D.sep.Wd qY),⟨_,_,up _ D.sep.sx _ a2⟩,a3.1.up λo e=>up _ D.sep.BV o e,a4.1.up λo e=>up _ D.sep.Gw o e⟩,λb hb=>?_⟩;rw[bZ]
  ·exact(hf b hb).1
  ·obtain⟨o,e⟩:∃o,s.heap.get? b=some o:=by
    simp only[cS,or_false,xS]at hb;rcases hb with rfl|rfl|rfl|rfl|rfl
    ·exact⟨_,hz⟩
    ·exact⟨_,qY⟩
    ·exact⟨_,sG⟩
    ·exact⟨_,h1.obj.choose_spec.1⟩
    ·exact⟨_,h2.obj.choose_spec.1⟩
   exact gU (dN e)
 done:=by
  intro X hP hw hK hc i aH s σ H E I hf st hg;subst hP hw hK;obtain⟨hz,qY,⟨ta,tb,sG⟩,h1,h2⟩:=st;obtain⟨xs,ys,ny,iB,hx⟩:=hg;obtain⟨mv,qZ,p1,yN⟩:=I.sq ny;obtain⟨wx,BY,p2,Nk⟩:=I.sq iB;have hh:X.A.in1.handled=none:=I.ok.hd hc;have Wz:=qZ.length;have ll2:=BY.length;refine Nh ⟨_,hz,rfl⟩ F.slot_zip_next (az F.slot_zip_next ⟨_,hz,rfl⟩ F.entry_zip_next (Wk (wo b1 hh i1 l1 D.n1 mv.toArray) (wo b2 hh i2 l2 D.n2 wx.toArray) D.sep hz qY sG ⟨h1,p1⟩ ⟨h2,p2⟩ ?_ λh' e tk hk ⟨o,e1,e2⟩=>⟨e,o,rfl,e1,e2,?_⟩) (F.args_zip_next_1 _))
  ·rw[dE,dE];lia
  ·refine⟨rfl,I.BX (λb o hb y=>?_) hf⟩
   have:b≠z∧b≠TI∧b≠TO∧b≠i1∧b≠i2:=by simpa using hb
   exact hk b o this.1 this.2.2.1 this.2.2.2.1 this.2.2.2.2 y
 self:=λ_ _ _ _ _ st h=>wpAny_pyIter_zip st.1 h
theorem WA{e:Addr}(x:IsEnum h e it ((i:Int)+1) v):IsEnum h e it (((i+1:Nat)):Int) v:=x
theorem kd(i j:Nat)(h:i≠j:=by decide):@Ne Addr (n+i) (n+j):=λz=>h (Nat.add_left_cancel z)
theorem sH(i:Nat)(h:l<n):@Ne Addr (n+i) l:=Nat.ne_of_gt (ji h (nQ n i))
theorem wy{b:Addr}(h1:a≠b)(h2:a≠c):a ∉ [b,c]:=by simp[h1,h2]
theorem WB{P:Program}{w:World}{K:Frag}{pt:Pos}(b:Bool){e:Addr}(GH:e≠it)(wz:l≠e)(wA:l≠it) :
  Turn P w K (.Tuple es kt pt) (yM K b l) [e,it] e (λi h=>(∃old,IsEnum h e it i old)∧iQ b h it l i) where
 mem:=by simp
 obj:=λi h st c hc=>by
  obtain⟨⟨old,he⟩,h1⟩:=st;simp only[cS,xS,or_false]at hc;rcases hc with rfl|rfl
  ·exact⟨_,he,λv q=>by cases q⟩
  ·exact h1.obj
 keep:=λi h h' st k=>by
  obtain⟨⟨old,he⟩,h1⟩:=st;exact⟨⟨old,k e (by simp) _ he⟩,h1.up λo q=>k it (by simp) o q⟩
 item:=by
  intro X hP hw hK hc i aH s σ H E I hf st hg;subst hP hw hK;obtain⟨⟨old,he⟩,h1⟩:=st;obtain⟨xs,x,hq,hx⟩:=hg;obtain⟨mv,qZ,p1,yN⟩:=I.sq hq;obtain⟨u,hu,ru⟩:=qZ.get hx;have lx:i<mv.toArray.size:=by rw[dE];exact(dO.mp hu).1
  have hh:X.A.in1.handled=none:=I.ok.hd hc;have WC:e<s.heap.objs.size:=dN he;refine wpAny_pyNext_enum_itemD (wo b hh it l wA mv.toArray) he ⟨h1,p1⟩ lx GH (by simp;exact⟨GH,wz.symm⟩) λu' h' tk e1 a1 a2 a3 a4 hk=>?_;have eu:u'=u:=by
   have yO:mv.toArray[i]?=some u':=e1;rw[List.getElem?_toArray,hu]at yO;exact(cN yO).symm
  subst eu;refine⟨_,rfl,wpAny_letOwnedTupleGo_enum a1 λnZ WD sb=>?_⟩;have hU:∀c o,c ∉ [e,it]→s.heap.get? c=some o→nZ.get? c=some o:=λc o hc q=>by
   have:c≠e∧c≠it:=by simpa using hc
   exact(sb.2 c this.1).trans (hk c o this.1 this.2 q)
  have I1:Inv X aH σ H { s with heap:=nZ,toks:=tk+1 }:=I.BX hU hf;have WE:s.heap.objs.size≠e:=Nat.ne_of_gt WC;have yQ:IsPair nZ s.heap.objs.size (.int i tk) u':=(sb.2 _ WE).trans a3;have fp:j5 X aH H s.heap.objs.size:=I.pQ (cf _) (I.bH.fresh (cf _));have I2:=I1.Ng (o:=.tup [.int i,x]) fp (Nj yQ ⟨tk,rfl⟩ ru);refine⟨.ref s.heap.objs.size,_,I2,rfl,⟨_,x,rfl,fp.1,rfl,λWy q=>by rw[I.GG q hq];exact hx⟩,⟨⟨u',WA WD⟩,a2.1.up λo q=>(sb.2 it GH.symm).trans q⟩,λc hc=>?_⟩;rw[bZ]
  ·exact(hf c hc).1
  ·obtain⟨o,q⟩:∃o,s.heap.get? c=some o:=by
    simp only[cS,xS,or_false]at hc;rcases hc with rfl|rfl
    ·exact⟨_,he⟩
    ·exact⟨_,h1.obj.choose_spec.1⟩
   exact gU (dN q)
 done:=by
  intro X hP hw hK hc i aH s σ H E I hf st hg;subst hP hw hK;obtain⟨⟨old,he⟩,h1⟩:=st;obtain⟨xs,hq,hx⟩:=hg;obtain⟨mv,qZ,p1,yN⟩:=I.sq hq;have hh:X.A.in1.handled=none:=I.ok.hd hc;have Wz:=qZ.length;have hn:i=mv.toArray.size:=by rw[dE];lia
  refine wpAny_pyNext_enum_endD (wo b hh it l wA mv.toArray) he (hn▸⟨h1,p1⟩) λh' hk=>?_;refine⟨rfl,I.BX (t':=s.toks) (λc o hc q=>?_) hf⟩
  have:c≠e∧c≠it:=by simpa using hc
  exact hk c o this.2 q
 self:=λ_ _ _ _ _ st h=>wpAny_pyIter_enum st.1.choose_spec h
theorem WG:bootBuiltins "zip"=some (.type "zip"):=by decide +kernel
section
variable{X:Cx}
def Nm(K:Frag)(b1 b2:Bool)(t:TA):TI:=λσ H R=>t σ H λvs H1=>∃l1 l2,vs=[.ref l1,.ref l2]∧(∃xs,Sq b1 K H1 l1 xs)∧(∃ys,Sq b2 K H1 l2 ys)∧R (wu K b1 b2 l1 l2) H1
def Nn(K:Frag)(b:Bool)(t:TA):TI:=λσ H R=>t σ H λvs H1=>∃l,vs=[.ref l]∧(∃xs,Sq b K H1 l xs)∧R (yM K b l) H1
theorem WH(b1 b2:Bool){a b:Expr}{ta:TA}{p pos pt:Pos}(hg:Gl X "zip")(hm:X.mg "zip"=none)(ha:PA X [a,b] ta)(hs:starEach [a,b] X.env=[(false,eval a X.env),(false,eval b X.env)]:=by rfl)(hs2:starEach [b] X.env=[(false,eval b X.env)]:=by rfl) :
  PI X (.Tuple es kt pt) (.Call (.Name "zip" p) [a,b] [] pos) (Nm X.K b1 b2 ta):=by
 intro aH s σ H R I h;refine Call_ (sg I hg hm WG (Ba (bf (ha pos aH s σ H _ I h) λus s1 ⟨vs,H1,I1,r1,q1⟩=>?_) (by rw[hs,hs2]) (by rw[hs2];rfl)));obtain⟨l1,l2,e,⟨xs,ny⟩,⟨ys,iB⟩,q⟩:=q1;subst e;cases r1 with
 |cons r rr=>
  cases rr with
  |cons r' rr=>
   cases rr;cases r;cases r';obtain⟨mv,qZ,p1,yN⟩:=I1.sq ny;obtain⟨wx,BY,p2,Nk⟩:=I1.sq iB;have a1:l1<s1.heap.objs.size:=by obtain⟨_,e⟩:=p1.obj;exact dN e
   have a2:l2<s1.heap.objs.size:=by obtain⟨_,e⟩:=p2.obj;exact dN e
   refine Wr b1 b2 p1 p2 λh' N=>wpAny_pyIter_zip N.zip ?_;refine⟨_,_,_,_,H1,rfl,I1.kept (t':=s1.toks) N.old,Wu b1 b2 (z:=s1.heap.objs.size+4) (TI:=s1.heap.objs.size+2) (TO:=s1.heap.objs.size+3) (i1:=s1.heap.objs.size) (i2:=s1.heap.objs.size+1) ⟨?_,gU a1,gU (Nat.lt_succ_of_lt a2)⟩,⟨N.zip,N.Wm,⟨_,_,N.out⟩,N.one,N.two⟩,λb hb=>?_,q⟩
   ·exact⟨kd 2 4,kd 3 4,kd 0 4,kd 1 4,kd 2 3,kd 2 0,kd 2 1,kd 3 0,kd 3 1,kd 0 1,⟨wy (kd 4 0) (sH 4 a1),wy (kd 4 1) (sH 4 a2)⟩,⟨wy (kd 3 0) (sH 3 a1),wy (kd 3 1) (sH 3 a2)⟩,wy (kd 1 0) (sH 1 a1),wy (kd 0 1) (sH 0 a2)⟩
   ·have e7:s1.heap.objs.size≤b:=by
     simp only[cS,or_false,xS]at hb;rcases hb with rfl|rfl|rfl|rfl|rfl
     ·exact nQ _ 4
     ·exact nQ _ 2
     ·exact nQ _ 3
     ·exact cf _
     ·exact nQ _ 1
    exact I1.pQ e7 (I1.bH.fresh e7)
theorem WI(b:Bool){a:Expr}{ta:TA}{p pos pt:Pos}(hg:Gl X "enumerate")(hm:X.mg "enumerate"=none)(ha:PA X [a] ta)(hs:starEach [a] X.env=[(false,eval a X.env)]:=by rfl) :
  PI X (.Tuple es kt pt) (.Call (.Name "enumerate" p) [a] [] pos) (Nn X.K b ta):=by
 intro aH s σ H R I h;refine Call_ (sg I hg hm boot_enumerate (Ba (bf (ha pos aH s σ H _ I h) λus s1 ⟨vs,H1,I1,r1,q1⟩=>?_) hs rfl));obtain⟨l,e,⟨xs,hq⟩,q⟩:=q1;subst e;cases r1 with
 |cons r rr=>
  cases rr;cases r;obtain⟨mv,qZ,p1,yN⟩:=I1.sq hq;have a1:l<s1.heap.objs.size:=by obtain⟨_,e⟩:=p1.obj;exact dN e
  refine Ws b p1 λh' z1 z2 hk=>wpAny_pyIter_enum z1 ?_;refine⟨_,_,_,_,H1,rfl,I1.kept (t':=s1.toks) hk,WB b (e:=s1.heap.objs.size+1) (it:=s1.heap.objs.size) (kd 1 0) (sH 1 a1).symm (sH 0 a1).symm,⟨⟨_,z1⟩,z2⟩,λc hc=>?_,q⟩;have e7:s1.heap.objs.size≤c:=by
   simp only[cS,xS,or_false]at hc;rcases hc with rfl|rfl
   ·exact nQ _ 1
   ·exact cf _
  exact I1.pQ e7 (I1.bH.fresh e7)
end
theorem aL.sq{K:Frag}(e:aL H H')(h:Sq b K H a xs):Sq b K H' a xs:=by
 cases b with
 |true=>exact e.seq h
 |false=>
  rcases h with h|h
  ·refine .inl ?_;rcases h with h|⟨o,h⟩
   ·exact .inl (e _ _ h)
   ·exact .inr ⟨o,e _ _ h⟩
  ·exact .inr h
theorem aL.bq{K:Frag}(e:aL H H')(h:bh K H a xs):bh K H' a xs:=e.sq (b:=false) h
theorem aL.upd{H:Hp}{p:Addr}{o:HO}(h:H p=none):aL H (upd H p o):=λb u e=>by rw[bZ (eQ e h)];exact e
def ic(K:Frag)(H:Hp)(xs:List V)(Q:VK):Prop:=∀p H',aL H H'→bh K H' p xs→Q (.ref p) H'
theorem ic.old{K:Frag}{Q:VK}(h:ic K H xs Q)(q:bh K H p xs):Q (.ref p) H:=h p H (.refl H) q
theorem ic.new{K:Frag}{Q:VK}(h:ic K H xs Q)(n:H p=none):Q (.ref p) (upd H p (.tup xs)):=h p _ (.upd n) (.of aX)
theorem WJ:fillsNumberSlot (.type "tuple") "mul"=pure false:=
 PySem.fillsNumberSlot_seq (id := "tuple.__mul__") (r:=some (.builtin "tuple.__rmul__")) F.slot_tuple_mul.lookup (by decide +kernel) F.slot_tuple_rmul.lookup (by decide +kernel)
theorem WK:seqRepeat? (.type "tuple")=pure (some (.builtin "tuple.__mul__")):=by
 unfold seqRepeat?;rw[PySem.seqSlot_of (T := "tuple") (name := "__mul__") (id := "tuple.__mul__") F.slot_tuple_mul.lookup (by decide +kernel),PySem.seqSlot_of (T := "tuple") (name := "__rmul__") (id := "tuple.__rmul__") F.slot_tuple_rmul.lookup (by decide +kernel)];rfl
theorem WL(a:Int)(t:Tok)(l:Addr)(items:Array Value)(n:Nat)(dd:Option Addr)(sl:Array (Option Value)) :
  Meets (Builtin.«int.__rmul__» ⟨[.int a t,.ref l],[]⟩) (λ_ R s=>s.heap.get? l=some { cls:=.type "tuple",dict:=dd,data:=.seq items n,slots:=sl }∧R (.ok (.ret Value.notImplemented)) s):=
 .of_wp λprog w A R s h=>by
  obtain⟨GI,GK,GQ,GV,GY⟩:=s;have oa:=h.1;wp_walk
  exact⟨_,rfl,h.2⟩
section
variable{X:Cx}
theorem GZ{T:String}:jL X (.builtin "isinstance") (λxs H Q=>∃x t b,xs=[x,.ty T]∧nr X.K H x t∧kitOne X.K t (.type T)=some b∧Q (.bl b) H):=by
 intro aH s σ H vs us Q I r h;obtain⟨x,t,b,rfl,ty,e,q⟩:=h;obtain⟨u,v,rfl,ru,rv⟩:=vals2 r;cases rv;exact UQ I ru ty e λtk=>⟨.bl b,H,I.tok tk,rfl,q⟩
end
mutual
inductive gJ(K:Frag)(H:Hp):V→Dat→Prop
 |none:gJ K H .cg .none
 |bool (b:Bool):gJ K H (.bl b) (.bool b)
 |int (i:Int):gJ K H (.int i) (.int i)
 |str (x:Str):gJ K H (.str x) (.str x)
 |tuple {a:Addr} {xs:List V} {ds:List Dat}:bh K H a xs→br K H xs ds→gJ K H (.ref a) (.tuple ds)
 |list {a:Addr} {xs:List V} {ds:List Dat}:dw K H a xs→br K H xs ds→gJ K H (.ref a) (.list ds)
inductive br(K:Frag)(H:Hp):List V→List Dat→Prop
 |nil:br K H [] []
 |cons {v:V} {vs:List V} {d:Dat} {ds:List Dat}:gJ K H v d→br K H vs ds→br K H (v::vs) (d::ds)
end
mutual
theorem gJ.mono{K:Frag}{H H':Hp}(e:aL H H'):∀{v:V}{d:Dat},gJ K H v d→gJ K H' v d
 |_,_,.none=>.none
 |_,_,.bool b=>.bool b
 |_,_,.int i=>.int i
 |_,_,.str x=>.str x
 |_,_,.tuple h r=>.tuple (e.bq h) (br.mono e r)
 |_,_,.list h r=>.list (e.seq h) (br.mono e r)
theorem br.mono{K:Frag}{H H':Hp}(e:aL H H'):∀{vs:List V}{ds:List Dat},br K H vs ds→br K H' vs ds
 |_,_,.nil=>.nil
 |_,_,.cons h r=>.cons (gJ.mono e h) (br.mono e r)
end
theorem br.length{K:Frag}{H:Hp}:∀{vs:List V}{ds:List Dat},br K H vs ds→vs.length=ds.length
 |_,_,.nil=>rfl
 |_,_,.cons _ r=>by rw[dB,dB,br.length r]
theorem br.append{K:Frag}{H:Hp}:∀{vs ws:List V}{ds es:List Dat},br K H vs ds→br K H ws es→br K H (vs++ws) (ds++es)
 |_,_,_,_,.nil,k=>k
 |_,_,_,_,.cons h r,k=>.cons h (br.append r k)
theorem br.get{K:Frag}{H:Hp}:∀{vs:List V}{ds:List Dat}{i:Nat}{v:V},br K H vs ds→vs[i]?=some v→∃d,ds[i]?=some d∧gJ K H v d
 |_,_,0,_,.cons h _,e=>by
  have e':_=_:=cN e;subst e';exact⟨_,rfl,h⟩
 |_,_,i+1,v,.cons _ r,e=>br.get (i:=i) (v:=v) r e
theorem br.ints{K:Frag}{H:Hp}:∀(ns:List Int),br K H (ns.map V.int) (ns.map Dat.int)
 | []=>.nil
 |n::ns=>.cons (.int n) (br.ints ns)
theorem br.G0{K:Frag}{H:Hp}:∀{xs:List V}{ns:List Int},br K H xs (ns.map Dat.int)→xs=ns.map V.int
 |_,[],h=>by cases h;rfl
 |_,n::ns,h=>by
  cases h with
  |cons h r=>
   cases h;rw[br.G0 r];rfl
mutual
theorem gJ.reads{X:Cx}{aH:List (Addr×Obj)}{σ:St}{H:Hp}{s:Shared}(I:Inv X aH σ H s):∀{v:V}{d:Dat}{u:Value},gJ X.K H v d→RelV v u→∃as,Reads s.heap u (PySem.W.kqdP d) as
 |_,_,u,.none,r=>by cases(show u=Value.none from r);exact⟨_,.none⟩
 |_,_,u,.bool b,r=>by cases(show u=Value.bool b from r);exact⟨_,.bool b⟩
 |_,_,u,.int i,r=>by obtain⟨t,rfl⟩:=r;exact⟨_,.int i t⟩
 |_,_,u,.str x,r=>by obtain⟨t,rfl⟩:=r;exact⟨_,.str x t⟩
 |_,_,u,.tuple (a:=a) h q,r=>by
  cases(show u=Value.ref a from r)
  obtain⟨its,rv,⟨o,ho,hc,n,hd⟩,_⟩:=I.tuple h;obtain⟨as,z⟩:=br.reads I q rv;rw[PySem.W.kqdP];exact⟨as,.tuple ho hc hd (by simpa using z)⟩
 |_,_,u,.list (a:=a) h q,r=>by
  cases(show u=Value.ref a from r)
  obtain⟨its,rv,p,_⟩:=I.list h;obtain⟨o,ho,hc,n,hd⟩:=p.isList;obtain⟨as,z⟩:=br.reads I q rv;rw[PySem.W.kqdP];exact⟨_,.list ho hc hd (by simpa using z)⟩
theorem br.reads{X:Cx}{aH:List (Addr×Obj)}{σ:St}{H:Hp}{s:Shared}(I:Inv X aH σ H s):∀{vs:List V}{ds:List Dat}{us:List Value},br X.K H vs ds→Vals vs us→∃as,ReadsAll s.heap us (PySem.W.kqdPs ds) as
 |_,_,_,.nil,.nil=>⟨_,.nil⟩
 |_,_,_,.cons h q,.cons r rr=>by
  obtain⟨as,z⟩:=gJ.reads I h r;obtain⟨bs,y⟩:=br.reads I q rr;rw[PySem.W.kqdPs];exact⟨_,.cons z y⟩
end
section
variable{X:Cx}
open Classical in
def uw(K:Frag)(neg:Bool):R2:=λx y H Q=>∃d e,gJ K H x d∧gJ K H y e∧kqdOk 8 d=true∧kqdOk 8 e=true∧Q (.bl (if neg then !decide (d=e)else decide (d=e))) H
open Classical in
theorem Np{d e:Dat}(hd:kqdOk 8 d=true)(he:kqdOk 8 e=true):PyData.eqv (PySem.W.kqdP d) (PySem.W.kqdP e)=decide (d=e):=by
 exact Bool.eq_iff_iff.mpr ((PySem.W.kqd_eqv 8 d e 8 hd he).trans decide_eq_true_iff.symm)
theorem BZ{d:Dat}(hd:kqdOk 8 d=true):SeqAt.shaped (PySem.W.kqdP d)=true:=by
 have l:=PySem.W.kqd_lay 8 d hd;unfold SeqAt.shaped;rw[l.1,Bool.true_and];exact aD (eJ l.2 (by decide))
theorem WM(hu:X.A.units+64<cLine):eM X (compareOp .Eq) (uw X.K false):=by
 intro aH s σ H x y v u Q I rx ry h;obtain⟨d,e,hx,hy,hd,he,q⟩:=h;obtain⟨as,ra⟩:=hx.reads I rx;obtain⟨bs,rb⟩:=hy.reads I ry;refine eq_dataH ra rb (BZ hd) (BZ he) hu ?_;rw[Np hd he];exact⟨.bl _,H,I,rfl,q⟩
theorem WN(hu:X.A.units+64<cLine):eM X (compareOp .NotEq) (uw X.K true):=by
 intro aH s σ H x y v u Q I rx ry h;obtain⟨d,e,hx,hy,hd,he,q⟩:=h;obtain⟨as,ra⟩:=hx.reads I rx;obtain⟨bs,rb⟩:=hy.reads I ry;refine ne_dataH ra rb (BZ hd) (BZ he) hu ?_;rw[Np hd he];exact⟨.bl _,H,I,rfl,q⟩
end
noncomputable def cw(ns:List Int):Dat:=.tuple (ns.map .int)
theorem WO(n:Nat)(ns:List Int):kqdOk (n+1) (cw ns)=true:=by
 unfold cw kqdOk;rw[List.all_map];exact pG.mpr λ_ _=>by cases n<;>rfl
theorem WQ{a b:List Int}(h:cw a=cw b):a=b:=by
 unfold cw at h;have h':=Dat.tuple.inj h;exact(List.map_inj_right λx y e=>Dat.int.inj e).mp h'
theorem WR(l:Addr)(items:Array Value)(n:Nat)(dd:Option Addr)(sl:Array (Option Value))(u:Tok) :
  Meets (Builtin.«tuple.__mul__» ⟨[.ref l,.int 1 u],[]⟩) (λ_ R s=>s.heap.get? l=some { cls:=.type "tuple",dict:=dd,data:=.seq items n,slots:=sl }∧R (.ok (.ret (.ref l))) s):=
 .of_wp λprog w A R s h=>by
  obtain⟨GI,GK,GQ,GV,GY⟩:=s;have oa:=h.1;have f1:=AutoSeq1.idx_int;wp_walk using t9 oa
  exact⟨_,rfl,h.2⟩
theorem WT(l:Addr)(items:Array Value)(n:Nat)(dd:Option Addr)(sl:Array (Option Value))(x:Int)(u:Tok)(hx:x≤0)(hx2:-(2^63)≤x)(cB:items.isEmpty=false) :
  Meets (Builtin.«tuple.__mul__» ⟨[.ref l,.int x u],[]⟩) (λ_ R s=>s.heap.get? l=some { cls:=.type "tuple",dict:=dd,data:=.seq items n,slots:=sl }∧
   R (.ok (.ret (Value.ref s.heap.objs.size))) { s with heap:=s.heap.push { cls:=Value.type "tuple",data:=Data.seq #[] } }):=
 .of_wp λprog w A R s h=>by
  obtain⟨GI,GK,GQ,GV,GY⟩:=s;have oa:=h.1;have f1:=AutoSeq1.idx_int;have c1:(decide (x < -2^63)||decide (x≥2^63))=false:=by simp;lia
  have c2:(items.isEmpty||x==1)=false:=by rw[cB];simp;lia
  have c3:(decide (x≤0)||items.isEmpty)=true:=by simp[hx]
  wp_walk using t9 oa
  refine aE (by rw[c1];rfl) ?_;wp_walk using t9 oa
  refine aE (by rw[c2];rfl) ?_;wp_walk using t9 oa
  exact⟨_,rfl,h.2⟩
theorem Nq(items:Array Value):∀(k:Nat)(df:Array Value),(List.foldl (λx1 x2=>x1++x2) df (List.replicate k items)).size=df.size+k*items.size
 |0,df=>by simp
 |k+1,df=>by rw[pE,List.foldl_cons,Nq items k,Array.size_append,Nat.succ_mul];lia
theorem WU(l:Addr)(items:Array Value)(n:Nat)(dd:Option Addr)(sl:Array (Option Value))(x:Int)(u:Tok)(hx:2≤x)(hx2:x<2^63)(cB:items.isEmpty=false)(hz:items.size*x.toNat≤sizeLine) :
  Meets (Builtin.«tuple.__mul__» ⟨[.ref l,.int x u],[]⟩) (λ_ R s=>s.heap.get? l=some { cls:=.type "tuple",dict:=dd,data:=.seq items n,slots:=sl }∧
   R (.ok (.ret (Value.ref s.heap.objs.size))) { s with heap:=s.heap.push { cls:=Value.type "tuple",data:=Data.seq (List.foldl (λx1 x2=>x1++x2) #[] (List.replicate x.toNat items)) } }):=
 .of_wp λprog w A R s h=>by
  obtain⟨GI,GK,GQ,GV,GY⟩:=s;have oa:=h.1;have f1:=AutoSeq1.idx_int;have c1:(decide (x < -2^63)||decide (x≥2^63))=false:=by simp;lia
  have c2:(items.isEmpty||x==1)=false:=by rw[cB];simp;lia
  have c3:(decide (x≤0)||items.isEmpty)=false:=by rw[cB];simp;lia
  have e:(items.size:Int)*x=((items.size*x.toNat:Nat):Int):=by
   rw[Int.natCast_mul];congr 1;lia
  have ME:(sizeLine:Nat)≤(2^63-1)/8:=by decide
  have c4:decide ((items.size:Int)*x>(2^63-1)/8)=false:=by rw[e];simp only[decide_eq_false_iff_not];lia
  have c5:Builtin.Tuple.tupleTooMany ((items.size:Int)*x)=false:=by rw[e];unfold Builtin.Tuple.tupleTooMany;simp only[decide_eq_false_iff_not];lia
  have c6:(List.foldl (λx1 x2=>x1++x2) #[] (List.replicate x.toNat items)).size≤sizeLine:=by rw[Nq,Array.size_empty,Nat.zero_add,Nat.mul_comm];exact hz
  wp_walk using t9 oa
  refine aE (by rw[c1];rfl) ?_;wp_walk using t9 oa
  refine aE (by rw[c2];rfl) ?_;wp_walk using t9 oa
  refine aE (by rw[c3];rfl) ?_;wp_walk
  refine aE c4 ?_;wp_walk
  refine aE (by rw[c5];rfl) ?_;wp_walk
  exact⟨_,rfl,h.2⟩
def B0(K:Frag):R2:=λx y H Q=>∃a k xs,x=.ref a∧y=.int k∧bh K H a xs∧xs≠[]∧-(2^63)≤k∧k<2^63∧xs.length*k.toNat≤sizeLine∧ic K H (List.replicate k.toNat xs).flatten Q
theorem WV{X:Cx}:eM X (binaryOp .Mult) (B0 X.K):=by
 intro aH s σ H x y v u Q I rx ry h;obtain⟨l,k,xs,rfl,rfl,hH,cB,h1,h2,hz,q⟩:=h;cases rx;obtain⟨t,rfl⟩:=ry;obtain⟨its,r,ht,_⟩:=I.tuple hH;obtain⟨⟨cls,dd,data,sl⟩,ho,hc,n,hd⟩:=id ht;simp only at hc hd;subst hc hd;have hi:its.toArray.isEmpty=false:=by
  have:its≠[]:=λz=>cB (r.BG.mp z)
  cases its with
  |nil=>exact absurd rfl this
  |cons a b=>rfl
 have cO:its.toArray.size*k.toNat≤sizeLine:=by rw[dE,← r.length];exact hz
 have f0:∀m:Nat,List.foldl (λx1 x2=>x1++x2) #[] (List.replicate m its.toArray)=(List.replicate m its).flatten.toArray:=λm=>by
  have:=foldl_rep its m []
  rw[List.nil_append]at this;exact this
 refine wpAny_binaryOp_repeat_ref (T := "tuple") (U := "int") (by decide) ⟨_,ho,rfl⟩ (λs'=>typeIs_int s' k t) WJ F.fills_int_mul F.slot_int_rmul WK F.slot_int_index.lookup
  (aC F.slot_int_rmul (typeIs_int s k t) F.entry_int_rmul (F.args_int_rmul_2 _ _) (WL k t l its.toArray n dd sl) ⟨ho,rfl,⟨_,ho,rfl⟩,?_⟩)
 by_cases WW:k=1
 ·subst WW;refine aC F.slot_tuple_mul ⟨_,ho,rfl⟩ F.entry_tuple_mul (F.args_tuple_mul_2 _ _) (WR l its.toArray n dd sl t) ⟨ho,?_⟩;exact⟨.ref l,H,I,rfl,q.old (by simpa using hH)⟩
 ·by_cases G1:k≤0
  ·refine aC F.slot_tuple_mul ⟨_,ho,rfl⟩ F.entry_tuple_mul (F.args_tuple_mul_2 _ _) (WT l its.toArray n dd sl k t G1 h1 hi) ⟨ho,?_⟩;have e:k.toNat=0:=by lia
   rw[e]at q;exact⟨.ref _,_,I.laid (t':=s.toks) (o:=.tup []) (λb ob q=>dX _ q) (cf _) ⟨kj _,[],.nil,pN.new _ _⟩,rfl,q.new I.fresh⟩
  ·refine aC F.slot_tuple_mul ⟨_,ho,rfl⟩ F.entry_tuple_mul (F.args_tuple_mul_2 _ _) (WU l its.toArray n dd sl k t (by lia) h2 hi cO) ⟨ho,?_⟩;rw[f0];exact⟨.ref _,_,I.laid (t':=s.toks) (o:=.tup (List.replicate k.toNat xs).flatten) (λb ob q=>dX _ q) (cf _) ⟨by rw[MF,Nat.mul_comm];exact hz,_,r.rep k.toNat,pN.new _ _⟩,rfl,q.new I.fresh⟩
noncomputable def Nr(oN:List Str)(sr:Scope)(N:List Str)(own:Nat)(caps:List Nat)(scope:Scope):Bool:=
 decide (scope.kind=.function)&&decide N.Nodup&&decide (scope.names.map (·.1)).Nodup &&
 scope.names.all (λx=>x.2 != .free||(decide (sr.names.lookup x.1=some .cell)||decide (sr.names.lookup x.1=some .free))) &&
 decide (N.length=own+caps.length)&&decide (caps.map (λi=>oN[i]?)=(N.drop own).map some)&&(N.drop own).all (λx=>decide (scope.names.lookup x=some .free))
theorem dk.mk'{oN:List Str}{sr:Scope}{N:List Str}{own:Nat}{caps:List Nat}{scope:Scope}(h:Nr oN sr N own caps scope=true):dk oN sr N own caps scope:=by
 unfold Nr at h;simp only[fg,aF,pG,Bool.or_eq_true,bne_iff_ne,ne_eq]at h;obtain⟨⟨⟨⟨⟨⟨h1,h2⟩,h3⟩,h4⟩,h5⟩,h6⟩,h7⟩:=h;exact⟨h1,h2,h3,λx hx hk=>(h4 x hx).elim (λz=>absurd hk z) id,h5,h6,h7⟩
def mw(n:Nat)(cp:St)(H1:Hp)(P:Hp→List V→Prop):St→Hp→List V→Prop:=λσ H zs=>(∃o:St,o.length=n∧σ=o++cp)∧aL H1 H∧P H zs
section
variable{K:Frag}{H1:Hp}{cp:St}{g:TG}{tt:TT}{te:TE}{Q:VK}{xs ys:List V}{l1 l2 a:Addr}{b1 b2 b:Bool}{n own:Nat}{J:It}
theorem B1(Pv:Nat→Hp→List V→Prop)(hn:n≤sizeLine)(h0:Pv 0 H1 [])(cO:∀i H zs,Pv i H zs→zs.length≤i)
  (WX:∀i H,aL H1 H→i<n→J.go i H) (WY:∀H,aL H1 H→J.stop n H)
  (step:∀i o H zs,i<n→o.length=own→aL H1 H→Pv i H zs→∀x H2,J.qO i H x H2→g x (o++cp) H2 λσ3 H3=>tt σ3 H3 λc H4=>if c=true then te σ3 H4 λv H5=>mw own cp H1 (Pv (i+1)) σ3 H5 (zs++[v])else mw own cp H1 (Pv (i+1)) σ3 H4 zs)
  (done:∀H zs,aL H1 H→Pv n H zs→∀p,H p=none→Q (.ref p) (upd H p (.lst zs))) :
  ∃W:Nat→Nat→St→Hp→List V→Prop,(∃m,W 0 m (List.replicate own none++cp) H1 [])∧mq J g tt te Q W:=by
 refine⟨λi m σ H zs=>m=n-i∧i≤n∧mw own cp H1 (Pv i) σ H zs,⟨n,by simp,kj _,⟨_,by simp,rfl⟩,.refl _,h0⟩,?_⟩;rintro i m σ H zs ⟨rfl,hi,⟨o,ho,rfl⟩,sm,pv⟩;have hl:=cO _ _ _ pv;by_cases cL:i<n
 ·exact .inr ⟨WX i H sm cL,by lia,mw own cp H1 (Pv (i+1)),λσ2 H2 yR q=>⟨n-(i+1),by lia,rfl,cL,q⟩,step i o H zs cL ho sm pv⟩
 ·have e:i=n:=by lia
  subst e;exact .inl ⟨WY H sm,by lia,done H zs sm pv⟩
theorem B2{o:St}(h:o.length=1):∃x,o=[x]:=by
 match o,h with
 | [x],_=>exact⟨x,rfl⟩
theorem WZ{o:St}(h:o.length=2):∃x y,o=[x,y]:=by
 match o,h with
 | [x,y],_=>exact⟨x,y,rfl⟩
theorem pZ(Pv:Nat→Hp→List V→Prop)(hq:dw K H1 a xs)(hz:xs.length≤sizeLine)(h0:Pv 0 H1 [])(cO:∀i H zs,Pv i H zs→zs.length≤i)
  (step:∀i x H zs,xs[i]?=some x→aL H1 H→Pv i H zs→tt (some x::cp) H λc H4=>if c=true then te (some x::cp) H4 λv H5=>mw 1 cp H1 (Pv (i+1)) (some x::cp) H5 (zs++[v])else mw 1 cp H1 (Pv (i+1)) (some x::cp) H4 zs)
  (done:∀H zs,aL H1 H→Pv xs.length H zs→∀p,H p=none→Q (.ref p) (upd H p (.lst zs))) :
  ∃W:Nat→Nat→St→Hp→List V→Prop,(∃m,W 0 m (List.replicate 1 none++cp) H1 [])∧mq (qP K a) (cq 0) tt te Q W:=by
 refine B1 (n:=xs.length) Pv hz h0 cO (λi H sm hi=>⟨xs,xs[i],sm.seq hq,by simp[hi]⟩) (λH sm=>⟨xs,sm.seq hq,cf _⟩) (λi o H zs hi ho sm pv x H2 y=>?_) done;obtain⟨w,rfl⟩:=B2 ho;obtain⟨rfl,y⟩:=y;exact step i x _ zs (y xs (sm.seq hq)) sm pv
theorem ux(Pv:Nat→Hp→List V→Prop)(hq:bh K H1 a xs)(hz:xs.length≤sizeLine)(h0:Pv 0 H1 [])(cO:∀i H zs,Pv i H zs→zs.length≤i)
  (step:∀i x H zs,xs[i]?=some x→aL H1 H→Pv i H zs→tt (some x::cp) H λc H4=>if c=true then te (some x::cp) H4 λv H5=>mw 1 cp H1 (Pv (i+1)) (some x::cp) H5 (zs++[v])else mw 1 cp H1 (Pv (i+1)) (some x::cp) H4 zs)
  (done:∀H zs,aL H1 H→Pv xs.length H zs→∀p,H p=none→Q (.ref p) (upd H p (.lst zs))) :
  ∃W:Nat→Nat→St→Hp→List V→Prop,(∃m,W 0 m (List.replicate 1 none++cp) H1 [])∧mq (uh K a) (cq 0) tt te Q W:=by
 refine B1 (n:=xs.length) Pv hz h0 cO (λi H sm hi=>⟨xs,xs[i],sm.bq hq,by simp[hi]⟩) (λH sm=>⟨xs,sm.bq hq,cf _⟩) (λi o H zs hi ho sm pv x H2 y=>?_) done;obtain⟨w,rfl⟩:=B2 ho;obtain⟨rfl,y⟩:=y;exact step i x _ zs (y xs (sm.bq hq)) sm pv
theorem p7{lo:Int}(Pv:Nat→Hp→List V→Prop)(hz:n≤sizeLine)(h0:Pv 0 H1 [])(cO:∀i H zs,Pv i H zs→zs.length≤i)
  (step:∀i H zs,i<n→aL H1 H→Pv i H zs→tt (some (.int (lo+(i:Nat)))::cp) H λc H4=>if c=true then te (some (.int (lo+(i:Nat)))::cp) H4 λv H5=>mw 1 cp H1 (Pv (i+1)) (some (.int (lo+(i:Nat)))::cp) H5 (zs++[v])else mw 1 cp H1 (Pv (i+1)) (some (.int (lo+(i:Nat)))::cp) H4 zs)
  (done:∀H zs,aL H1 H→Pv n H zs→∀p,H p=none→Q (.ref p) (upd H p (.lst zs))) :
  ∃W:Nat→Nat→St→Hp→List V→Prop,(∃m,W 0 m (List.replicate 1 none++cp) H1 [])∧mq (qQ lo n) (cq 0) tt te Q W:=by
 refine B1 (n:=n) Pv hz h0 cO (λi H sm hi=>hi) (λH sm=>cf _) (λi o H zs hi ho sm pv x H2 y=>?_) done;obtain⟨w,rfl⟩:=B2 ho;obtain⟨rfl,rfl⟩:=y;exact step i _ zs hi sm pv
abbrev B3(K:Frag)(i j:Nat):TG:=yj K 2 (si (cq i) (si (cq j) Bp))
theorem yS{p:Addr}{x y:V}{i j:Nat}{σ:St}{H:Hp}{R:St→Hp→Prop}(h:bh K H p [x,y])(q:R ((σ.set i (some x)).set j (some y)) H):B3 K i j (.ref p) σ H R:=
 ⟨p,[x,y],rfl,h,rfl,x,[y],rfl,y,[],rfl,rfl,q⟩
theorem W0(Pv:Nat→Hp→List V→Prop)(ny:Sq b1 K H1 l1 xs)(iB:Sq b2 K H1 l2 ys)(hl:xs.length=ys.length)(hz:xs.length≤sizeLine)(h0:Pv 0 H1 [])(cO:∀i H zs,Pv i H zs→zs.length≤i)(mono:∀i H H' zs,aL H H'→Pv i H zs→Pv i H' zs)
  (step:∀i x y H zs,xs[i]?=some x→ys[i]?=some y→aL H1 H→Pv i H zs→tt (some x::some y::cp) H λc H4=>if c=true then te (some x::some y::cp) H4 λv H5=>mw 2 cp H1 (Pv (i+1)) (some x::some y::cp) H5 (zs++[v])else mw 2 cp H1 (Pv (i+1)) (some x::some y::cp) H4 zs)
  (done:∀H zs,aL H1 H→Pv xs.length H zs→∀p,H p=none→Q (.ref p) (upd H p (.lst zs))) :
  ∃W:Nat→Nat→St→Hp→List V→Prop,(∃m,W 0 m (List.replicate 2 none++cp) H1 [])∧mq (wu K b1 b2 l1 l2) (B3 K 0 1) tt te Q W:=by
 refine B1 (n:=xs.length) Pv hz h0 cO (λi H sm hi=>⟨xs,ys,xs[i],ys[i],sm.sq ny,sm.sq iB,by simp[hi],by simp[hl▸hi]⟩) (λH sm=>⟨xs,ys,sm.sq ny,sm.sq iB,.inl rfl⟩) (λi o H zs hi ho sm pv v H2 yl=>?_) done;obtain⟨w1,w2,rfl⟩:=WZ ho;obtain⟨p,x,y,rfl,hp,rfl,hx,hy⟩:=yl;refine yS (.of aX) ?_;have s2:aL H (upd H p (.tup [x,y])):=.upd hp;exact step i x y _ zs (hx xs (sm.sq ny)) (hy ys (sm.sq iB)) (sm.trans s2) (mono _ _ _ _ s2 pv)
end
section
variable{K:Frag}{a l1 l2:Addr}{xs ys:List V}{b b1 b2:Bool}{tb:TS}{D:Ends}{σ:St}{H:Hp}{i j:Nat}
theorem W2(Pv:Nat→St→Hp→Prop)(hl:xs.length=ys.length)(h0:Pv 0 σ H)(hq:∀k σ H,Pv k σ H→Sq b1 K H l1 xs∧Sq b2 K H l2 ys)(mono:∀k σ H H',aL H H'→Pv k σ H→Pv k σ H')
  (hs:∀k x y σ H,xs[k]?=some x→ys[k]?=some y→Pv k σ H→tb { D with nx:=Pv (k+1),ct:=Pv (k+1),bk:=D.nx } ((σ.set i (some x)).set j (some y)) H) (hd:∀σ H,Pv xs.length σ H→D.nx σ H) :
  ∃W:Nat→Nat→St→Hp→Prop,(∃m,W 0 m σ H)∧∀k m σ H,W k m σ H→
   ((wu K b1 b2 l1 l2).stop k H∧D.nx σ H)∨((wu K b1 b2 l1 l2).go k H∧∃N:St→Hp→Prop,(∀σ' H',N σ' H'→∃m',m'<m∧W (k+1) m' σ' H')∧∀x H',(wu K b1 b2 l1 l2).qO k H x H'→B3 K i j x σ H' λσ2 H2=>tb { D with nx:=N,ct:=N,bk:=D.nx } σ2 H2):=by
 refine⟨λk m σ H=>m=xs.length-k∧k≤xs.length∧Pv k σ H,⟨xs.length,by simp,kj _,h0⟩,?_⟩;rintro k m σ H ⟨rfl,hk,p⟩;obtain⟨q1,q2⟩:=hq k σ H p;by_cases cL:k<xs.length
 ·refine .inr ⟨⟨xs,ys,xs[k],ys[k],q1,q2,by simp[cL],by simp[hl▸cL]⟩,Pv (k+1),λσ' H' p'=>⟨xs.length-(k+1),by lia,rfl,cL,p'⟩,λv H' yl=>?_⟩;obtain⟨pp,x,y,rfl,hp,rfl,hx,hy⟩:=yl;exact yS (.of aX) (hs k x y σ _ (hx xs q1) (hy ys q2) (mono _ _ _ _ (.upd hp) p))
 ·have e:k=xs.length:=by lia
  subst e;exact .inl ⟨⟨xs,ys,q1,q2,.inl rfl⟩,hd σ H p⟩
theorem W3(Pv:Nat→St→Hp→Prop)(h0:Pv 0 σ H)(hq:∀k σ H,Pv k σ H→Sq b K H a xs)(mono:∀k σ H H',aL H H'→Pv k σ H→Pv k σ H')
  (hs:∀k x σ H,xs[k]?=some x→Pv k σ H→tb { D with nx:=Pv (k+1),ct:=Pv (k+1),bk:=D.nx } ((σ.set i (some (.int (k:Nat)))).set j (some x)) H) (hd:∀σ H,Pv xs.length σ H→D.nx σ H) :
  ∃W:Nat→Nat→St→Hp→Prop,(∃m,W 0 m σ H)∧∀k m σ H,W k m σ H→
   ((yM K b a).stop k H∧D.nx σ H)∨((yM K b a).go k H∧∃N:St→Hp→Prop,(∀σ' H',N σ' H'→∃m',m'<m∧W (k+1) m' σ' H')∧∀x H',(yM K b a).qO k H x H'→B3 K i j x σ H' λσ2 H2=>tb { D with nx:=N,ct:=N,bk:=D.nx } σ2 H2):=by
 refine⟨λk m σ H=>m=xs.length-k∧k≤xs.length∧Pv k σ H,⟨xs.length,by simp,kj _,h0⟩,?_⟩;rintro k m σ H ⟨rfl,hk,p⟩;have q:=hq k σ H p;by_cases cL:k<xs.length
 ·refine .inr ⟨⟨xs,xs[k],q,by simp[cL]⟩,Pv (k+1),λσ' H' p'=>⟨xs.length-(k+1),by lia,rfl,cL,p'⟩,λv H' yl=>?_⟩;obtain⟨pp,x,rfl,hp,rfl,hx⟩:=yl;exact yS (.of aX) (hs k x σ _ (hx xs q) (mono _ _ _ _ (.upd hp) p))
 ·have e:k=xs.length:=by lia
  subst e;exact .inl ⟨⟨xs,q,rfl⟩,hd σ H p⟩
end
theorem Nt(K:Frag):kitOne K (.type "int") (.type "int")=some true:=by kernel_rfl
theorem G2(K:Frag):kitOne K (.type "str") (.type "int")=some false:=by kernel_rfl
section
variable{X:Cx}
theorem W4{T:String}:jL X (.builtin "isinstance") (λxs H Q=>∃i b,xs=[.int i,.ty T]∧kitOne X.K (.type "int") (.type T)=some b∧Q (.bl b) H):=by
 intro aH s σ H vs us Q I r h;obtain⟨i,b,rfl,e,q⟩:=h;exact GZ aH s σ H _ us Q I r ⟨.int i,_,b,rfl,.int i,e,q⟩
end
theorem W5(n:String):RelV (.ty n) (.type n):=rfl
theorem Nu{X:Cx}{x:Str}{T:String}{pos:Pos}(hg:Gl X x)(hm:X.mg x=none)(hv:bootBuiltins x=some (.type T))(hn:x ≠ "__name__":=by decide)(hd:(x==("__debug__":Str))=false:=by decide):PE X (.Name x pos) (tC (.ty T)):=Ud hg hm hv (W5 T) hn hd
theorem Nv{K:Frag}{H:Hp}{x:V}{r:List Int}(h:gJ K H x (cw r)):∃a,x=.ref a∧bh K H a (r.map V.int):=by
 unfold cw at h;cases h with
 |tuple hq ha=>exact⟨_,rfl,by rw[← ha.G0];exact hq⟩
theorem ke{K:Frag}{H:Hp}{a:Addr}{r:List Int}(h:bh K H a (r.map V.int)):gJ K H (.ref a) (cw r):=.tuple h (br.ints r)
theorem aL.write{H H':Hp}{l:Addr}{o:HO}(sm:aL H H')(h:H l=none):aL H (L2.upd H' l o):=λb u e=>by rw[bZ (eQ e h)];exact sm b u e
open Classical in
theorem B4{d e:Dat}{A B:Prop}(h:d=e)(b:B):if(if true=true then !decide (d=e)else decide (d=e))=true then A else B:=by
 subst h;simp only[decide_true,Bool.not_true,if_true,Bool.false_eq_true,if_false];exact b
theorem G3(n:Nat)(rs:LL):(rs.map cw).all (kqdOk (n+1))=true:=by
 rw[List.all_map];exact pG.mpr λr _=>WO n r
section
variable{X:Cx}(K:Frag)(hK:X.K=K)
include hK
theorem bV:yw X (pU K):=hK▸U4
theorem cC:yw X (pV K):=hK▸U5
theorem ko:jL X (.builtin "len") (λxs H Q=>∃p ys,xs=[.ref p]∧(dw K H p ys∨bh K H p ys)∧Q (.int ys.length) H):=hK▸Vb
theorem Nw:jL X (.type "list") (λxs H Q=>∃p ys,xs=[.ref p]∧(dw K H p ys∨bh K H p ys)∧∀l,H l=none→Q (.ref l) (upd H l (.lst ys))):=hK▸Vc
theorem o9:jL X (.type "tuple") (λxs H Q=>∃p ys,xs=[.ref p]∧((dw K H p ys∧∀l,H l=none→Q (.ref l) (upd H l (.tup ys)))∨(bh K H p ys∧Q (.ref p) H))):=hK▸Vd
theorem W6{T:String}:jL X (.builtin "isinstance") (λxs H Q=>∃i b,xs=[.int i,.ty T]∧kitOne K (.type "int") (.type T)=some b∧Q (.bl b) H):=hK▸W4
theorem W7(hu:X.A.units+64<cLine):eM X (compareOp .Eq) (uw K false):=hK▸WM hu
theorem B5(hu:X.A.units+64<cLine):eM X (compareOp .NotEq) (uw K true):=hK▸WN hu
theorem og:eM X (binaryOp .Mult) (B0 K):=hK▸WV
theorem W8:eM X (compareOp .In) (BJ K false):=hK▸U9
theorem W9:eM X (compareOp .NotIn) (BJ K true):=hK▸Va
theorem lI{tg l:Expr}{tl:TE}(hl:PE X l tl):PI X tg l (L3 K tl):=hK▸Uw hl
theorem lJ{tg l:Expr}{tl:TE}(hl:PE X l tl):PI X tg l (me K tl):=hK▸Ux hl
theorem Nx(b1 b2:Bool){a b:Expr}{ta:TA}{p pos pt:Pos}{es:List Expr}{kt:Nat}(hg:Gl X "zip")(hm:X.mg "zip"=none)(ha:PA X [a,b] ta)(hs:starEach [a,b] X.env=[(false,eval a X.env),(false,eval b X.env)]:=by rfl)(hs2:starEach [b] X.env=[(false,eval b X.env)]:=by rfl) :
  PI X (.Tuple es kt pt) (.Call (.Name "zip" p) [a,b] [] pos) (Nm K b1 b2 ta):=hK▸WH b1 b2 hg hm ha hs hs2
theorem Xa(b:Bool){a:Expr}{ta:TA}{p pos pt:Pos}{es:List Expr}{kt:Nat}(hg:Gl X "enumerate")(hm:X.mg "enumerate"=none)(ha:PA X [a] ta)(hs:starEach [a] X.env=[(false,eval a X.env)]:=by rfl) :
  PI X (.Tuple es kt pt) (.Call (.Name "enumerate" p) [a] [] pos) (Nn K b ta):=hK▸WI b hg hm ha hs
theorem uy{es:List Expr}{k:Nat}{t:pP}{n:Nat}{pos:Pos}(hc:X.calm=true)(h:vV X es t)
  (hn:(assignEach es X.env).length=n:=by rfl) (yk:(assignEach es X.env).findIdx? (·.1)=none:=by rfl):PG X (.Tuple es k pos) (yj K n t):=hK▸Us hc h hn yk
end
theorem pb:bootBuiltins "tuple"=some (.type "tuple"):=by decide +kernel
theorem Ny:bootBuiltins "list"=some (.type "list"):=by decide +kernel
theorem G4:bootBuiltins "int"=some (.type "int"):=by decide +kernel
theorem Nz:bootBuiltins "isinstance"=some (.builtin "isinstance"):=by decide +kernel
theorem kq:bootBuiltins "len"=some (.builtin "len"):=by decide +kernel
theorem iC{σ:St}{H:Hp}{Y N:Hp→Prop}(h:Y H):iP σ H (λc H4=>if c=true then Y H4 else N H4):=by
 show if true=true then Y H else N H
 exact gQ h
end L2
namespace L2
open PySem
end L2
namespace L2
open PySem PySem.Spec PyProof.Rows
variable{X:Cx}
section
variable{X:Cx}{pos:Pos}
def Xb(K:Frag)(n:Nat)(t:pP):TG:=λv σ H Q=>∃a xs,v=.ref a∧dw K H a xs∧xs.length=n∧t xs σ H Q
theorem NA{es:List Expr}{k n:Nat}{t:pP}(hc:X.calm=true)(h:vV X es t)(hn:(assignEach es X.env).length=n:=by rfl)(yk:(assignEach es X.env).findIdx? (·.1)=none:=by rfl):PG X (.Tuple es k pos) (Xb X.K n t):=by
 rintro aH s σ H v u Q I r ⟨a,xs,rfl,hq,hl,hw⟩;cases r;obtain⟨its,rv,pl,_⟩:=I.list hq;have sz:its.toArray.size=n:=by rw[dE,← rv.length,hl]
 rw[assign_Tuple];refine ak (wpAny_standAt ?_);unfold unpack;rw[yk,hn,← sz];refine ak (ao (PySem.W.kun_itemsOf (I.ok.hd hc) pl.isList λh' ex=>?_));exact h aH _ σ H xs _ Q (I.kept (t':=s.toks) λb o e=>ex b o (gU (dN e)) e) (by simpa using rv) hw
end
theorem NB(l b:Addr)(its nV:Array Value)(n n2:Nat)(dd BA:Option Addr)(sl BC:Array (Option Value))(he:its.isEmpty=true) :
  Meets (Builtin.«tuple.__add__» ⟨[.ref l,.ref b],[]⟩) (λ_ R s=>s.heap.get? l=some { cls:=.type "tuple",dict:=dd,data:=.seq its n,slots:=sl }∧s.heap.get? b=some { cls:=.type "tuple",dict:=BA,data:=.seq nV n2,slots:=BC }∧R (.ok (.ret (.ref b))) s):=
 .of_wp λ_ _ _ _ s h=>by
  obtain⟨hpA,gA,dA,tkA,osA⟩:=s;have oa:=h.1;have Xc:=h.2.1;have f2:=AutoSeq1.sub_tuple_tuple;wp_walk using t9 oa,t9 Xc
  exact⟨_,rfl,h.2.2⟩
def wB(K:Frag):R2:=λx y H Q=>∃a b xs ys,x=.ref a∧y=.ref b∧bh K H a xs∧bh K H b ys∧xs.length+ys.length≤sizeLine∧ic K H (xs++ys) Q
theorem Xd:eM X (binaryOp .Add) (wB X.K):=by
 rintro aH s σ H x y v u Q I rx ry ⟨a,b,xs,ys,rfl,rfl,ha,hb,hz,q⟩;by_cases hx:xs=[]
 ·subst hx;cases rx;cases ry;obtain⟨its,r1,⟨⟨c1,d1,t1,s1⟩,o1,e1,n1,f1⟩,_⟩:=I.tuple ha;obtain⟨nV,r2,⟨⟨c2,d2,t2,s2⟩,o2,e2,n2,f2⟩,_⟩:=I.tuple hb;simp only at e1 f1 e2 f2;subst e1 f1 e2 f2;cases r1;refine concat_meets ⟨_,o1,rfl⟩ ⟨_,o2,rfl⟩ noFill_tuple_add seq_tuple_add PySem.F.slot_tuple_add PySem.F.entry_tuple_add (PySem.F.args_tuple_add_2 _ _) (NB a b _ _ _ _ d1 d2 s1 s2 rfl) ⟨o1,o2,?_⟩;exact⟨.ref b,H,I,rfl,q.old hb⟩
 ·refine Mv aH s σ H _ _ v u Q I rx ry ⟨a,b,xs,ys,rfl,rfl,ha,hb,hx,hz,λhy=>?_,λ_ p hp=>q.new hp⟩;subst hy;exact q.old (by rw[iK];exact ha)
theorem ft(K:Frag)(hK:X.K=K):eM X (binaryOp .Add) (wB K):=hK▸Xd
theorem Xe(K:Frag)(hK:X.K=K):yv X (BF K):=hK▸Mu
theorem Xf(d:Bool)(bs:List Bool):(List.range bs.length).map (λi=>(bs[i]?).getD d)=bs:=by
 apply List.ext_getElem
 ·simp
 ·intro i h1 h2;simp[cn h2]
theorem Xg(bs:List Bool):((List.range bs.length).any λi=>(bs[i]?).getD false)=bs.any id:=by
 have e:=ai (λl=>List.any l id) (Xf false bs);rw[← e];simp only[List.any_map];rfl
section
variable{X:Cx}
theorem Xh:bootBuiltins "any"=some (.builtin "any"):=by decide +kernel
end
end L2
namespace Bw
variable{D L:LL}{f:Nat→Int}{h o r:List Int}{i j l n place:Nat}{ls:List Nat}{p:Int}{u v:Fn}
noncomputable def cX:List Int:=[2,3,5,7,11,13,17,19,23,29,31,37,41,43,47,53,59,61,67,71,73,79,83,89,97]
noncomputable def uz(p n:Int):Nat→Int
 |0=>1
 |k+1=>uz p n k*n%p
noncomputable def eE(p n:Int):Int:=uz p n (p-2).toNat
noncomputable def NC(p n:Int):Bool:=decide (1≤eE p n)&&decide (eE p n<p)&&decide (eE p n*n%p=1)
theorem Xi:(cX.all λp=>(List.range p.toNat).all λn=>n==0||NC p n)=true:=by decide +kernel
theorem fI:∀p∈cX,2≤p∧p≤97:=by decide +kernel
theorem yT{n:Int}(hp:p∈cX)(h1:1≤n)(h2:n<p):1≤eE p n∧eE p n<p∧eE p n*n%p=1:=by
 have h:=pG.mp Xi p hp;have h':=pG.mp h n.toNat (nN.mpr (by lia));have en:((n.toNat:Nat):Int)=n:=by lia
 have n0:(n.toNat==0)=false:=by simp;lia
 rw[n0,Bool.false_or,en]at h';unfold NC at h';simp only[aF,fg]at h';exact⟨h'.1.1,h'.1.2,h'.2⟩
theorem Xj{n:Int}(hp:2≤p):∀k,0≤uz p n k∧uz p n k<p
 |0=>by unfold uz;lia
 |k+1=>by
  unfold uz;exact⟨lY _ (by lia),lZ _ (by lia)⟩
noncomputable def fZ(p:Int)(row:List Int)(f:Int)(other:List Int):List Int:=List.zipWith (λa b=>(a+f*b)%p) row other
noncomputable def kr(p:Int):List (List Int×Int)→List Int→List Int
 | [],t=>t
 |(r,f)::L,t=>kr p L (fZ p t f r)
noncomputable def uA(L:List (List Int×Int))(j:Nat):Int:=(L.map λq=>q.1.getD j 0*q.2).sum
theorem Xk(r:List Int)(f:Int)(L:List (List Int×Int))(j:Nat):uA ((r,f)::L) j=r.getD j 0*f+uA L j:=by simp[uA]
theorem Xl{f:Int}(c:Nat→Int)(hr:r.length=n):fZ p ((List.range n).map λj=>c j%p) f r=(List.range n).map λj=>(c j+r.getD j 0*f)%p:=by
 apply List.ext_getElem
 ·simp[fZ,hr]
 ·intro i h1 h2;have hi:i<r.length:=by simp[fZ,hr]at h1;lia
  simp only[fZ,List.getElem_zipWith,List.getElem_map,List.getElem_range];rw[cz,cn hi,Option.getD_some,nR f,Int.emod_add_emod]
theorem ND{p:Int}{n:Nat}:∀(L:List (List Int×Int))(c:Nat→Int),(∀q∈L,q.1.length=n)→kr p L ((List.range n).map λj=>c j%p)=(List.range n).map λj=>(c j+uA L j)%p
 | [],c,_=>by simp[kr,uA]
 |(r,f)::L,c,h=>by
  rw[kr,Xl c (h (r,f) cP),ND L (λj=>c j+r.getD j 0*f) λq hq=>h q (dU _ hq)];apply Bc;intro j _;rw[Xk,Int.add_assoc]
theorem NF(L:List (List Int×Int))(h:∀q∈L,q.1.length=n):kr p L (List.replicate n 0)=(List.range n).map λj=>uA L j%p:=by
 have e:List.replicate n (0:Int)=(List.range n).map λj=>(λ_=>(0:Int)) j%p:=by
  apply List.ext_getElem
  ·simp
  ·intro i _ _;simp
 rw[e,ND L (λ_=>0) h];apply Bc;intro j _;rw[lA]
abbrev Fn:=Nat→Int
def eF(p:Int)(u v:Fn):Prop:=∀j,p∣u j-v j
theorem oh(p a:Int):p∣a%p-a:=⟨-(a/p),by
 have:=Int.emod_add_mul_ediv a p
 rw[Int.mul_neg];lia⟩
theorem eF.refl(p:Int)(u:Fn):eF p u u:=λj=>⟨0,by lia⟩
theorem eF.symm(h:eF p u v):eF p v u:=λj=>by
 have:=nh.mpr (h j)
 rwa[show -(u j-v j)=v j-u j by lia]at this
theorem eF.trans{w:Fn}(h:eF p u v)(k:eF p v w):eF p u w:=λj=>by
 have:=pH (h j) (k j)
 rwa[show u j-v j+(v j-w j)=u j-w j by lia]at this
inductive Sp(p:Int)(R:Fn→Prop):Fn→Prop
 |zero:Sp p R (λ_=>0)
 |add {v r:Fn} (c:Int):Sp p R v→R r→Sp p R (λj=>v j+c*r j)
 |cR {u v:Fn}:Sp p R v→eF p v u→Sp p R u
section
variable{p:Int}{R R':Fn→Prop}
theorem Sp.of_eq(h:Sp p R v)(e:∀j,v j=u j):Sp p R u:=.cR h λj=>⟨0,by rw[e j];lia⟩
theorem Sp.mem{r:Fn}(h:R r):Sp p R r:=(Sp.add 1 .zero h).of_eq λj=>by lia
theorem Sp.plus(c:Int)(hu:Sp p R u)(hv:Sp p R v):Sp p R (λj=>u j+c*v j):=by
 induction hv with
 |zero=>exact hu.of_eq λj=>by simp
 | @add v r d _ hr ih=>exact(Sp.add (c*d) ih hr).of_eq λj=>by rw[Int.mul_add,← Int.add_assoc,Int.mul_assoc]
 | @cR w v _ e ih=>
  refine .cR ih λj=>?_
  have:p∣c*(v j-w j):=xT (e j)
  rw[Int.mul_sub]at this;rwa[show u j+c*v j-(u j+c*w j)=c*v j-c*w j by lia]
theorem Sp.trans(h:∀r,R r→Sp p R' r)(hv:Sp p R v):Sp p R' v:=by
 induction hv with
 |zero=>exact .zero
 |add c _ hr ih=>exact ih.plus c (h _ hr)
 |cR _ e ih=>exact .cR ih e
end
noncomputable def fn(r:List Int):Fn:=λj=>r.getD j 0
def RS(L:LL):Fn→Prop:=λf=>∃r∈L,f=fn r
def Rw(p:Int)(n:Nat)(r:List Int):Prop:=r.length=n∧∀x∈r,0≤x∧x<p
def ck(p:Int)(n:Nat)(L:LL):Prop:=∀r∈L,Rw p n r
theorem Rw.at(hp:0<p)(h:Rw p n r)(j:Nat):0≤r.getD j 0∧r.getD j 0<p:=by
 rw[cz (i:=j)];by_cases hj:j<r.length
 ·rw[cn hj];exact h.2 _ (gY hj)
 ·rw[jj (by lia)];exact⟨Int.le_refl 0,hp⟩
theorem Rw.out(h:Rw p n r)(hj:n≤j):r.getD j 0=0:=by
 rw[cz,jj (by rw[h.1];exact hj)];rfl
theorem NG{a b:Int}(h:p∣a-b)(a0:0≤a)(a1:a<p)(b0:0≤b)(b1:b<p):a=b:=by
 obtain⟨c,hc⟩:=h
 have:c=0:=by
  rcases Int.lt_trichotomy c 0 with h|h|h
  ·have:=LD (show c≤-1 by lia) (show 0≤p by lia)
   lia
  ·exact h
  ·have:=LD (show 1≤c by lia) (show 0≤p by lia)
   lia
 rw[this]at hc;lia
theorem Rw.ext{s:List Int}(hp:0<p)(hr:Rw p n r)(hs:Rw p n s)(h:∀j,p∣r.getD j 0-s.getD j 0):r=s:=by
 apply List.ext_getElem (by rw[hr.1,hs.1]);intro i h1 h2
 have:=NG (h i) (hr.at hp i).1 (hr.at hp i).2 (hs.at hp i).1 (hs.at hp i).2
 simpa[cz,h1,h2]using this
theorem yU(f:Int)(hr:r.length=n)(ho:o.length=n)(j:Nat):(fZ p r f o).getD j 0=if j<n then(r.getD j 0+f*o.getD j 0)%p else 0:=by
 by_cases hj:j<n
 ·rw[ae hj];have h1:j<r.length:=by lia
  have h2:j<o.length:=by lia
  have h3:j<(fZ p r f o).length:=by simp[fZ];lia
  rw[cz,cn h3,cz,cn h1,cz,cn h2];simp[fZ]
 ·rw[af hj,cz,jj (by simp[fZ];lia)];rfl
theorem NH(f:Int)(hp:0<p)(hr:r.length=n)(ho:o.length=n):Rw p n (fZ p r f o):=by
 refine⟨by simp[fZ];lia,λx hx=>?_⟩;obtain⟨i,hi,rfl⟩:=l5.mp hx;simp only[fZ,List.getElem_zipWith];exact⟨lY _ (show p≠0 by lia),lZ _ hp⟩
theorem Xm(f:Int)(hr:r.length=n)(ho:o.length=n):eF p (λj=>fn r j+f*fn o j) (fn (fZ p r f o)):=λj=>by
 show p∣r.getD j 0+f*o.getD j 0-(fZ p r f o).getD j 0;rw[yU f hr ho];by_cases hj:j<n
 ·rw[ae hj]
  have:=nh.mpr (oh p (r.getD j 0+f*o.getD j 0))
  rwa[show -((r.getD j 0+f*o.getD j 0)%p-(r.getD j 0+f*o.getD j 0))=r.getD j 0+f*o.getD j 0-(r.getD j 0+f*o.getD j 0)%p by lia]at this
 ·rw[af hj];have e1:r.getD j 0=0:=by rw[cz,jj (by lia)];rfl
  have e2:o.getD j 0=0:=by rw[cz,jj (by lia)];rfl
  rw[e1,e2];exact⟨0,by simp⟩
noncomputable def eA(p:Int)(lead:List Int)(place:Nat)(row:List Int):List Int:=if row.getD place 0≠0 then fZ p row (-(row.getD place 0)) lead else row
section
variable{p:Int}{n place:Nat}{lead row:List Int}
theorem NI(hp:0<p)(hl:Rw p n lead)(hr:Rw p n row):Rw p n (eA p lead place row):=by
 unfold eA;split
 ·exact NH _ hp hr.1 hl.1
 ·exact hr
theorem NJ(hl:Rw p n lead)(hr:Rw p n row):eF p (λj=>fn row j + -(row.getD place 0)*fn lead j) (fn (eA p lead place row)):=by
 unfold eA;split
 ·exact Xm _ hr.1 hl.1
 ·rename_i h
  have h0:row.getD place 0=0:=by simpa using h
  rw[h0];intro j;exact⟨0,by simp⟩
theorem B6(hl:Rw p n lead)(hr:Rw p n row)(hj:lead.getD j 0=0)(hp:0<p):(eA p lead place row).getD j 0=row.getD j 0:=by
 unfold eA;split
 ·rw[yU _ hr.1 hl.1,hj,Int.mul_zero,Int.add_zero];by_cases h:j<n
  ·rw[ae h];exact Int.emod_eq_of_lt (hr.at hp j).1 (hr.at hp j).2
  ·rw[af h,hr.out (by lia)]
 ·rfl
theorem NK(hl:Rw p n lead)(hr:Rw p n row)(h1:lead.getD place 0=1):(eA p lead place row).getD place 0=0:=by
 unfold eA;split
 ·rw[yU _ hr.1 hl.1,h1];split
  ·rw[Int.mul_one,show row.getD place 0 + -(row.getD place 0)=0 by lia];exact Int.zero_emod p
  ·rfl
 ·rename_i h
  simpa using h
end
noncomputable def dR(p:Int)(n:Nat)(h:List Int)(place:Nat):List Int:=kr p [(h,eE p (h.getD place 0))] (List.replicate n 0)
noncomputable def uB(p:Int)(n:Nat)(st:LL×LL)(place:Nat):LL×LL:=
 match st.2.filter λr=>r.getD place 0≠0 with
 | []=>st
 |h::_=>(st.1.map (eA p (dR p n h place) place)++[dR p n h place],st.2.map (eA p (dR p n h place) place))
noncomputable def iR(p:Int)(n:Nat)(L:LL):Nat→LL×LL
 |0=>([],L)
 |k+1=>uB p n (iR p n L k) k
noncomputable def rd(L:LL):Nat:=(L.head?.map List.length).getD 0
noncomputable def dI(p:Int)(L:LL):LL:=(iR p (rd L) L (rd L)).1
structure fu(n k:Nat)(D:LL)(ls:List Nat):Prop where
 len:ls.length=D.length
 up:ls.Pairwise (· < ·)
 lt:∀l∈ls,l<k
 one:∀(i:Nat)(r:List Int)(l:Nat),D[i]?=some r→ls[i]?=some l→r.getD l 0=1∧∀j,j<l→r.getD j 0=0
 alone:∀(i i':Nat)(r:List Int)(l:Nat),i≠i'→D[i']?=some r→ls[i]?=some l→r.getD l 0=0
theorem yV(hh:Rw p n h)(j:Nat):(dR p n h place).getD j 0=if j<n then h.getD j 0*eE p (h.getD place 0)%p else 0:=by
 unfold dR;rw[NF _ (λq hq=>by rw[cQ.mp hq];exact hh.1)];by_cases hj:j<n
 ·rw[ae hj];simp[cz,hj,uA]
 ·rw[af hj];simp[cz,hj]
theorem yX(hp:0<p)(hh:Rw p n h):Rw p n (dR p n h place):=by
 unfold dR;rw[NF _ (λq hq=>by rw[cQ.mp hq];exact hh.1)];refine⟨by simp,λx hx=>?_⟩;obtain⟨j,_,rfl⟩:=dq.mp hx;exact⟨lY _ (show p≠0 by lia),lZ _ hp⟩
theorem NL(hh:Rw p n h):eF p (λj=>eE p (h.getD place 0)*fn h j) (fn (dR p n h place)):=λj=>by
 show p∣eE p (h.getD place 0)*h.getD j 0-(dR p n h place).getD j 0;rw[yV hh,nR];by_cases hj:j<n
 ·rw[ae hj]
  have:=nh.mpr (oh p (h.getD j 0*eE p (h.getD place 0)))
  rwa[show -(h.getD j 0*eE p (h.getD place 0)%p-h.getD j 0*eE p (h.getD place 0))=h.getD j 0*eE p (h.getD place 0)-h.getD j 0*eE p (h.getD place 0)%p by lia]at this
 ·rw[af hj,hh.out (by lia)];exact⟨0,by simp⟩
structure jQ(p:Int)(n:Nat)(L:LL)(k:Nat)(st:LL×LL):Prop where
 d:ck p n st.1
 r:ck p n st.2
 z:∀r∈st.2,∀j,j<k→r.getD j 0=0
 jn:∃ls,fu n k st.1 ls
 sub:∀r∈st.1++st.2,Sp p (RS L) (fn r)
 sup:∀r∈L,Sp p (RS (st.1++st.2)) (fn r)
theorem NM{k:Nat}{st:LL×LL}(hp:p∈cX)(hk:k+1≤n)(I:jQ p n L k st):jQ p n L (k+1) (uB p n st k):=by
  have p0:0<p:=by have:=fI p hp;lia
  obtain⟨D,T⟩:=st;unfold uB;dsimp only;cases hf:T.filter λr=>r.getD k 0≠0 with
  |nil=>
   dsimp only;obtain⟨ls,E⟩:=I.jn;refine⟨I.d,I.r,λr hr j hj=>?_,⟨ls,E.len,E.up,λl hl=>Nat.lt_succ_of_lt (E.lt l hl),E.one,E.alone⟩,I.sub,I.sup⟩;by_cases B7:j<k
   ·exact I.z r hr j B7
   ·have ej:j=k:=by lia
    subst ej;by_cases h0:r.getD j 0=0
    ·exact h0
    ·have:r∈T.filter λr=>r.getD j 0≠0:=jZ.mpr ⟨hr,by simpa using h0⟩
     rw[hf]at this;cases this
  |cons h dZ=>
   dsimp only;have hm:h∈T.filter λr=>r.getD k 0≠0:=by rw[hf];exact cP
   obtain⟨hT,G1⟩:=jZ.mp hm;have acN:h.getD k 0≠0:=by simpa using G1
   have hh:=I.r h hT;have jo:Rw p n (dR p n h k):=yX p0 hh;have hb:=hh.at p0 k;obtain⟨t1,t2,t3⟩:=yT hp (show 1≤h.getD k 0 by lia) hb.2;have l1:(dR p n h k).getD k 0=1:=by rw[yV hh,ae (by lia),nR];exact t3
   have l0:∀j,j<k→(dR p n h k).getD j 0=0:=λj hj=>by
    rw[yV hh,I.z h hT j hj,Int.zero_mul];split
    ·exact Int.zero_emod p
    ·rfl
   have NO:∀{Q:Fn→Prop},Sp p Q (fn h)→Sp p Q (fn (dR p n h k)):=λq=>.cR (((Sp.zero).plus (eE p (h.getD k 0)) q).of_eq λj=>by rw[lA]) (NL hh);have Xn:∀{Q:Fn→Prop},Sp p Q (fn (dR p n h k))→Sp p Q (fn h):=λ{Q} q=>by
    refine .cR (((Sp.zero).plus (h.getD k 0) q)) λj=>?_;rw[lA];show p∣h.getD k 0*(dR p n h k).getD j 0-h.getD j 0;have a:=NL (place:=k) hh j;have a':p∣h.getD k 0*(eE p (h.getD k 0)*fn h j-fn (dR p n h k) j):=xT a;rw[Int.mul_sub]at a';have t4:p∣eE p (h.getD k 0)*h.getD k 0-1:=by
     have z:=nh.mpr (oh p (eE p (h.getD k 0)*h.getD k 0));rw[t3]at z;rwa[show -(1-eE p (h.getD k 0)*h.getD k 0)=eE p (h.getD k 0)*h.getD k 0-1 by lia]at z
    have b:p∣h.getD j 0*(eE p (h.getD k 0)*h.getD k 0-1):=xT t4;have c:=jI b a';have e:h.getD j 0*(eE p (h.getD k 0)*h.getD k 0-1)-(h.getD k 0*(eE p (h.getD k 0)*fn h j)-h.getD k 0*fn (dR p n h k) j)=h.getD k 0*(dR p n h k).getD j 0-h.getD j 0:=by
     show h.getD j 0*(eE p (h.getD k 0)*h.getD k 0-1)-(h.getD k 0*(eE p (h.getD k 0)*h.getD j 0)-h.getD k 0*(dR p n h k).getD j 0)=_;rw[Int.mul_sub,Int.mul_one,Int.mul_left_comm (h.getD k 0),nR (h.getD j 0) (eE p (h.getD k 0)*h.getD k 0),Int.mul_assoc];lia
    rwa[e]at c
   generalize dR p n h k=lead at jo l1 l0 NO Xn ⊢;obtain⟨ls,E⟩:=I.jn;have B8:ls.length=D.length:=E.len;have hD:∀r∈D,Rw p n r:=I.d;have yY:∀r∈T,Rw p n r:=I.r;have spT:Sp p (RS L) (fn h):=I.sub h (iX _ hT);have G5:=NO spT;have NP:∀{Q:Fn→Prop}{r:List Int},Rw p n r→Sp p Q (fn r)→Sp p Q (fn lead)→Sp p Q (fn (eA p lead k r)):=λhr a b=>.cR (a.plus _ b) (NJ jo hr);have NQ:∀{Q:Fn→Prop}{r:List Int},Rw p n r→Sp p Q (fn (eA p lead k r))→Sp p Q (fn lead)→Sp p Q (fn r):=λ{Q r} hr a b=>by
    refine .cR (a.plus (r.getD k 0) b) λj=>?_;have q:=(NJ (place:=k) jo hr j);have q':=nh.mpr q;rwa[show -(fn r j + -(r.getD k 0)*fn lead j-fn (eA p lead k r) j)=fn (eA p lead k r) j+r.getD k 0*fn lead j-fn r j by rw[Int.neg_mul];lia]at q'
   refine⟨λr hr=>?_,λr hr=>?_,λr hr j hj=>?_,⟨ls++[k],?_,?_,?_,?_,?_⟩,λr hr=>?_,λr hr=>?_⟩
   ·rcases(dm.mp hr)with(hr|hr)
    ·obtain⟨r0,h0,rfl⟩:=dq.mp hr;exact NI p0 jo (hD r0 h0)
    ·rw[cQ.mp hr];exact jo
   ·obtain⟨r0,h0,rfl⟩:=dq.mp hr;exact NI p0 jo (yY r0 h0)
   ·obtain⟨r0,h0,rfl⟩:=dq.mp hr;by_cases B7:j<k
    ·rw[B6 jo (yY r0 h0) (l0 j B7) p0];exact I.z r0 h0 j B7
    ·have ej:j=k:=by lia
     subst ej;exact NK jo (yY r0 h0) l1
   ·simp[E.len]
   ·refine List.pairwise_append.mpr ⟨E.up,by simp,λa ha b hb=>?_⟩;rw[cQ.mp hb];exact E.lt a ha
   ·intro l hl;rcases(dm.mp hl)with(hl|hl)
    ·exact Nat.lt_succ_of_lt (E.lt l hl)
    ·rw[cQ.mp hl];exact Nat.lt_succ_self k
   ·intro i r l hr hl;by_cases hi:i<D.length
    ·rw[iA (by simpa using hi),du,cn hi]at hr;rw[iA (by rw[B8];exact hi)]at hl;cases hr;have B9:l<k:=E.lt l (dY hl);obtain⟨o1,o2⟩:=E.one i _ l (cn hi) hl;have rD:=hD _ (gY hi);refine⟨by rw[B6 jo rD (l0 l B9) p0];exact o1,λj hj=>?_⟩;rw[B6 jo rD (l0 j (by lia)) p0];exact o2 j hj
    ·rw[iL (by simpa using hi),bj]at hr;rw[iL (by lia),B8]at hl;have e0:i-D.length=0:=by
      have:=(dO.mp hr).1
      simp at this;lia
     rw[e0]at hr hl;simp at hr hl;subst hr hl;exact⟨l1,l0⟩
   ·intro i i' r l cB hr hl;by_cases hi:i<ls.length
    ·rw[iA hi]at hl;have B9:l<k:=E.lt l (dY hl);by_cases jq:i'<D.length
     ·rw[iA (by simpa using jq),du,cn jq]at hr;cases hr;rw[B6 jo (hD _ (gY jq)) (l0 l B9) p0];exact E.alone i i' _ l cB (cn jq) hl
     ·rw[iL (by simpa using jq),bj]at hr;have e0:i' - D.length=0:=by
       have:=(dO.mp hr).1
       simp at this;lia
      rw[e0]at hr;simp at hr;subst hr;exact l0 l B9
    ·rw[iL (by lia)]at hl;have e0:i-ls.length=0:=by
      have:=(dO.mp hl).1
      simp at this;lia
     rw[e0]at hl;simp at hl;subst hl;by_cases jq:i'<D.length
     ·rw[iA (by simpa using jq),du,cn jq]at hr;cases hr;exact NK jo (hD _ (gY jq)) l1
     ·rw[iL (by simpa using jq),bj]at hr;have e1:i' - D.length=0:=by
       have:=(dO.mp hr).1
       simp at this;lia
      lia
   ·rcases(dm.mp hr)with(hr|hr)
    ·rcases(dm.mp hr)with(hr|hr)
     ·obtain⟨r0,h0,rfl⟩:=dq.mp hr;exact NP (hD r0 h0) (I.sub r0 (nc _ h0)) G5
     ·rw[cQ.mp hr];exact G5
    ·obtain⟨r0,h0,rfl⟩:=dq.mp hr;exact NP (yY r0 h0) (I.sub r0 (iX _ h0)) G5
   ·refine Sp.trans (λf hf=>?_) (I.sup r hr);obtain⟨r0,h0,rfl⟩:=hf;have oi:Sp p (RS (D.map (eA p lead k)++[lead]++T.map (eA p lead k))) (fn lead):=.mem ⟨lead,by simp,rfl⟩;rcases(dm.mp h0)with(h0|h0)
    ·exact NQ (hD r0 h0) (.mem ⟨_,by simp;exact .inl ⟨r0,h0,rfl⟩,rfl⟩) oi
    ·exact NQ (yY r0 h0) (.mem ⟨_,by simp;exact .inr (.inr ⟨r0,h0,rfl⟩),rfl⟩) oi
theorem G6{p:Int}{n:Nat}{L:LL}(hp:p∈cX)(hL:ck p n L):∀k,k≤n→jQ p n L k (iR p n L k)
 |0,_=>⟨λr hr=>absurd hr (by simp[iR]),by simpa[iR]using hL,λr _ j hj=>absurd hj (by lia),⟨[],by simp[iR],.nil,by simp,by simp[iR],by simp⟩,
   λr hr=>.mem ⟨r,by simpa[iR]using hr,rfl⟩,λr hr=>.mem ⟨r,by simpa[iR]using hr,rfl⟩⟩
 |k+1,hk=>NM hp hk (G6 hp hL k (by lia))
noncomputable def Sg(f:Nat→Int):Nat→Int
 |0=>0
 |n+1=>Sg f n+f n
theorem sJ(h:∀i,i<n→f i=0):Sg f n=0:=by
 induction n with
 |zero=>rfl
 |succ n ih=>rw[Sg,ih λi hi=>h i (by lia),h n (by lia)];rfl
theorem uC(f g:Nat→Int)(n:Nat):Sg (λi=>f i+g i) n=Sg f n+Sg g n:=by
 induction n with
 |zero=>rfl
 |succ n ih=>rw[Sg,ih,Sg,Sg];lia
theorem wC(h:∀i,i<n→p∣f i):p∣Sg f n:=by
 induction n with
 |zero=>exact⟨0,by simp[Sg]⟩
 |succ n ih=>rw[Sg];exact pH (ih λi hi=>h i (by lia)) (h n (by lia))
theorem rf(hl:l<n):Sg f n=f l+Sg (λi=>if i=l then 0 else f i) n:=by
 induction n with
 |zero=>lia
 |succ n ih=>
  by_cases h:l=n
  ·subst h;rw[Sg,Sg,ae rfl];have e:Sg (λi=>if i=l then 0 else f i) l=Sg f l:=by
    have:∀m,m≤l→Sg (λi=>if i=l then 0 else f i) m=Sg f m:=by
     intro m;induction m with
     |zero=>intro _;rfl
     |succ m ih=>intro hm;rw[Sg,Sg,ih (by lia),af (by lia)]
    exact this l (cf l)
   rw[e];lia
  ·rw[Sg,Sg,ih (by lia),af (λz=>h z.symm)];lia
def ES(n:Nat)(e:Nat→Option (List Int)):Fn→Prop:=λf=>∃l r,l<n∧e l=some r∧f=fn r
noncomputable def eG(e:Nat→Option (List Int))(l j:Nat):Int:=match e l with|some r=>r.getD j 0|none=>0
theorem ES.coeff{e:Nat→Option (List Int)}(h:Sp p (ES n e) v):∃c:Nat→Int,eF p (λj=>Sg (λl=>c l*eG e l j) n) v:=by
 induction h with
 |zero=>exact⟨λ_=>0,λj=>⟨0,by simp[sJ]⟩⟩
 | @add v r d _ hr ih=>
  obtain⟨c,hc⟩:=ih;obtain⟨l,row,hl,he,rfl⟩:=hr;refine⟨λi=>c i+if i=l then d else 0,λj=>?_⟩
  have e1:Sg (λi=>(c i+if i=l then d else 0)*eG e i j) n=Sg (λi=>c i*eG e i j) n+d*fn row j:=by
   have e2:(λi=>(c i+if i=l then d else 0)*eG e i j)=λi=>c i*eG e i j+(if i=l then d*fn row j else 0):=by
    funext i
    by_cases hi:i=l
    ·subst hi;rw[ae rfl,ae rfl,Int.add_mul]
     congr 1
     simp[eG,he,fn]
    ·rw[af hi,af hi,Int.add_zero,Int.add_zero]
   rw[e2,uC]
   congr 1
   rw[rf hl,ae rfl,sJ λi _=>by by_cases hi:i=l<;>simp[hi]]
   lia
  show p∣Sg (λi=>(c i+if i=l then d else 0)*eG e i j) n-(v j+d*fn row j)
  rw[e1,show Sg (λi=>c i*eG e i j) n+d*fn row j-(v j+d*fn row j)=Sg (λi=>c i*eG e i j) n-v j by lia];exact hc j
 |cR _ q ih=>
  obtain⟨c,hc⟩:=ih;exact⟨c,hc.trans q⟩
structure G7(n:Nat)(e:Nat→Option (List Int)):Prop where
 one:∀l r,e l=some r→l<n→r.getD l 0=1∧∀j,j<l→r.getD j 0=0
theorem G7.zero{p:Int}{n:Nat}{e:Nat→Option (List Int)}{v:Fn}(E:G7 n e)(h:Sp p (ES n e) v)(hz:∀l r,l<n→e l=some r→p∣v l):∀j,p∣v j:=by
 obtain⟨c,hc⟩:=ES.coeff h;have all:∀m,m≤n→∀l,l<m→∀j,p∣c l*eG e l j:=by
  intro m;induction m with
  |zero=>intro _ l hl;lia
  |succ m ih=>
   intro hm l hl j;by_cases sM:l<m
   ·exact ih (by lia) l sM j
   ·have el:l=m:=by lia
    subst el;cases hr:e l with
    |none=>exact⟨0,by simp[eG,hr]⟩
    |some r=>
     obtain⟨o1,o2⟩:=E.one l r hr (by lia);have s:=hc l;dsimp only at s;rw[rf (show l<n by lia)]at s;have dZ:p∣Sg (λi=>if i=l then 0 else c i*eG e i l) n:=wC λi hi=>by
      by_cases h1:i=l
      ·rw[ae h1];exact⟨0,by simp⟩
      ·rw[af h1];by_cases h2:i<l
       ·exact ih (by lia) i h2 l
       ·cases G8:e i with
        |none=>exact⟨0,by simp[eG,G8]⟩
        |some r2=>
         have:=(E.one i r2 G8 hi).2 l (by lia)
         refine⟨0,?_⟩;simp only[eG,G8,this,Int.mul_zero]
     have e1:eG e l l=1:=by simp only[eG,hr];exact o1
     rw[e1,Int.mul_one]at s;have k:=pH (jI s dZ) (hz l r (by lia) hr);rw[show c l+Sg (λi=>if i=l then 0 else c i*eG e i l) n-v l-Sg (λi=>if i=l then 0 else c i*eG e i l) n+v l=c l by lia]at k
     exact Int.dvd_mul_of_dvd_left k
 intro j;have s:=hc j;dsimp only at s;have t:p∣Sg (λl=>c l*eG e l j) n:=wC λi hi=>all n (cf n) i hi j;have k:=jI t s;rwa[show Sg (λl=>c l*eG e l j) n-(Sg (λl=>c l*eG e l j) n-v j)=v j by lia]at k
theorem NR(h:Rw p n r)(hz:∀j,j<n→r.getD j 0=0)(j:Nat):fn r j=0:=by
 by_cases hj:j<n
 ·exact hz j hj
 ·exact h.out (by lia)
noncomputable def iS:LL→List Nat→Nat→Option (List Int)
 |r::D,l::ls,i=>if i=l then some r else iS D ls i
 |_,_,_=>none
theorem wD:∀{D:LL}{ls:List Nat}{l:Nat}{r:List Int},iS D ls l=some r→∃(i:Nat),D[i]?=some r∧ls[i]?=some l
 | [],_,_,_,h=>by simp[iS]at h
 |_::_,[],_,_,h=>by simp[iS]at h
 |q::D,m::ls,l,r,h=>by
  rw[iS]at h;by_cases e:l=m
  ·rw[ae e]at h;cases h;exact⟨0,rfl,by rw[e];rfl⟩
  ·rw[af e]at h;obtain⟨i,h1,h2⟩:=wD h;exact⟨i+1,by simpa using h1,by simpa using h2⟩
theorem NT:∀{D:LL}{ls:List Nat}{i l:Nat}{r:List Int},ls.Pairwise (· < ·)→D[i]?=some r→ls[i]?=some l→iS D ls l=some r
 | [],_,_,_,_,_,h,_=>by simp at h
 |_::_,[],_,_,_,_,_,h=>by simp at h
 |q::D,m::ls,0,l,r,_,h1,h2=>by simp at h1 h2;subst h1 h2;simp[iS]
 |q::D,m::ls,i+1,l,r,hp,h1,h2=>by
  have hl:ls[i]?=some l:=by simpa using h2
  have:m<l:=(Bd.mp hp).1 l (dY hl)
  rw[iS,af (by lia)];exact NT (Bd.mp hp).2 (by simpa using h1) hl
theorem fu.lead{k:Nat}(E:fu n k D ls):G7 k (iS D ls):=⟨λl r h _=>by
 obtain⟨i,h1,h2⟩:=wD h;exact E.one i r l h1 h2⟩
theorem fu.sp{k:Nat}(E:fu n k D ls)(h:Sp p (RS D) v):Sp p (ES k (iS D ls)) v:=h.trans λf hf=>by
 obtain⟨r,hr,rfl⟩:=hf;obtain⟨i,hi,rfl⟩:=l5.mp hr;have hl:i<ls.length:=by rw[E.len];exact hi
 exact .mem ⟨ls[i],D[i],E.lt _ (gY hl),NT E.up (cn hi) (cn hl),rfl⟩
structure Xo(p:Int)(n:Nat)(L D:LL):Prop where
 rws:ck p n D
 jn:∃ls,fu n n D ls
 sub:∀r∈D,Sp p (RS L) (fn r)
 sup:∀r∈L,Sp p (RS D) (fn r)
theorem Ca(h:ck p n L)(cB:L≠[]):rd L=n:=by
 cases L with
 |nil=>exact absurd rfl cB
 |cons r L=>exact(h r cP).1
theorem jr(hp:p∈cX)(hL:ck p n L):Xo p n L (dI p L):=by
 by_cases cB:L=[]
 ·subst cB;exact⟨λr hr=>absurd hr (by simp[dI,rd,iR]),⟨[],by simp[dI,rd,iR],.nil,by simp,by simp,by simp⟩,λr hr=>absurd hr (by simp[dI,rd,iR]),λr hr=>absurd hr (by simp)⟩
 ·unfold dI;rw[Ca hL cB];have I:=G6 hp hL n (cf n);generalize iR p n L n=st at I;refine⟨I.d,I.jn,λr hr=>I.sub r (nc _ hr),λr hr=>(I.sup r hr).trans λf hf=>?_⟩;obtain⟨r0,h0,rfl⟩:=hf;rcases(dm.mp h0)with(h0|h0)
  ·exact .mem ⟨r0,h0,rfl⟩
  ·exact(Sp.zero).of_eq λj=>(NR (I.r r0 h0) (I.z r0 h0) j).symm
theorem fu.same(E:fu n n D ls)(hu:Sp p (RS D) u)(hv:Sp p (RS D) v)(h:∀l∈ls,p∣u l-v l):eF p u v:=λj=>by
 have hd:Sp p (RS D) (λj=>u j+(-1)*v j):=hu.plus (-1) hv
 have:=E.lead.zero (E.sp hd) (λl r _ he=>by
  obtain⟨i,_,h2⟩:=wD he;have q:=h l (dY h2);show p∣u l + -1*v l;rwa[show u l + -1*v l=u l-v l by lia]) j
 rwa[show u j + -1*v j=u j-v j by lia]at this
theorem Xp(hp:p∈cX):¬p∣1:=λ⟨c,hc⟩=>by
 have:=fI p hp
 rcases Int.lt_trichotomy c 0 with h|h|h
 ·have:=LD (show c≤-1 by lia) (show 0≤p by lia)
  lia
 ·rw[h]at hc;lia
 ·have:=LD (show 1≤c by lia) (show 0≤p by lia)
  lia
theorem fu.starts(hp:p∈cX)(E:fu n n D ls)(hv:Sp p (RS D) v)(h1:v l=1)(h0:∀j,j<l→v j=0):l∈ls:=by
 by_cases hm:l∈ls
 ·exact hm
 ·exfalso;obtain⟨c,hc⟩:=ES.coeff (E.sp hv);have all:∀m,m≤l→∀i,i<m→∀j,p∣c i*eG (iS D ls) i j:=by
   intro m;induction m with
   |zero=>intro _ i hi;lia
   |succ m ih=>
    intro hml i hi j;by_cases Xq:i<m
    ·exact ih (by lia) i Xq j
    ·have ei:i=m:=by lia
     subst ei;cases hr:iS D ls i with
     |none=>exact⟨0,by simp[eG,hr]⟩
     |some r=>
      obtain⟨z,z1,z2⟩:=wD hr;have ig:i<n:=E.lt i (dY z2);have s:=hc i;dsimp only at s;rw[rf ig,h0 i (by lia)]at s;have dZ:p∣Sg (λq=>if q=i then 0 else c q*eG (iS D ls) q i) n:=wC λq hq=>by
       by_cases q1:q=i
       ·rw[ae q1];exact⟨0,by simp⟩
       ·rw[af q1];by_cases q2:q<i
        ·exact ih (by lia) q q2 i
        ·cases iB:iS D ls q with
         |none=>exact⟨0,by simp[eG,iB]⟩
         |some r2=>
          have:=(E.lead.one q r2 iB hq).2 i (by lia)
          exact⟨0,by simp only[eG,iB,this,Int.mul_zero]⟩
      have e1:eG (iS D ls) i i=1:=by simp only[eG,hr];exact(E.lead.one i r hr ig).1
      rw[e1,Int.mul_one]at s;have k:=jI s dZ;rw[show c i+Sg (λq=>if q=i then 0 else c q*eG (iS D ls) q i) n-0-Sg (λq=>if q=i then 0 else c q*eG (iS D ls) q i) n=c i by lia]at k
      exact Int.dvd_mul_of_dvd_left k
  have s:=hc l;dsimp only at s;have t:p∣Sg (λq=>c q*eG (iS D ls) q l) n:=wC λq hq=>by
   by_cases q2:q<l
   ·exact all l (cf l) q q2 l
   ·cases iB:iS D ls q with
    |none=>exact⟨0,by simp[eG,iB]⟩
    |some r2=>
     obtain⟨z,z1,z2⟩:=wD iB
     have:q≠l:=λe=>hm (e▸dY z2)
     have:=(E.lead.one q r2 iB hq).2 l (by lia)
     exact⟨0,by simp only[eG,iB,this,Int.mul_zero]⟩
  have k:=jI t s;rw[show Sg (λq=>c q*eG (iS D ls) q l) n-(Sg (λq=>c q*eG (iS D ls) q l) n-v l)=v l by lia,h1]at k;exact Xp hp k
theorem G9:∀{a b:List Nat},a.Pairwise (· < ·)→b.Pairwise (· < ·)→(∀x,x∈a↔x∈b)→a=b
 | [],[],_,_,_=>rfl
 | [],y::b,_,_,h=>absurd ((h y).mpr cP) (by simp)
 |x::a,[],_,_,h=>absurd ((h x).mp cP) (by simp)
 |x::a,y::b,ha,hb,h=>by
  obtain⟨a1,a2⟩:=Bd.mp ha;obtain⟨b1,b2⟩:=Bd.mp hb;have Xr:x=y:=by
   rcases cS.mp ((h x).mp cP)with e|e
   ·exact e
   ·rcases cS.mp ((h y).mpr cP)with e2|e2
    ·exact e2.symm
    ·have:=b1 x e
     have:=a1 y e2
     lia
  subst Xr
  congr 1
  refine G9 a2 b2 λz=>⟨λhz=>?_,λhz=>?_⟩
  ·rcases cS.mp ((h z).mp (dU _ hz))with e|e
   ·have:=a1 z hz;lia
   ·exact e
  ·rcases cS.mp ((h z).mpr (dU _ hz))with e|e
   ·have:=b1 z hz;lia
   ·exact e
theorem fu.unique{D':LL}{rg:List Nat}(hp:p∈cX)(E:fu n n D ls)(E':fu n n D' rg)(hD:ck p n D)(yZ:ck p n D')(s1:∀r∈D,Sp p (RS D') (fn r))(s2:∀r∈D',Sp p (RS D) (fn r)):D=D':=by
 have p0:0<p:=by have:=fI p hp;lia
 have NU:∀{D D':LL}{ls rg:List Nat},fu n n D ls→fu n n D' rg→(∀r∈D,Sp p (RS D') (fn r))→∀x,x∈ls→x∈rg:=λ{D D' ls rg} E E' s x hx=>by
  obtain⟨i,hi,rfl⟩:=l5.mp hx;have NV:i<D.length:=by rw[← E.len];exact hi
  obtain⟨o1,o2⟩:=E.one i D[i] ls[i] (cn NV) (cn hi);exact E'.starts hp (s _ (gY NV)) o1 o2
 have el:ls=rg:=G9 E.up E'.up λx=>⟨NU E E' s1 x,NU E' E s2 x⟩;subst el;have B8:D.length=D'.length:=by rw[← E.len,← E'.len]
 apply List.ext_getElem B8;intro i h1 h2;have hi:i<ls.length:=by rw[E.len];exact h1
 refine(hD _ (gY h1)).ext p0 (yZ _ (gY h2)) ?_;refine E'.same (s1 _ (gY h1)) (.mem ⟨_,gY h2,rfl⟩) λl hl=>?_;obtain⟨k,hk,rfl⟩:=l5.mp hl;by_cases Hg:k=i
 ·subst Hg;have a:=(E.one k D[k] ls[k] (cn h1) (cn hk)).1;have b:=(E'.one k D'[k] ls[k] (cn h2) (cn hk)).1;show p∣(D[k]).getD ls[k] 0-(D'[k]).getD ls[k] 0;rw[a,b];exact⟨0,by lia⟩
 ·have a:=E.alone k i D[i] ls[k] Hg (cn h1) (cn hk);have b:=E'.alone k i D'[i] ls[k] Hg (cn h2) (cn hk);show p∣(D[i]).getD ls[k] 0-(D'[i]).getD ls[k] 0;rw[a,b];exact⟨0,by lia⟩
theorem Xs{L':LL}(hp:p∈cX)(hL:ck p n L)(Xt:ck p n L')(s1:∀r∈L,Sp p (RS L') (fn r))(s2:∀r∈L',Sp p (RS L) (fn r)):dI p L=dI p L':=by
 have A:=jr hp hL;have B:=jr hp Xt;obtain⟨ls,E⟩:=A.jn;obtain⟨rg,E'⟩:=B.jn;have t:∀{P Q:LL},(∀r∈P,Sp p (RS Q) (fn r))→∀{v:Fn},Sp p (RS P) v→Sp p (RS Q) v:=λh v hv=>hv.trans λf hf=>by
  obtain⟨r,hr,rfl⟩:=hf;exact h r hr
 exact E.unique hp E' A.rws B.rws (λr hr=>t B.sup (t s1 (A.sub r hr))) (λr hr=>t A.sup (t s2 (B.sub r hr)))
theorem Xu{f:Int→Int}(hr:r.length=n)(h0:j<n):(r.map f).getD j 0=f (r.getD j 0):=by
 have:j<r.length:=by lia
 rw[cz,du,cn this,cz,cn this];rfl
noncomputable def js(r:List Int):List Nat:=(List.range r.length).filter λj=>r.getD j 0≠0
theorem NW(h:js r=[])(j:Nat)(hj:j<r.length):r.getD j 0=0:=by
 have:=List.filter_eq_nil_iff.mp h j (nN.mpr hj)
 simpa using this
theorem NX{t:List Nat}(h:js r=l::t):l<r.length∧r.getD l 0≠0∧∀j,j<l→r.getD j 0=0:=by
 have hm:l∈js r:=by rw[h];exact cP
 have h1:=jZ.mp hm;have hl:=nN.mp h1.1;refine⟨hl,by simpa using h1.2,λj hj=>?_⟩;apply Classical.byContradiction;intro cB;have wF:j∈js r:=jZ.mpr ⟨nN.mpr (by lia),by simpa using cB⟩;rw[h]at wF;have hs:(js r).Pairwise (· < ·):=List.Pairwise.filter _ List.pairwise_lt_range;rw[h]at hs;cases wF with
 |head=>lia
 |tail _ wF=>have:=(Bd.mp hs).1 j wF;lia
theorem Xv(hr:r.length=n)(hl:l<n)(h1:r.getD l 0=1)(h0:∀j,j<l→r.getD j 0=0):∃t,js r=l::t:=by
 cases h:js r with
 |nil=>have:=NW h l (by lia);lia
 |cons m t=>
  obtain⟨a,b,c⟩:=NX h
  have:m=l:=by
   apply Classical.byContradiction;intro cB;by_cases cL:m<l
   ·exact b (h0 m cL)
   ·have:=c l (by lia);lia
  exact⟨t,by rw[this]⟩
noncomputable def dot(f v:Fn)(m:Nat):Int:=Sg (λi=>f i*v i) m
theorem y3{g:Nat→Int}(h:∀i,i<n→f i=g i):Sg f n=Sg g n:=by
 induction n with
 |zero=>rfl
 |succ n ih=>rw[Sg,Sg,ih λi hi=>h i (by lia),h n (by lia)]
theorem Xw(c:Int)(f:Nat→Int)(n:Nat):Sg (λi=>c*f i) n=c*Sg f n:=by
 induction n with
 |zero=>simp[Sg]
 |succ n ih=>rw[Sg,Sg,ih,Int.mul_add]
theorem Xx(f u v:Fn)(c:Int)(m:Nat):dot f (λj=>u j+c*v j) m=dot f u m+c*dot f v m:=by
 unfold dot;rw[← Xw,← uC];exact y3 λi _=>by rw[Int.mul_add,Int.mul_left_comm]
theorem Xy{f:Fn}{m:Nat}(h:eF p u v):p∣dot f u m-dot f v m:=by
 have e:dot f u m-dot f v m=Sg (λi=>f i*(u i-v i)) m:=by
  have:dot f u m=Sg (λi=>f i*(u i-v i)) m+dot f v m:=by
   unfold dot;rw[← uC];exact y3 λi _=>by rw[← Int.mul_add];congr 1;lia
  lia
 rw[e];exact wC λi _=>Int.dvd_trans (h i) (Int.dvd_mul_left _ _)
theorem NY{f:Fn}{m:Nat}{R:Fn→Prop}(h:∀r,R r→p∣dot f r m)(hv:Sp p R v):p∣dot f v m:=by
 induction hv with
 |zero=>exact⟨0,by unfold dot;rw[sJ λi _=>by simp];simp⟩
 |add c _ hr ih=>
  rw[Xx];exact pH ih (Int.dvd_trans (h _ hr) (Int.dvd_mul_left _ _))
 |cR _ e ih=>
  have:=jI ih (Xy (f:=f) (m:=m) e)
  rwa[show ∀a b:Int,a-(a-b)=b from λa b=>by lia]at this
noncomputable def Hh(f:Fn)(c:Nat):Fn:=λi=>if i=c then -1 else f i
theorem wG{fs:List Int}{k:Nat}{v:Int}(h:l<fs.length):(fs.set l v).getD k 0=if k=l then v else fs.getD k 0:=by
 rw[cz,List.getElem?_set];by_cases e:l=k
 ·subst e;simp[h]
 ·rw[af e,af (λz=>e z.symm),cz]
noncomputable def col(rs:LL)(j:Nat):Fn:=fn (rs.map λq=>q.getD j 0)
theorem Cb{rs:LL}{k:Nat}{q:List Int}(h:rs[k]?=some q):col rs j k=q.getD j 0:=by
 show(rs.map λq=>q.getD j 0).getD k 0=_;rw[cz,du,h];rfl
theorem NZ{p:Int}{rs:LL}(f:Fn):∀m,m≤rs.length→Sp p (RS rs) (λj=>dot f (col rs j) m)
 |0,_=>Sp.zero
 |m+1,h=>by
  have hm:m<rs.length:=h;refine(Sp.add (f m) (NZ f m (by lia)) ⟨rs[m],gY hm,rfl⟩).of_eq λj=>?_;show dot f (col rs j) m+f m*fn rs[m] j=dot f (col rs j) (m+1);unfold dot;rw[Sg,Cb (cn hm)];rfl
theorem mx{U:List Fn}(h:Sp p (·∈u::U) v):∃(c:Int)(w:Fn),Sp p (·∈U) w∧eF p (λj=>w j+c*u j) v:=by
 induction h with
 |zero=>exact⟨0,λ_=>0,.zero,λj=>⟨0,by simp⟩⟩
 | @add v r d _ hr ih=>
  obtain⟨c,w,hw,e⟩:=ih;rcases(cS.mp hr)with(rfl|hr)
  ·refine⟨c+d,w,hw,λj=>?_⟩;obtain⟨k,hk⟩:=e j;exact⟨k,by grind⟩
  ·refine⟨c,_,Sp.add d hw hr,λj=>?_⟩;obtain⟨k,hk⟩:=e j;exact⟨k,by grind⟩
 |cR _ e ih=>
  obtain⟨c,w,hw,e2⟩:=ih;exact⟨c,w,hw,e2.trans e⟩
theorem jt{R:Fn→Prop}(h0:∀f,¬R f)(h:Sp p R v)(j:Nat):p∣v j:=by
 induction h with
 |zero=>exact⟨0,by simp⟩
 |add c _ hr ih=>exact absurd hr (h0 _)
 |cR _ e ih=>
  obtain⟨k,hk⟩:=ih;obtain⟨k2,hk2⟩:=e j;exact⟨k-k2,by grind⟩
structure BI(p:Int)(n:Nat)(D:LL)(ls:List Nat)(place i:Nat)(bs:List Int):Prop where
 rw:Rw p n bs
 at_:∀(i' l:Nat)(r:List Int),i'<i→ls[i']?=some l→D[i']?=some r→bs.getD l 0=-(r.getD place 0)%p
 off:∀k:Nat,(∀i',i'<i→ls[i']?≠some k)→bs.getD k 0=if k=place then 1 else 0
theorem N0(n k:Nat):(List.replicate n (0:Int)).getD k 0=0:=by
 rw[cz,vL];split<;>rfl
theorem BI.start(p2:2≤p)(hn:place<n):BI p n D ls place 0 ((List.replicate n 0).set place 1):=
 ⟨⟨by simp,λx hx=>by
  rcases List.mem_or_eq_of_mem_set hx with h|rfl
  ·rw[(List.mem_replicate.mp h).2];lia
  ·lia⟩,λ_ _ _ h=>by lia,λk _=>by rw[wG (by simpa using hn),N0]⟩
theorem BI.step{bs:List Int}(p0:0<p)(F:BI p n D ls place i bs)(up:ls.Pairwise (· < ·))(hl:ls[i]?=some l)(hD:D[i]?=some r)(hc:l<n):BI p n D ls place (i+1) (bs.set l (-(r.getD place 0)%p)):=by
 have p8:l<bs.length:=by rw[F.rw.1];exact hc
 have ne:∀i' l',i'<i→ls[i']?=some l'→l'≠l:=λi' l' h1 h2 z=>by
  obtain⟨a,ea⟩:=dO.mp h2;obtain⟨b,eb⟩:=dO.mp hl
  have:=List.pairwise_iff_getElem.mp up i' i a b h1
  lia
 refine⟨⟨by rw[List.length_set];exact F.rw.1,λx hx=>?_⟩,λi' l' r' h1 h2 h3=>?_,λk hk=>?_⟩
 ·rcases List.mem_or_eq_of_mem_set hx with h|rfl
  ·exact F.rw.2 x h
  ·exact⟨lY _ (by lia),lZ _ p0⟩
 ·by_cases e:i'=i
  ·subst e;rw[hl]at h2;rw[hD]at h3;cases h2;cases h3;rw[wG p8,ae rfl]
  ·rw[wG p8,af (ne i' l' (by lia) h2)];exact F.at_ i' l' r' (by lia) h2 h3
 ·have:k≠l:=λz=>hk i (by lia) (by rw[hl,z])
  rw[wG p8,af this];exact F.off k λi' h=>hk i' (by lia)
structure Cc(p:Int)(n:Nat)(D:LL)(ls:List Nat)(place:Nat)(bs:List Int):Prop where
 rw:Rw p n bs
 lead:∀(i l:Nat)(r:List Int),ls[i]?=some l→D[i]?=some r→bs.getD l 0=-(r.getD place 0)%p
 off:∀k:Nat,k ∉ ls→bs.getD k 0=if k=place then 1 else 0
theorem BI.done{bs:List Int}(len:ls.length=D.length)(F:BI p n D ls place D.length bs):Cc p n D ls place bs:=
 ⟨F.rw,λi l r h1 h2=>F.at_ i l r (dO.mp h2).1 h1 h2,λk hk=>F.off k λi _ h=>hk (dY h)⟩
theorem Xz{a b:Nat}(ha:a<n)(hb:b<n)(cB:a≠b)(h:∀i,i<n→i≠a→i≠b→f i=0):Sg f n=f a+f b:=by
 rw[rf ha,rf (f:=λi=>if i=a then 0 else f i) hb]
 rw[sJ λi hi=>?_]
 ·simp only[af (Ne.symm cB)];lia
 ·by_cases h1:i=b
  ·simp[h1]
  ·by_cases h2:i=a
   ·simp[h2]
   ·simp[h1,h2,h i hi h2 h1]
theorem Cc.dot{p:Int}{n place:Nat}{D:LL}{ls:List Nat}{bs:List Int}(B:Cc p n D ls place bs)(E:fu n n D ls)(hn:place<n)(hp:place ∉ ls):∀r∈D,p∣Bw.dot (fn bs) (fn r) n:=λr hr=>by
 obtain⟨i,hi,rfl⟩:=l5.mp hr;have uD:i<ls.length:=by rw[E.len];exact hi
 have hD:=cn hi;have hL:=cn uD;obtain⟨o1,_⟩:=E.one i _ _ hD hL;have cL:=E.lt _ (gY uD);have cB:ls[i]≠place:=λz=>hp (z▸gY uD);unfold Bw.dot;rw[Xz cL hn cB λk hk h1 h2=>?_]
 ·show p∣bs.getD ls[i] 0*(D[i]).getD ls[i] 0+bs.getD place 0*(D[i]).getD place 0;rw[o1,B.lead i _ _ hL hD,B.off place hp,ae rfl];obtain⟨k,hk⟩:=oh p (-((D[i]).getD place 0));exact⟨k,by grind⟩
 ·show bs.getD k 0*(D[i]).getD k 0=0;by_cases hm:k∈ls
  ·obtain⟨j,hj,rfl⟩:=l5.mp hm
   have:j≠i:=λz=>h1 (by subst z;rfl)
   rw[E.alone j i _ _ this hD (cn hj),Int.mul_zero]
  ·rw[B.off k hm,af h2,Int.zero_mul]
noncomputable def lK(n:Nat)(ls:List Nat):List Nat:=(List.range n).filter λj=>j ∉ ls
theorem XA(up:ls.Pairwise (· < ·))(lt:∀l∈ls,l<n):(lK n ls).length+ls.length=n:=by
 have hnd:ls.Nodup:=up.imp λh=>by lia
 have h1:((List.range n).filter λj=>j∈ls).length=ls.length:=by
  have e:((List.range n).filter λj=>j∈ls)=ls:=by
   refine G9 (List.Pairwise.filter _ List.pairwise_lt_range) up λx=>?_;simp only[jZ,nN,aF];exact⟨λh=>h.2,λh=>⟨lt x h,h⟩⟩
  rw[e]
 have h2:∀L:List Nat,(L.filter λj=>j ∉ ls).length+(L.filter λj=>j∈ls).length=L.length:=by
  intro L;induction L with
  |nil=>rfl
  |cons a L ih=>
   by_cases h:a∈ls
   ·rw[xU (by simpa using h),vO (by simpa using h),dB,dB];lia
   ·rw[vO (by simpa using h),xU (by simpa using h),dB,dB];lia
 have:=h2 (List.range n)
 rw[h1,oM]at this;exact this
structure y4(p:Int)(n:Nat)(D:LL)(ls:List Nat)(fs:List Nat)(B:LL):Prop where
 len:B.length=fs.length
 at_:∀(i l:Nat)(b:List Int),fs[i]?=some l→B[i]?=some b→Cc p n D ls l b
theorem y4.rws{B:LL}{fs:List Nat}(h:y4 p n D ls fs B):ck p n B:=λr hr=>by
 obtain⟨i,hi,rfl⟩:=l5.mp hr;exact(h.at_ i _ _ (cn (by rw[← h.len];exact hi)) (cn hi)).rw
noncomputable def Cd(D:LL):List Nat:=D.map λr=>(js r).headD 0
noncomputable def ku(p:Int)(n:Nat)(D:LL)(place:Nat):Nat→List Int
 |0=>(List.replicate n 0).set place 1
 |i+1=>(ku p n D place i).set ((js (D.getD i [])).headD 0) (-((D.getD i []).getD place 0)%p)
noncomputable def sN(p:Int)(n:Nat)(D:LL):LL:=(lK n (Cd D)).map λpl=>ku p n D pl D.length
section
variable{p:Int}{n:Nat}{D:LL}{ls:List Nat}
theorem fu.Ce(E:fu n n D ls)(hD:ck p n D)(h:D[i]?=some r):∃l t,ls[i]?=some l∧js r=l::t∧l<n:=by
 have hi:i<ls.length:=by rw[E.len];exact(dO.mp h).1
 have hl:=cn hi;obtain⟨o1,o0⟩:=E.one i r _ h hl;have cL:=E.lt _ (gY hi);obtain⟨t,ht⟩:=Xv (hD r (dY h)).1 cL o1 o0;exact⟨_,t,hl,ht,cL⟩
theorem N1(E:fu n n D ls)(hD:ck p n D):Cd D=ls:=by
 apply List.ext_getElem?;intro i;unfold Cd;rw[du];cases h:D[i]? with
 |none=>
  have:D.length≤i:=List.getElem?_eq_none_iff.mp h
  rw[jj (by rw[E.len];exact this)];rfl
 |some r=>
  obtain⟨l,t,h1,h2,_⟩:=E.Ce hD h;rw[h1];show some ((js r).headD 0)=_;rw[h2];rfl
theorem XB{α:Type}{L:List α}{x d:α}(h:L[i]?=some x):L.getD i d=x:=by
 rw[cz,h];rfl
theorem N2{t:List Nat}(h:D[i]?=some r)(hl:js r=l::t):ku p n D place (i+1)=(ku p n D place i).set l (-(r.getD place 0)%p):=by
 rw[ku,XB h,hl];rfl
theorem Cf(hp:p∈cX)(E:fu n n D ls)(hD:ck p n D){place:Nat}(hn:place<n):∀i,i≤D.length→BI p n D ls place i (ku p n D place i)
 |0,_=>.start (fI p hp).1 hn
 |i+1,h=>by
  have hi:i<D.length:=h;have yZ:=cn hi;obtain⟨l,t,h1,h2,h3⟩:=E.Ce hD yZ;rw[N2 yZ h2];exact(Cf hp E hD hn i (by lia)).step (by have:=fI p hp;lia) E.up h1 yZ h3
theorem N3(hp:p∈cX)(E:fu n n D ls)(hD:ck p n D):y4 p n D ls (lK n ls) (sN p n D):=by
 unfold sN;rw[N1 E hD];refine⟨by simp,λi l b h1 h2=>?_⟩;rw[du,h1]at h2;cases h2;have hl:=jZ.mp (dY h1);exact(Cf hp E hD (nN.mp hl.1) _ (cf _)).done E.len
end
end Bw
namespace L2
open PySem Bw
def LR(N:Addr→Prop)(H:Hp)(LS:List V)(L:LL):Prop:=LS.length=L.length∧∀(i:Nat)(v:V)(r:List Int),LS[i]?=some v→L[i]?=some r→∃a,v=.ref a∧N a∧H a=some (.lst (r.map V.int))
section
variable{N:Addr→Prop}{H H':Hp}{LS:List V}{L:LL}{l a:Addr}{o:HO}{r:List Int}
theorem LR.nil:LR N H [] []:=⟨rfl,λi v r h=>by simp at h⟩
theorem LR.mono(h:LR N H LS L)(e:aL H H'):LR N H' LS L:=⟨h.1,λi v r a b=>by
 obtain⟨x,rfl,hN,g⟩:=h.2 i v r a b;exact⟨x,rfl,hN,e _ _ g⟩⟩
theorem LR.fresh(h:LR N H LS L)(hl:H l=none):LR (·≠l) (upd H l o) LS L:=⟨h.1,λi v r a b=>by
 obtain⟨x,rfl,hN,g⟩:=h.2 i v r a b;have ne:=eQ g hl;exact⟨x,rfl,ne,by rw[bZ ne];exact g⟩⟩
theorem LR.wr(h:LR (·≠l) H LS L):LR (·≠l) (upd H l o) LS L:=⟨h.1,λi v r a b=>by
 obtain⟨x,rfl,ne,g⟩:=h.2 i v r a b;exact⟨x,rfl,ne,by rw[bZ ne];exact g⟩⟩
theorem LR.snoc(h:LR N H LS L)(hN:N a)(g:H a=some (.lst (r.map V.int))):LR N H (LS++[.ref a]) (L++[r]):=⟨by simp[h.1],λj v q e1 e2=>by
 by_cases hj:j<LS.length
 ·rw[iA hj]at e1;rw[iA (by rw[← h.1];exact hj)]at e2;exact h.2 j v q e1 e2
 ·rw[iL (by lia)]at e1;rw[iL (by rw[← h.1];lia),← h.1]at e2;cases hk:j-LS.length with
  |zero=>rw[hk]at e1 e2;cases e1;cases e2;exact⟨a,rfl,hN,g⟩
  |succ k=>rw[hk]at e1;cases e1⟩
end
end L2
namespace L2
open PySem PySem.Spec PyProof.Rows
def N4:V→List V→Hp→VK→Prop:=λx vs H Q=>∃(l:Addr)(xs:List V)(i:Int)(k:Nat)(y:V),x=.ref l∧vs=[.int i,y]∧i=k∧H l=some (.lst xs)∧k≤xs.length∧xs.length<sizeLine∧k≤1000000∧Q .cg (upd H l (.lst (xs.take k++y::xs.drop k)))
theorem XC{X:Cx}:yD X "list.insert" N4:=by
 intro aH s σ H x vs v us Q I rx rv h;obtain⟨l,xs,i,k,y,rfl,rfl,rfl,hH,hk,hz,hb,q⟩:=h;cases rx;obtain⟨u1,u2,rfl,XD,XE⟩:=vals2 rv;obtain⟨t,rfl⟩:=XD;obtain⟨z,its,n,r,hl,e⟩:=I.qV hH;obtain⟨ix,wk⟩:∃ix:Int,ix=(k:Int):=⟨_,rfl⟩;obtain⟨arr,N5⟩:∃arr:Array Value,arr=its.toArray:=⟨_,rfl⟩;have Ga:¬(!Builtin.List.listFitsIndex ix)=true:=by
  rw[fitsIndex_both (by lia) (by lia)];exact gX
 have hsz:arr.size≤sizeLine:=by rw[N5,dE];lia
 have ea:=e;rw[← N5]at ea;rw[← wk];refine aC F.slot_list_insert ⟨_,e,rfl⟩ F.entry_list_insert (F.args_list_insert_3 _ _ _) (AutoSeq1.list_insert_list_int_val_1 l arr n ix t u2 Ga hsz) ⟨ea,?_⟩;refine⟨.cg,_,I.yE (its':=its.take k++u2::its.drop k) hH e ?_ ?_ ?_,rfl,q⟩
 ·have h0:¬(ix<0):=by lia
  have hm:min (ix.toNat) its.toArray.size=k:=by rw[dE];lia
  simp only[h0,if_false,hm];simp;rw[lB (by rw[fE];lia)]
 ·exact(r.take k).append (.cons XE (r.drop k))
 ·rw[cx,dB,dv,fE];lia
end L2
namespace L2
open PySem Bw
variable{H:Hp}{L:LL}{LS:List V}{N:Addr→Prop}
theorem LR.erase(h:LR N H LS L)(i:Nat):LR N H (LS.eraseIdx i) (L.eraseIdx i):=by
 refine⟨by rw[List.length_eraseIdx,List.length_eraseIdx,h.1],λj v r e1 e2=>?_⟩;rw[List.getElem?_eraseIdx]at e1 e2;split at e1
 ·rw[ae (by assumption)]at e2;exact h.2 _ v r e1 e2
 ·rw[af (by assumption)]at e2;exact h.2 _ v r e1 e2
theorem LR.at{i:Nat}{r:List Int}(h:LR N H LS L)(hi:L[i]?=some r):∃a,LS[i]?=some (.ref a)∧N a∧H a=some (.lst (r.map V.int)):=by
 have il:=(dO.mp hi).1
 have:i<LS.length:=by rw[h.1];exact il
 obtain⟨a,e,hN,g⟩:=h.2 i _ r (cn this) hi;exact⟨a,by rw[cn this,e],hN,g⟩
theorem LR.any(h:LR N H LS L):LR (λ_=>True) H LS L:=⟨h.1,λi v r a b=>by
 obtain⟨x,e,_,g⟩:=h.2 i v r a b;exact⟨x,e,trivial,g⟩⟩
theorem LR.get{i:Nat}{v:V}(h:LR N H LS L)(hi:LS[i]?=some v):∃a r,v=.ref a∧L[i]?=some r∧N a∧H a=some (.lst (r.map V.int)):=by
 have il:=(dO.mp hi).1
 have:i<L.length:=by rw[← h.1];exact il
 obtain⟨a,e,hN,g⟩:=h.2 i v _ hi (cn this);exact⟨a,_,e,cn this,hN,g⟩
end L2
namespace L2
open PySem PySem.Spec PyProof.Rows
variable{H H':Hp}{X:Cx}{aU:List (List Key×V)}{u:Value}{xs:List (List Key×Addr×Value)}{y:V}
section
variable{κ:Type} [DecidableEq κ]
noncomputable def eV(aU:List (κ×V))(k:κ):Option V:=(aU.find? λkv=>decide (kv.1=k)).map (·.2)
noncomputable def gS(aU:List (κ×V))(k:κ)(v:V):List (κ×V):=
 if(aU.any λkv=>decide (kv.1=k))=true then aU.map (λkv=>if kv.1=k then(kv.1,v)else kv)else aU++[(k,v)]
theorem kf{p:κ×V}{r:List (κ×V)}{k:κ}(e:p.1=k):eV (p::r) k=some p.2:=by simp[eV,List.find?_cons,e]
theorem oj{p:κ×V}{r:List (κ×V)}{k:κ}(e:¬p.1=k):eV (p::r) k=eV r k:=by simp[eV,List.find?_cons,e]
theorem y6(k:κ):∀aU:List (κ×V),(aU.any λkv=>decide (kv.1=k))=(eV aU k).isSome
 | []=>rfl
 |p::r=>by
  rw[List.any_cons];by_cases e:p.1=k
  ·simp only[kf e,aD e,Bool.true_or,Option.isSome_some]
  ·rw[oj e,aa e,Bool.false_or];exact y6 k r
theorem N6(k j:κ)(y:V):∀aU:List (κ×V),eV (aU.map λkv=>if kv.1=k then(kv.1,y)else kv) j=(eV aU j).map λx=>if j=k then y else x
 | []=>rfl
 |p::r=>by
  have ih:=N6 k j y r;rw[nP];by_cases h:p.1=k
  ·rw[ae h];by_cases e:p.1=j
   ·rw[kf (p:=(p.1,y)) e,kf e,Option.map_some,ae (e.symm.trans h)]
   ·rw[oj (p:=(p.1,y)) e,oj e,ih]
  ·rw[af h];by_cases e:p.1=j
   ·rw[kf (p:=p) e,kf e,Option.map_some,af (λz=>h (e.trans z))]
   ·rw[oj (p:=p) e,oj e,ih]
theorem N7(k j:κ)(y:V):∀aU:List (κ×V),eV aU k=none→eV (aU++[(k,y)]) j=if j=k then some y else eV aU j
 | [],_=>by
  by_cases e:k=j
  ·rw[ae e.symm];exact kf (p:=(k,y)) e
  ·rw[af (λz=>e z.symm)];exact oj (p:=(k,y)) e
 |p::r,hn=>by
  rw[List.cons_append];have hk:¬p.1=k:=λz=>by rw[kf z]at hn;cases hn
  rw[oj hk]at hn;have ih:=N7 k j y r hn;by_cases e:p.1=j
  ·rw[kf e,kf e,af (λz=>hk (e.trans z))]
  ·rw[oj e,oj e,ih]
theorem XF(aU:List (κ×V))(k j:κ)(y:V):eV (gS aU k y) j=if j=k then some y else eV aU j:=by
 unfold gS;by_cases a:(aU.any λkv=>decide (kv.1=k))=true
 ·rw[ae a,N6];rw[y6]at a;by_cases e:j=k
  ·obtain⟨x,hx⟩:=Option.isSome_iff_exists.mp a;rw[ae e,e,hx,Option.map_some,ae rfl]
  ·rw[af e];cases eV aU j with
   |none=>rfl
   |some x=>rw[Option.map_some,af e]
 ·rw[af a];refine N7 k j y aU ?_;rw[y6]at a;cases q:eV aU k with
  |none=>rfl
  |some x=>rw[q]at a;exact(a rfl).elim
theorem Ci(aU:List (κ×V))(k:κ)(v:V):(gS aU k v).length≤aU.length+1:=by
 unfold gS;split
 ·rw[bj];lia
 ·rw[cx,dB,List.length_nil];lia
theorem Hi{aU:List (κ×V)}{k:κ}(v:V)(h:eV aU k=none):gS aU k v=aU++[(k,v)]:=by
 unfold gS;rw[y6,h];exact af (by decide)
theorem oQ.XG{o:Option V}{u:Option Value}(r:oQ o u):o.isSome=u.isSome:=by
 cases o with
 |none=>cases u with
  |none=>rfl
  |some _=>exact(show False from r).elim
 |some _=>cases u with
  |none=>exact(show False from r).elim
  |some _=>rfl
theorem KV.val{aU:List (κ×V)}{vs:List (κ×Value)}(r:KV aU vs)(k:κ):oQ (eV aU k) (valueAt vs k):=by
 unfold KV at r;induction r with
 |nil=>exact True.intro
 | @cons p q ps qs h t ih=>
  obtain⟨h1,h2⟩:=h;by_cases e:p.1=k
  ·have e':q.1=k:=h1.symm.trans e;have b:valueAt (q::qs) k=some q.2:=by simp[valueAt,List.find?_cons,e']
   rw[kf e,b];exact h2
  ·have e':¬q.1=k:=λz=>e (h1.trans z);have b:valueAt (q::qs) k=valueAt qs k:=by simp[valueAt,List.find?_cons,e']
   rw[oj e,b];exact ih
theorem KV.any{aU:List (κ×V)}{vs:List (κ×Value)}(r:KV aU vs)(k:κ):(aU.any λkv=>decide (kv.1=k))=vs.any λkv=>decide (kv.1=k):=by
 unfold KV at r;induction r with
 |nil=>rfl
 |cons h t ih=>rw[List.any_cons,List.any_cons,ih,h.1]
theorem KV.Hj{aU:List (κ×V)}{vs:List (κ×Value)}(r:KV aU vs)(k:κ)(ry:RelV y u) :
  KV (aU.map λkv=>if kv.1=k then(kv.1,y)else kv) (vs.map λkv=>if kv.1=k then(kv.1,u)else kv):=by
 unfold KV at r ⊢;induction r with
 |nil=>exact .nil
 | @cons p q ps qs h t ih=>
  rw[nP,nP];refine .cons ?_ ih;obtain⟨h1,h2⟩:=h;by_cases e:p.1=k
  ·rw[ae e,ae (h1.symm.trans e)];exact⟨h1,ry⟩
  ·rw[af e,af (λz=>e (h1.trans z))];exact⟨h1,h2⟩
theorem KV.put{aU:List (κ×V)}{vs:List (κ×Value)}(r:KV aU vs)(k:κ)(ry:RelV y u):KV (gS aU k y) (stored vs k u):=by
 unfold gS stored;rw[r.any k];by_cases e:(vs.any λkv=>decide (kv.1=k))=true
 ·rw[ae e,ae e];exact r.Hj k ry
 ·rw[af e,af e];exact Paired.snoc r ⟨rfl,ry⟩
theorem KV.length{aU:List (κ×V)}{vs:List (κ×Value)}(r:KV aU vs):aU.length=vs.length:=Paired.length r
end
theorem Cj{P:Program}{w:World}{k:Key}(r:RelV (kV k) u):(kl P w).is k u=true:=by
 cases k with
 |inl i=>obtain⟨t,e⟩:=(show ∃t,u=Value.int i t from r);subst e;exact TX P w i t
 |inr x=>obtain⟨t,e⟩:=(show ∃t,u=Value.str x t from r);subst e;exact TY P w x t
theorem N8{P:Program}{w:World}:∀{ks:List Key}{us:List Value},Vals (ks.map kV) us→ItemsAre (kl P w) ks us
 | [],_,r=>by rw[List.map_nil]at r;cases r;exact .nil
 |k::ks,_,r=>by
  rw[nP]at r;cases r with
  |cons h t=>exact .cons (Cj h) (N8 t)
abbrev KT(H:Hp):List (List Key×V)→List (List Key×Addr×Value)→Prop:=Paired λp q=>p.1=q.1∧H q.2.1=some (.tup (p.1.map kV))∧RelV p.2 q.2.2
theorem KT.val(r:KT H aU xs)(k:List Key):oQ (eV aU k) ((atKey xs k).map (·.2)):=by
 induction r with
 |nil=>exact True.intro
 | @cons p q ps qs h t ih=>
  obtain⟨h1,_,h2⟩:=h;by_cases e:p.1=k
  ·have e':q.1=k:=h1.symm.trans e;have b:atKey (q::qs) k=some q.2:=by simp[atKey,List.find?_cons,e']
   rw[kf e,b];exact h2
  ·have e':¬q.1=k:=λz=>e (h1.trans z);have b:atKey (q::qs) k=atKey qs k:=by simp[atKey,List.find?_cons,e']
   rw[oj e,b];exact ih
theorem KT.Hj(r:KT H aU xs)(k:List Key)(ry:RelV y u) :
  KT H (aU.map λkv=>if kv.1=k then(kv.1,y)else kv) (xs.map (putAt k u)):=by
 induction r with
 |nil=>exact .nil
 | @cons p q ps qs h t ih=>
  rw[nP,nP];refine .cons ?_ ih;obtain⟨h1,h2,h3⟩:=h;unfold putAt;by_cases e:p.1=k
  ·rw[ae e,ae (h1.symm.trans e)];exact⟨h1,h2,ry⟩
  ·rw[af e,af (λz=>e (h1.trans z))];exact⟨h1,h2,h3⟩
theorem KT.put(r:KT H aU xs)(k:List Key){b:Addr}(hb:H b=some (.tup (k.map kV)))(ry:RelV y u) :
  KT H (gS aU k y) (storedH xs k b u):=by
 have e:(aU.any λkv=>decide (kv.1=k))=(atKey xs k).isSome:=by
  rw[y6,(r.val k).XG,Option.isSome_map]
 unfold gS storedH;rw[e];by_cases q:(atKey xs k).isSome=true
 ·rw[ae q,ae q];exact r.Hj k ry
 ·rw[af q,af q];exact Paired.snoc r ⟨rfl,hb,ry⟩
theorem KT.keeps(r:KT H aU xs)(ht:∀b ys,H b=some (.tup ys)→H' b=some (.tup ys)):KT H' aU xs:=
 Paired.Fb r λ_ _ z=>⟨z.1,ht _ _ z.2.1,z.2.2⟩
section
variable{P:Program}{w:World}{H:Hp}{h:Heap}{a:Addr}
theorem N9{u:HO}(ok:dG P w H h)(e:Rd H a u):eC P w H h a u:=e.ok ok
theorem Hl{aU:List (Key×V)}(ok:dG P w H h)(e:Rd H a (.dK aU)):aU.length≤sizeLine∧(a==sysModules)=false∧∃vs,KV aU vs∧h.DictOf (kl P w) a vs:=
 show eC P w H h a (.dK aU) from N9 ok e
theorem Oa{aU:List (Key×V)}(ok:dG P w H h)(e:H a=some (.dK aU)):aU.length≤sizeLine∧(a==sysModules)=false∧∃vs,KV aU vs∧h.DictOf (kl P w) a vs:=Hl ok (.inl e)
theorem Hn{ks:List Key}(ok:dG P w H h)(e:H a=some (.tup (ks.map kV))):(tupleKind (kl P w)).is h ks a:=by
 obtain⟨_,its,r,o,h1,h2,_,n,h3⟩:=(show eC P w H h a (.tup (ks.map kV)) from ok a _ e)
 exact⟨o,its.toArray,n,h1,h2,h3,by simpa using N8 r⟩
theorem Ho(ok:dG P w H h)(e:Rd H a (.dT aU)):aU.length≤sizeLine∧(a==sysModules)=false∧
  ∃xs,KT H aU xs∧h.DictOfH (tupleKind (kl P w)) a xs:=by
 obtain⟨z,y,xs,r,o,es,ep,h1,h2,h3,h4,h5⟩:=(show eC P w H h a (.dT aU) from N9 ok e)
 refine⟨z,y,xs,r,o,es,ep,h1,h2,h3,h4,λx hx=>?_,h5⟩;have all:∀{l:List (List Key×V)}{m:List (List Key×Addr×Value)},KT H l m→∀x∈m,(tupleKind (kl P w)).is h x.1 x.2.1:=by
  intro l m q;induction q with
  |nil=>intro x hx;exact nomatch hx
  | @cons p q ps qs hq t ih=>
   intro x hx;rcases cS.mp hx with e|hx
   ·subst e;exact Hn ok (by rw[← hq.1];exact hq.2.1)
   ·exact ih x hx
 exact all r x hx
theorem XH(ok:dG P w H h)(e:H a=some (.dT aU)):aU.length≤sizeLine∧(a==sysModules)=false∧
  ∃xs,KT H aU xs∧h.DictOfH (tupleKind (kl P w)) a xs:=Ho ok (.inl e)
end
def rh(H:Hp)(a:Addr)(y:V)(r:Option V):Prop:=
 (∃aU k,Rd H a (.dK aU)∧y=kV k∧r=eV aU k)∨∃aU k b,Rd H a (.dT aU)∧y=.ref b∧H b=some (.tup (k.map kV))∧r=eV aU k
def sO(H:Hp)(a:Addr)(y v:V)(H':Hp):Prop:=
 (∃aU k,H a=some (.dK aU)∧y=kV k∧aU.length<sizeLine∧H'=upd H a (.dK (gS aU k v))) ∨
 ∃aU k b,H a=some (.dT aU)∧y=.ref b∧H b=some (.tup (k.map kV))∧aU.length<sizeLine∧H'=upd H a (.dT (gS aU k v))
theorem rh.k{H:Hp}{a:Addr}{aU:List (Key×V)}{k:Key}(e:H a=some (.dK aU)):rh H a (kV k) (eV aU k):=.inl ⟨aU,k,.inl e,rfl,rfl⟩
theorem sO.k{H:Hp}{a:Addr}{aU:List (Key×V)}{k:Key}{v:V}(e:H a=some (.dK aU))(hl:aU.length<sizeLine):sO H a (kV k) v (upd H a (.dK (gS aU k v))):=.inl ⟨aU,k,e,rfl,hl,rfl⟩
section
variable{X:Cx}{aH:List (Addr×Obj)}{σ:St}{H:Hp}{s:Shared}{a:Addr}{y v:V}{u r:Value}{o:Option V}{A:Around}{E:QV}
theorem Inv.big(I:Inv X aH σ H s):sysModules<s.heap.objs.size:=by
 have h:mainGlobals<s.heap.objs.size:=(I.mod.glob.keeps I.bk).lt;exact Nat.lt_trans (by decide) h
theorem XI{Q:QV}(hu:A.units+1<cLine)(I:Inv X aH σ H s)(g:rh H a y (some v))(ry:RelV y u)(h:∀w' s',Inv X aH σ H s'→RelV v w'→Q w' s') :
  wpAny (model X.prog X.w) A (getItem (.ref a) u) Q E s:=by
 rcases g with⟨aU,k,e,ey,l⟩|⟨aU,k,b,e,ey,eb,l⟩
 ·subst ey;obtain⟨z,hd,vs,rel,dd⟩:=Hl I.bH e;obtain⟨w',hw,o5⟩:=oQ.some_of (v:=v) (o:=valueAt vs k) (by rw[l];exact rel.val k);exact wpAny_getItem_of (Cj ry) dd.mapOf hw (h w' _ (I.tok _) o5)
 ·subst ey;cases(show u=Value.ref b from ry)
  obtain⟨z,hd,xs,rel,dd⟩:=Ho I.bH e;obtain⟨w',hw,o5⟩:=oQ.some_of (v:=v) (o:=(atKey xs k).map (·.2)) (by rw[l];exact rel.val k);obtain⟨p,hp,yQ⟩:=Option.map_eq_some_iff.mp hw;refine wpAny_getItem_heap (tupleKind_room_in1 hu) (Hn I.bH eb) dd hp ?_;rw[yQ];exact h w' _ (I.tok _) o5
theorem Hq{h':Heap}{t':Nat}{ob:HO}(I:Inv X aH σ H s)(mu:x4 (H a))(hs:Heap.SameBut a s.heap h')(he:∃q,h'.get? a=some q)(new:eC X.prog X.w (upd H a ob) h' a ob) :
  Inv X aH σ (upd H a ob) { s with heap:=h',toks:=t' }:=
 I.write (x:=a) (e:=a) mu (.inl rfl) (λb q hb z=>(hs.2 b hb).trans z) he new
theorem Ob{P:Program}{w:World}{h':Heap}{aU:List (Key×V)}{vs:List (Key×Value)}(z:aU.length≤sizeLine)(hd:(a==sysModules)=false)(rel:KV aU vs)(dd:h'.DictOf (kl P w) a vs) :
  eC P w H' h' a (.dK aU):=⟨z,hd,vs,rel,dd⟩
theorem XJ{Q:Unit→Shared→Prop}(hu:A.units+1<cLine)(I:Inv X aH σ H s)(g:sO H a y v H')(ry:RelV y u)(rv:RelV v r)(h:∀s',Inv X aH σ H' s'→Q () s') :
  wpAny (model X.prog X.w) A (setItem (.ref a) u r) Q E s:=by
 rcases g with⟨aU,k,e,ey,l,eH⟩|⟨aU,k,b,e,ey,eb,l,eH⟩
 ·subst ey eH;obtain⟨z,hd,vs,rel,dd⟩:=Oa I.bH e;have hz:vs.length≤sizeLine:=by rw[← rel.length];exact z
  have hl:(gS aU k v).length≤sizeLine:=by have:=Ci aU k v;lia
  refine wpAny_setItem_pairs (hsz:=hz) (Cj ry) dd λh' uE hs=>h _ ?_;have he:∃q,h'.get? a=some q:=let ⟨q,_,_,hq,_⟩:=uE;⟨q,hq⟩;exact Hq I (by rw[e];exact True.intro) hs he (Ob hl hd (rel.put k rv) uE)
 ·subst ey eH;cases(show u=Value.ref b from ry)
  obtain⟨z,hd,xs,rel,dd⟩:=XH I.bH e;have hz:xs.length≤sizeLine:=by rw[← Paired.length rel];exact z
  have hl:(gS aU k v).length≤sizeLine:=by have:=Ci aU k v;lia
  refine wpAny_setItem_heap (hsz:=hz) (tupleKind_room_in1 hu) (Hn I.bH eb) dd λh' uE hs=>h _ ?_;obtain⟨q,es,ep,hq,h2,h3,h4,_,h5⟩:=uE;refine Hq I (by rw[e];exact True.intro) hs ⟨q,hq⟩ ⟨hl,hd,_,(rel.put k eb rv).keeps λc ys ec=>?_,q,es,ep,hq,h2,h3,h4,h5⟩;rw[bZ (TZ ec e (λz=>nomatch z))];exact ec
end
section
variable{X:Cx}{aH:List (Addr×Obj)}{σ:St}{H:Hp}{s:Shared}{a:Addr}{aU:List (Key×V)}{k:Key}{u:Value}{A:Around}{E:QV}
end
def Hr(i:Expr):Prop:=∀ov iv,subscripted i false ov iv=operate [ov,iv] (getItem ov iv)
theorem Oc{prog:Program}{w:World}{A:Around}{E:QV}{s:Shared}{env:Env}{value slice:Expr}{pos:Pos}{T id:String}{Q:QV}
  (hl:typeLookup (.type T) "__getitem__"=pure (some (.builtin id))) (hs:Hr slice)
  (h:wpAny (model prog w) A (eval value env) (λo s₁=>wpAny (model prog w) A (eval slice env) (λi s₂=>s₂.TypeIs o T∧wpAny (model prog w) A (getItem o i) Q E s₂) E s₁) E s) :
  wpAny (model prog w) A (eval (.Subscript value slice pos) env) Q E s:=by
 refine Subscript_ (ag h (λo s₁ h₁=>ag h₁ (λi s₂ h₂=>?_) λ_ _ x=>x) λ_ _ x=>x);obtain⟨hT,h₂⟩:=h₂;unfold subscriptTail;refine ak ?_;rw[getitemInPython_of_ne hT.not_modules];refine ak (wpAny_specialOf hT hl ?_);have fin:wpAny (model prog w) A (subscripted slice false o i) (λr s₃=>wpAny (model prog w) A (letTemporaryGo value o r >>= λ_=>pure r) Q E s₃) E s₂:=by
  rw[hs o i];exact wpAny_operating (ag h₂ (λr s₃ h₃=>ak (wpAny_letTemporaryGo (aq h₃))) λ_ _ x=>x)
 first
  |exact aq (ak fin)
  |exact ak (aq (ak fin))
  |exact ak fin
theorem XM{aH:List (Addr×Obj)}{σ:St}{s:Shared}{a:Addr}{o:Option V}(I:Inv X aH σ H s)(g:rh H a y o):s.TypeIs (.ref a) "dict":=by
 rcases g with⟨aU,k,e,_,_⟩|⟨aU,k,b,e,_,_,_⟩
 ·obtain⟨_,_,vs,_,dd⟩:=Hl I.bH e;exact dd.typeIs
 ·obtain⟨_,_,xs,_,dd⟩:=Ho I.bH e;exact dd.typeIs
def Ck(td ty:TE):TE:=λσ H Q=>td σ H λx H1=>ty σ H1 λy H2=>∃a v,x=.ref a∧rh H2 a y (some v)∧Q v H2
def y8(td ty tv:TE):TS:=λD σ H=>tv σ H λv H1=>td σ H1 λx H2=>ty σ H2 λy H3=>∃a H4,x=.ref a∧sO H3 a y v H4∧D.nx σ H4
section
variable{X:Cx}{o i e value:Expr}{pos oW UP:Pos}{td ty tv:TE}
theorem Cm(hu:X.A.units+1<cLine)(ho:PE X o td)(hi:PE X i ty)(hs:Hr i):PE X (.Subscript o i pos) (Ck td ty):=by
 intro aH s σ H Q I h;refine Oc PySem.F.slot_dict_getitem.lookup hs (bf (ho aH s σ H _ I h) λu s1 ⟨x,H1,I1,rx,q1⟩=>bf (hi aH s1 σ H1 _ I1 q1) λiv s2 ⟨y,H2,I2,ry,a,v,ex,g,q2⟩=>?_);subst ex;obtain rfl:u=Value.ref a:=rx;exact⟨XM I2 g,XI hu I2 g ry λw' s3 I3 o5=>⟨v,H2,I3,o5,q2⟩⟩
theorem Hs(hu:X.A.units+1<cLine)(ho:PE X o td)(hi:PE X i ty)(hv:PE X value tv)(hs:swapsWith value (some (.Subscript o i oW)) pos.line X.env=pure false) :
  PS X (.Assign [.Subscript o i oW] value pos) (y8 td ty tv):=by
 intro aH s σ H D I h;refine wpAny_Assign_Subscript (bf (hv aH s σ H _ I h) λr s1 ⟨v,H1,I1,rv,q1⟩=>bf (ho aH s1 σ H1 _ I1 q1) λu s2 ⟨x,H2,I2,rx,q2⟩=>bf (hi aH s2 σ H2 _ I2 q2) λiv s3 ⟨y,H3,I3,ry,a,H4,ex,g,q3⟩=>?_) hs;subst ex;obtain rfl:u=Value.ref a:=rx;exact XJ hu I3 g ry rv λs4 I4=>⟨σ,H4,I4,q3⟩
end
theorem Od{P:Program}{w:World}(h:Heap)(hb:sysModules<h.objs.size):eC P w H (h.push { cls:=.type "dict",data:=.dict #[] }) h.objs.size (.dK []):=
 ⟨kj _,beq_eq_false_iff_ne.mpr (Ne.symm (gU hb)),[],.nil,Heap.DictOf.new h⟩
def XN:TE:=λ_ H Q=>∀p,H p=none→Q (.ref p) (upd H p (.dK []))
section
variable{X:Cx}{pos:Pos}
theorem XO:PE X (.Dict [] [] pos) XN:=λaH s σ H Q I h=>
 wpAny_Dict_empty ⟨.ref s.heap.objs.size,_,I.laid (a:=s.heap.objs.size) (o:=.dK []) (t':=s.toks) (λ_ _ q=>dX _ q) (cf _) (Od s.heap I.big),rfl,h _ (I.bH.fresh (cf _))⟩
end
def sP:List (TE×TE)→St→Hp→(List (V×V)→Hp→Prop)→Prop
 | [],_,H,Q=>Q [] H
 |(tk,tv)::r,σ,H,Q=>tk σ H λx H1=>tv σ H1 λy H2=>sP r σ H2 λps H3=>Q ((x,y)::ps) H3
abbrev VV:List (V×V)→List (Value×Value)→Prop:=Paired λp q=>RelV p.1 q.1∧RelV p.2 q.2
def Cn(X:Cx)(pos:Pos)(keys:List (Option Expr))(values:List Expr)(rj:List (TE×TE)):Prop:=
 ∀(aH:List (Addr×Obj))(s:Shared)(σ:St)(H:Hp)(Q:List (V×V)→Hp→Prop),Inv X aH σ H s→sP rj σ H Q→
  wpAny (model X.prog X.w) X.A (evalPairs (pairTrees keys values X.env pos)) (λvs s'=>∃ps H',Inv X aH σ H' s'∧VV ps vs∧Q ps H') X.xe s
theorem XQ{pos:Pos}:Cn X pos [] [] []:=λaH s σ H Q I h=>pairTrees_nil_walk ⟨[],H,I,.nil,h⟩
theorem Co{pos:Pos}{k v:Expr}{ks:List (Option Expr)}{vs:List Expr}{tk tv:TE}{rj:List (TE×TE)}(hk:PE X k tk)(hv:PE X v tv)(hr:Cn X pos ks vs rj) :
  Cn X pos (some k::ks) (v::vs) ((tk,tv)::rj):=λaH s σ H Q I h=>
 pairTrees_cons_walk (bf (hk aH s σ H _ I h) λu s1 ⟨x,H1,I1,rx,q1⟩=>bf (hv aH s1 σ H1 _ I1 q1) λw2 s2 ⟨y,H2,I2,ry,q2⟩=>
  bf (hr aH s2 σ H2 _ I2 q2) λws s3 ⟨ps,H3,I3,rel,q3⟩=>⟨(x,y)::ps,H3,I3,.cons ⟨rx,ry⟩ rel,q3⟩)
noncomputable def uF(aU more:List (Key×V)):List (Key×V):=more.foldl (λdf kv=>gS df kv.1 kv.2) aU
theorem KV.merge:∀{more:List (Key×V)}{rs:List (Key×Value)}{aU:List (Key×V)}{vs:List (Key×Value)},KV more rs→KV aU vs→KV (uF aU more) (merged vs rs):=by
 intro more rs aU vs r;unfold KV at r;induction r generalizing aU vs with
 |nil=>intro q;exact q
 | @cons p q ps qs h t ih=>
  intro r0;have e:KV (gS aU p.1 p.2) (stored vs q.1 q.2):=by
   have:=r0.put p.1 h.2
   rw[← h.1];exact this
  exact ih e
theorem Oe:∀(more aU:List (Key×V)),(uF aU more).length≤aU.length+more.length
 | [],aU=>by show aU.length≤aU.length+0;lia
 |p::r,aU=>by
  have h1:=Oe r (gS aU p.1 p.2);have h2:=Ci aU p.1 p.2;show(uF (gS aU p.1 p.2) r).length≤_;rw[dB];lia
theorem Of{P:Program}{w:World}:∀{aU:List (Key×V)}{ws:List (Value×Value)},VV (aU.map λkv=>(kV kv.1,kv.2)) ws→∃rs,Carries (kl P w) ws rs∧KV aU rs
 | [],_,r=>by rw[List.map_nil]at r;cases r;exact⟨[],True.intro,.nil⟩
 |p::aU,_,r=>by
  rw[nP]at r;cases r with
  | @cons a b as bs h t=>
   obtain⟨rs,c,q⟩:=Of (P:=P) (w:=w) t;obtain⟨b1,b2⟩:=b;exact⟨(p.1,b2)::rs,⟨Cj h.1,rfl,c⟩,.cons ⟨rfl,h.2⟩ q⟩
def Og(rj:List (TE×TE)):TE:=λσ H Q=>∀p,H p=none→sP rj σ (upd H p (.dK [])) λps H2=>H2 p=some (.dK [])∧∃aU:List (Key×V),ps=aU.map (λkv=>(kV kv.1,kv.2))∧aU.length≤15∧Q (.ref p) (upd H2 p (.dK (uF [] aU)))
theorem XR{pos:Pos}{keys:List (Option Expr)}{values:List Expr}{rj:List (TE×TE)}(h:Cn X pos keys values rj)(Gd:keys.all (·.isSome)=true)(hl:keys.length=values.length)(h0:keys≠[])
  (Ht:keys.length≤15):PE X (.Dict keys values pos) (Og rj):=by
 intro aH s σ H Q I q;have hn:=I.bH.fresh (cf s.heap.objs.size);have I1:=I.laid (a:=s.heap.objs.size) (o:=.dK []) (h':=s.heap.push { cls:=.type "dict",data:=.dict #[] }) (t':=s.toks) (λ_ _ q=>dX _ q) (cf _) (Od s.heap I.big);refine wpAny_Dict_walk (knd:=kl X.prog X.w) Gd hl h0 Ht (bf (h aH _ σ _ _ I1 (q _ hn)) λws s2 ⟨ps,H2,I2,rel,e,aU,ep,lk,q2⟩=>?_);subst ep;obtain⟨rs,c,rk⟩:=Of (P:=X.prog) (w:=X.w) rel;obtain⟨z,hd,vs0,r0,dd⟩:=Oa I2.bH e;cases r0;refine⟨rs,c,dd,λh' uE hs=>⟨.ref s.heap.objs.size,_,?_,rfl,q2⟩⟩;have hz:(uF [] aU).length≤sizeLine:=by
  have h1:=Oe aU [];rw[List.length_nil]at h1;rw[sizeLine_eq];lia
 have he:∃q,h'.get? s.heap.objs.size=some q:=let ⟨q,_,_,hq,_⟩:=uE;⟨q,hq⟩;exact Hq I2 (by rw[e];exact True.intro) hs he (Ob hz hd (rk.merge .nil) uE)
structure M2(X:Cx)(o:Expr)(m:Str)(jN:Pos)(e f:Expr)(eO:Pos):Prop where
 base:attributeBase o m X.env (eval o X.env)=eval o X.env
 p9:((backTo eO (starEach [e,f] X.env)).all (λx=>!x.1)&&(backToKw eO (keywordEach [] X.env)).all (λx=>x.1.isSome)
  && decide (([e,f]:List Expr).length+([]:List Keyword).length+(if([]:List Keyword).isEmpty then 0 else 1)<30))=true
 line:(jN.endLine==eO.line)=true
 trees:backTo eO (starEach [e,f] X.env)=[(false,eval e X.env),(false,eval f X.env)]
section
variable{X:Cx}{aH:List (Addr×Obj)}{σ:St}{H:Hp}{s:Shared}{a:Addr}{y d:V}{u r:Value}{o:Option V}{A:Around}{E:QV}
end
section
variable{X:Cx}{o e f:Expr}{jN eO:Pos}{td ty tx:TE}
end
section
variable{X:Cx}{aH:List (Addr×Obj)}{σ:St}{H:Hp}{s:Shared}{a:Addr}{aU:List (Key×V)}{A:Around}{E:QV}
end
section
variable{X:Cx}{aH:List (Addr×Obj)}{σ:St}{H:Hp}{s:Shared}{a:Addr}{y:V}{u:Value}{A:Around}{E:QV}
end
end L2
namespace HT
open PySem PySem.Spec PyProof.Rows
variable{prog:Program}{w:World}{A:Around}{E:QV}{s:Shared}
theorem XT{t sl:Addr}{items:Array Value}{vl vu:Value}{lo hi:Option Int}{Q:QV}(ht:IsTup s.heap t items)(hs:s.heap.IsSliceOf sl vl vu .none)(pl:IsPart vl lo)(pu:IsPart vu hi)
  (h0:cW items.size 0 lo=0) (h1:cW items.size items.size hi=items.size) (h:Q (.ref t) s):wpAny (model prog w) A (getItem (.ref t) (.ref sl)) Q E s:=by
 obtain⟨os,um,BD,uo⟩:=id hs;have FQ:s.TypeIs (.ref sl) "slice":=⟨os,um,BD⟩;unfold getItem
 try with_reducible refine ao ?_
 first|refine ak (aq ?_)|skip
 refine ak (wpAny_sequenceKey ht.typeIs (by decide) ?_);refine ak (ay (name:=Str.ofString "__getitem__") ht.typeIs Bb (az Bb ht.typeIs entry_tuple_getitem ?_ (args_tuple_getitem _ _)));show wpAny _ _ (Builtin.Tuple.tupleItemsOf (.ref t) >>= _) _ _ s;refine ak (tupleItemsOf_ ht ?_);refine ak (wpAny_typeOf FQ ?_);rw[ae (by decide)];refine ak (Mt hs pl pu ?_);have XU:(((cW items.size 0 lo:Nat):Int)==0&&(1:Int)==1&&(cW items.size items.size hi-cW items.size 0 lo)==items.size)=true:=by
  rw[h0,h1];simp
 show wpAny _ _ (if(((cW items.size 0 lo:Nat):Int)==0&&(1:Int)==1&&(cW items.size items.size hi-cW items.size 0 lo)==items.size)=true then _ else _) _ _ s
 rw[ae XU];unfold Builtin.Tuple.tupleIsExact;refine ak (ak (wpAny_typeOf ht.typeIs (aq ?_)));rw[ae (by decide)];first
  |exact ak (aq (aq ⟨_,rfl,aq h⟩))
  |exact ak (m:=rule _) (aq ⟨_,rfl,aq h⟩)
  |exact aq ⟨_,rfl,aq h⟩
  |exact ak (wpAny_rule (aq ⟨_,rfl,aq h⟩))
  |exact ak (wpAny_rule (ak (aq (aq ⟨_,rfl,aq h⟩))))
end HT
namespace L2
open PySem PySem.Spec PyProof.Rows
variable{H H':Hp}{Q:QV}{X:Cx}{a c f:Addr}{fd:FuncData}{h:Heap}{i:Int}{n:Nat}{ps:List Str}{qual x:Str}{s:Shared}{st:Stmt}
def ij(K:Frag):V→Option Int→Option Int→Hp→VK→Prop:=λx lo hi H Q=>∃a xs,x=.ref a∧bh K H a xs∧ic K H (lE xs lo hi) Q
theorem XW:yv X (ij X.K):=by
 intro aH s σ H x v vl vu lo hi sl Q I rx hs pl pu h;obtain⟨a,xs,rfl,hx,q⟩:=h;by_cases hw:HT.cW xs.length 0 lo=0∧HT.cW xs.length xs.length hi=xs.length
 ·cases rx;obtain⟨its,r,ht,hz⟩:=I.tuple hx;have cO:its.toArray.size=xs.length:=by rw[dE];exact r.length.symm
  refine⟨"tuple",_,Bb.lookup,ht.typeIs,?_⟩;refine HT.XT ht hs pl pu (by rw[cO];exact hw.1) (by rw[cO];exact hw.2) ?_;refine⟨.ref a,H,I,rfl,q.old ?_⟩;unfold lE;rw[hw.1,hw.2,List.drop_zero,Nat.sub_zero,r9];exact hx
 ·exact Mu aH s σ H _ v vl vu lo hi sl Q I rx hs pl pu ⟨a,xs,rfl,hx,hw,λp hp=>q.new hp⟩
theorem gK(K:Frag)(hK:X.K=K):yv X (ij K):=hK▸XW
section
variable{X:Cx}
theorem XX(hc:X.calm=true):jL X (.builtin "any") (λxs H Q=>∃p ns,xs=[.ref p]∧bh X.K H p (List.map V.int ns)∧Q (.bl (ns.any λn=>n != 0)) H):=by
 intro aH s σ H vs us Q I r h;obtain⟨p,ns,rfl,hq,q⟩:=h;obtain⟨u,rfl,ru⟩:=vals1 r;cases ru;obtain⟨its,rv,ht,hz⟩:=I.tuple hq;have cL:p<s.heap.objs.size:=ht.lt;have cO:its.length=ns.length:=by have:=rv.length;rw[bj]at this;exact this.symm
 apply call_any_walk;apply wpAny_pyIter_tuple ht;refine⟨s.heap.objs.size,[s.heap.objs.size,p],[s.heap.objs.size],its.toArray.size,_,_,λi=>((ns.map λn=>n != 0)[i]?).getD false,rfl,Walks.tuple (A:=X.A.in1) (I.ok.hd hc) _ p (gU cL) its.toArray,⟨⟨_,iW _ rfl,rfl,rfl⟩,ht.push _⟩,λi v s1 Q1 E1 hP hQ=>?_,λh1 tk1 hk=>?_⟩
 ·have hP:its[i]?=some v:=by simpa using hP
  have hi:i<ns.length:=by rw[← cO];exact(dO.mp hP).1
  have hx:(ns.map V.int)[i]?=some (.int ns[i]):=by simp[hi]
  obtain⟨u,hu,ru⟩:=rv.get hx;rw[hP]at hu;cases hu;obtain⟨t,rfl⟩:=ru;dsimp only at hQ;rw[show(ns.map λn=>n != 0)[i]?=some (ns[i] != 0) by simp[hi],Option.getD_some]at hQ;exact truthy_int hQ
 ·have e:((List.range its.toArray.size).any λi=>((ns.map λn=>n != 0)[i]?).getD false)=ns.any λn=>n != 0:=by
   have e2:=Xg (ns.map λn=>n != 0);rw[bj]at e2;rw[dE,cO,e2,List.any_map];rfl
  rw[e];refine⟨.bl _,H,I.kept (λb x e=>hk b x (λhm=>by rw[cQ.mp hm]at e;exact vK _ (dN e)) (dX _ e)),rfl,q⟩
theorem XY(K:Frag)(hK:X.K=K)(hc:X.calm=true):jL X (.builtin "any") (λxs H Q=>∃p ns,xs=[.ref p]∧bh K H p (List.map V.int ns)∧Q (.bl (ns.any λn=>n != 0)) H):=hK▸XX hc
end
section
variable{K:Frag}{H1:Hp}{cp:St}{tt:TT}{te:TE}{Q:VK}{xs ys:List V}{l1 l2:Addr}{b1 b2:Bool}
end
def fe(H:Hp)(Pt:Addr)(pos:Pos)(qual:Str):Prop:=
 H Pt=some (.fh #[])∨∃c',H Pt=some (.fh #[rawInt pos.line,rawInt pos.col,.ref c'])∧H c'=some (.ext λh=>h.CodeRec (.ref c') qual)
def y9(Pt:Addr)(H H':Hp):Prop:=∀b o,H b=some o→b≠Pt→H' b=some o
def Oh(H:Hp)(f:Addr)(qual:Str)(params:Arguments)(body:Expr)(scope:Scope)(cl:List (Str×Addr)):Prop:=
 ∃c',H f=some (.ext λh=>∃pm gp,h.get? f=some (PySem.W.kla_obj "<lambda>" qual params body scope cl pm c' gp))∧H c'=some (.ext λh=>h.CodeRec (.ref c') qual)
theorem XZ{P:Program}{w:World}(x:h.CodeRec (.ref c) qual):eC P w H h c (.ext λh=>h.CodeRec (.ref c) qual):=by
 refine⟨x,?_,λh1 h2 z k=>?_⟩
 ·obtain⟨c2,oc,vs,t,e,ho,_⟩:=x;cases e;exact⟨oc,ho⟩
 ·obtain⟨c2,oc,vs,t,e,ho,r⟩:=z;cases e;exact⟨c,oc,vs,t,rfl,k _ ho,r⟩
theorem Oi{P:Program}{w:World}{params:Arguments}{body:Expr}{scope:Scope}{cl:List (Str×Addr)}{pm gp:Value}(x:h.get? f=some (PySem.W.kla_obj "<lambda>" qual params body scope cl pm c gp)) :
  eC P w H h f (.ext λh=>∃pm gp,h.get? f=some (PySem.W.kla_obj "<lambda>" qual params body scope cl pm c gp)):=
 ⟨⟨pm,gp,x⟩,⟨_,x⟩,λh1 h2 ⟨pm,gp,z⟩ k=>⟨pm,gp,k _ z⟩⟩
def rm(mg:Str→Option Value)(h:Heap):Prop:=∃bm ob,mg "__builtins__"=some (.ref bm)∧bm≠builtinsNs∧h.get? bm=some ob∧ob.cls=.type "module"∧ob.dict=some builtinsNs∧ob.data=.plain
section
variable{X:Cx}
def X0(Pt:Addr)(pos:Pos)(qual:Str)(params:Arguments)(body:Expr)(scope:Scope)(cl:List (Str×Addr)):TE:=λ_ H Q=>fe H Pt pos qual∧
 ∀f H',H f=none→y9 Pt H H'→fe H' Pt pos qual→Oh H' f qual params body scope cl→Q (.ref f) H'
theorem Oj{params:Arguments}{body:Expr}{scope:Scope}{pos:Pos}{Pt:Addr}{cl:List (Str×Addr)}(Ol:X.env.code=.ref c)(C:CodeHd X.base c Pt)(B:rm X.mg X.base)(Om:closureFor scope X.env=pure cl)(X1:defaultsOf params X.env=([],[]):=by rfl) :
  PE X (.Lambda params body scope pos) (X0 Pt pos (X.env.qual ++ "<lambda>") params body scope cl):=by
 intro aH s σ H Q I h;obtain⟨hT,h⟩:=h;generalize hq:X.env.qual ++ "<lambda>"=qual at hT h;refine PySem.W.kla_eval X1 ?_;rw[hq];have hg:s.heap.Ns mainGlobals X.mg:=I.mod.glob.keeps I.bk;have Cs:=C.keeps I.bk;obtain⟨bm,ob,b1,b2,b3,b4,b5,b6⟩:=B;have Oo:bm≠mainGlobals:=λq=>by
  obtain⟨o,es,ep,e,hd,_⟩:=I.mod.glob;rw[q,e]at b3;cases b3;rw[hd]at b6;cases b6
 have X2:∃ps,H Pt=some (.fh ps):=hT.elim (λz=>⟨_,z⟩) λ⟨_,z,_⟩=>⟨_,z⟩;obtain⟨X3,za⟩:=X2;have zb:s.heap.get? Pt=some (PySem.W.tabObj X3):=I.bH Pt _ za;have X4:mainGlobals≠Pt:=λq=>by
  obtain⟨o,es,ep,e,hd,_⟩:=hg;rw[q,zb]at e;cases e;cases hd
 have Oq:bm≠Pt:=λq=>by
  have e:=I.bk _ _ b3;rw[q,zb]at e;cases e;cases b4
 have Ot:Pt<s.heap.objs.size:=dN zb;rcases hT with hT|⟨c',hT,hc⟩
 ·rw[hT]at za;cases za;refine PySem.W.kla_makeFunction (mg:=X.mg) Om I.ok.glob hg Ol Cs zb trivial rfl X4 ⟨bm,ob,b1,b2,Oo,Oq,I.bk _ _ b3,b4,b5,b6⟩ λc' gp h' tk hx Cp cL X5 X6=>?_;have hsz:s.heap.objs.size≤h'.objs.size:=eJ Cp (qD cL);have hn:∀a,s.heap.objs.size≤a→H a=none:=λa ha=>I.bH.fresh ha;have X7:Pt≠c':=gU (ji Ot Cp);have Ou:Pt≠h'.objs.size:=gU (ji Ot hsz);have Ov:c'≠h'.objs.size:=gU cL;have hk:∀b o,b≠Pt→s.heap.get? b=some o→(h'.push (PySem.W.kla_obj "<lambda>" qual params body scope cl ((X.mg "__name__").getD .none) c' gp)).get? b=some o:=λb o hb e=>dX _ (hx b o hb e);have hf:(h'.push (PySem.W.kla_obj "<lambda>" qual params body scope cl ((X.mg "__name__").getD .none) c' gp)).get? h'.objs.size=some (PySem.W.kla_obj "<lambda>" qual params body scope cl ((X.mg "__name__").getD .none) c' gp):=iW _ rfl;have Ow:(h'.push (PySem.W.kla_obj "<lambda>" qual params body scope cl ((X.mg "__name__").getD .none) c' gp)).CodeRec (.ref c') qual:=by
   obtain⟨c2,oc,vs,t,e,ho,r⟩:=X5;exact⟨c2,oc,vs,t,e,dX _ ho,r⟩
  have Hu:(h'.push (PySem.W.kla_obj "<lambda>" qual params body scope cl ((X.mg "__name__").getD .none) c' gp)).get? Pt=some (PySem.W.tabObj (#[]++#[rawInt pos.line,rawInt pos.col,.ref c'])):=dX _ X6;generalize h'.push (PySem.W.kla_obj "<lambda>" qual params body scope cl ((X.mg "__name__").getD .none) c' gp)=hh at hk hf Ow Hu ⊢;generalize h'.objs.size=f at hsz Ou Ov hf ⊢;have Cq:=hn f hsz;have X8:=hn c' Cp
  let H':Hp:=upd (upd (upd H Pt (.fh (#[]++#[rawInt pos.line,rawInt pos.col,.ref c']))) c' (.ext λh=>h.CodeRec (.ref c') qual)) f (.ext λh=>∃pm gp,h.get? f=some (PySem.W.kla_obj "<lambda>" qual params body scope cl pm c' gp))
  have e1:∀b,b≠f→b≠c'→b≠Pt→H' b=H b:=λb x1 x2 x3=>by
   show upd (upd (upd H Pt _) c' _) f _ b=_;rw[bZ x1,bZ x2,bZ x3]
  have e2:H' Pt=some (.fh (#[]++#[rawInt pos.line,rawInt pos.col,.ref c'])):=by
   show upd (upd (upd H Pt _) c' _) f _ Pt=_;rw[bZ Ou,bZ X7,aX]
  have e3:H' c'=some (.ext λh=>h.CodeRec (.ref c') qual):=by
   show upd (upd (upd H Pt _) c' _) f _ c'=_;rw[bZ Ov,aX]
  have e4:H' f=some (.ext λh=>∃pm gp,h.get? f=some (PySem.W.kla_obj "<lambda>" qual params body scope cl pm c' gp)):=aX;have e5:∀b o,H b=some o→b≠Pt→H' b=some o:=λb o q hb=>by
   rw[e1 b (eQ q Cq) (eQ q X8) hb];exact q
  have Cr:∀b o,H b=some o→(∀ps,o≠.fh ps)→b≠Pt:=λb o q ht z=>by
   rw[z,hT]at q;exact ht _ (cN q).symm
  refine⟨.ref f,H',I.un (t':=tk) ⟨λb o e n _ _=>hk b o (λz=>by rw[z,hT]at n;cases n) e,λb o e n _ _=>⟨o.slots,hk b o (λz=>by rw[z,hT]at n;cases n) e⟩,λb o e n _=>?_,λb o e _=>?_,λb xs q=>e5 b _ q (Cr b _ q λ_ z=>nomatch z),λb o u q=>e5 b _ q (Cr b _ q λ_ z=>nomatch z),λb ps q=>?_⟩ λa o e=>?_,rfl,h f H' Cq e5 (.inr ⟨c',by rw[e2];rfl,e3⟩) ⟨c',e4,e3⟩⟩
  ·have hb:=dN e;rw[e1 b (gU (ji hb hsz)) (gU (ji hb Cp)) (λz=>by rw[z,hT]at n;cases n)];exact n
  ·by_cases hb:b=Pt
   ·rw[hb];exact⟨_,Hu⟩
   ·exact⟨o,hk b o hb e⟩
  ·by_cases hb:b=Pt
   ·subst hb;rw[hT]at q;cases q;exact⟨_,e2⟩
   ·exact⟨#[],by rw[e5 b _ q hb];simp⟩
  ·by_cases fH:a=f
   ·subst fH;rw[e4]at e;cases e;exact Oi hf
   by_cases jk:a=c'
   ·subst jk;rw[e3]at e;cases e;exact XZ Ow
   by_cases wj:a=Pt
   ·subst wj;rw[e2]at e;cases e;exact Hu
   ·rw[e1 a fH jk wj]at e;refine(I.bH a o e).oR (λb u hb q=>hk b u (λz=>?_) q) (λb q=>e5 b _ q (Cr b _ q λ_ z=>nomatch z)) λb xs q=>e5 b _ q (Cr b _ q λ_ z=>nomatch z);rcases hb with hb|hb
    ·exact wj (hb▸z)
    ·rw[z,hT]at hb;cases hb
 ·rw[hT]at za;cases za;refine PySem.W.kla_makeFunctionHit (cv:=.ref c') (mg:=X.mg) Om I.ok.glob hg Ol Cs zb (by simp[TriplesOk,rawInt]) (by simp[codeAmong,rawInt]) ⟨bm,ob,b1,b2,Oo,Oq,I.bk _ _ b3,b4,b5,b6⟩ λgp h' tk hk hsz=>?_;have hn:H h'.objs.size=none:=I.bH.fresh hsz;refine⟨.ref h'.objs.size,_,I.laid (t':=tk) (o:=.ext λh=>∃pm gp,h.get? h'.objs.size=some (PySem.W.kla_obj "<lambda>" qual params body scope cl pm c' gp)) (λb u e=>dX _ (hk b u e)) hsz (Oi (iW _ rfl)),rfl,?_⟩;have e5:∀b o,H b=some o→(upd H h'.objs.size (.ext λh=>∃pm gp,h.get? h'.objs.size=some (PySem.W.kla_obj "<lambda>" qual params body scope cl pm c' gp))) b=some o:=λb o q=>by rw[bZ (eQ q hn)];exact q
  exact h _ _ hn (λb o q _=>e5 b o q) (.inr ⟨c',e5 _ _ hT,e5 _ _ hc⟩) ⟨c',aX,e5 _ _ hc⟩
end
structure rn(P:Program)(w:World)(K:Frag)(mg:Str→Option Value)(base:Heap)(k:Nat)(f:Addr)(fd:FuncData)(ps:List Str)(sp:Shared→Sp):Prop where
 len:∀s vs H Q E,sp s vs H Q E→vs.length=ps.length
 run:∀(A:Around)(outer:List Env)(s:Shared)(H:Hp)(args:Args)(us:List Value)(vs:List V)(Q:VK)(E:XK),dP k A→vW P w K mg base A outer s H→BindsTo s fd args (ps.zip us)→Vals vs us→sp s vs H Q E→
  codeAny (model P w) A (.call (.ref f) args) (CR bx outer P w H s Q E) s
section
variable{P:Program}{w:World}{K:Frag}{mg:Str→Option Value}{base:Heap}
theorem cG.Ox{N:List Str}{k:Nat}{sp:Shared→Sp}(F:cG K x qual st f fd)(S:dj N ps (bo st))(len:∀s vs H Q E,sp s vs H Q E→vs.length=ps.length)
  (oZ:∀(bI:Value)(A:Around)(outer:List Env)(s:Shared)(H:Hp)(vs:List V)(Q:VK)(E:XK),dP k (A.deeper (envOfC qual (bo st) s.heap.objs.size f bI))→sp s vs H Q E→
   ∃t,jl (km bx P w K mg base N qual (bo st) f bI A outer s H E).ma (j8 st) t∧t { nx:=λ_ H'=>Q .cg H',rt:=Q } (start N vs) H):rn P w K mg base (k+1) f fd ps sp:=by
 obtain⟨oc,od,kV,doc,pm,an,bI,ct,nv,rfl,lk,gI⟩:=F.ex;refine⟨len,λA outer s H args us vs Q E hr e0 hb r i4=>?_⟩;have hl:=len _ _ _ _ _ i4;have KX:K.In s.heap:=e0.mod.qI.keeps λb o e=>(e0.bs b o e).1;have uj:s.heap.NoLimit:=e0.mod.nolimit.keeps λb o e=>(e0.bs b o e).1;have yu:∀y∈ps.zip us,(bo st).names.lookup y.1=some .local∨((bo st).names.lookup y.1=some .cell∧((cellsFrom (s.heap.objs.size+1) (bo st).names []).lookup y.1).isSome=true):=λ⟨n,v⟩ hy=>by
  rcases S.par n (xR hy).1 with q|q
  ·exact .inl q
  ·exact .inr ⟨q,E7 _ _ _ (.inl q)⟩
 refine codeAny_call_function hr.depth (KX _ _ lk) rfl S.co S.gen rfl (PySem.W.codeRec_of KX gI) (hb _ _ _ _ ?_);refine ax S.kind yu λenv he s1 x=>?_;subst he;refine⟨uj.keeps x.toInCall.keep,codeAny_func ?_⟩;obtain⟨t,ht,hq⟩:=oZ bI A outer s H vs Q E (hr.deeper _) i4;have I:Inv (km bx P w K mg base N qual (bo st) f bI A outer s H E) [] (start N vs) H s1:=FK S hr.hd e0 hl r x;refine ag (ht.ma [] s1 (start N vs) H _ I hq) (λfl s' hs=>?_) λe s' hs=>hs;have fin:∀{σ':St}{H':Hp}{v:V}{u:Value},Inv (km bx P w K mg base N qual (bo st) f bI A outer s H E) [] σ' H' s'→RelV v u→Q v H'→CE outer P w H s Q u s':=
  λ{σ' H' v u} J rv q=>⟨v,H',J.os,J.bare,J.base,J.bH,rv,q⟩
 cases fl with
 |ret u=>
  obtain⟨v,σ',H',J,rv,q⟩:=hs;exact fin J rv q
 |next=>
  obtain⟨σ',H',J,q⟩:=hs;exact fin (v:=V.cg) (u:=Value.none) J rfl q
 |brk=>
  obtain⟨_,_,_,q⟩:=hs;exact False.elim q
 |cont=>
  obtain⟨_,_,_,q⟩:=hs;exact False.elim q
end
section
variable{X:Cx}{k:Nat}{f:Addr}{fd:FuncData}{ps:List Str}{x:Str}{p pos:Pos}{e:Expr}{es:List Expr}{t:TA}{te:TE}
theorem zd{sp:Shared→Sp}(F:rn X.prog X.w X.K X.mg X.base k f fd ps sp)(hr:dP k X.A)(hg:Gl X x)(hm:X.mg x=some (.ref f))(hk:Kp X.K f)(hb:Binds X.K fd ps [])
  (ha:PA X (e::es) t) (qT:(x==("__debug__":Str))=false:=by decide) (he:starEach (e::es) X.env=(false,eval e X.env)::starEach es X.env:=by rfl) (i3:(backTo pos (starEach es X.env)).any (·.1)=false:=by rfl) :
  PE X (.Call (.Name x p) (e::es) [] pos) (λσ H Q=>t σ H λvs H1=>∀aH s,Inv X aH σ H1 s→sp s vs H1 Q E0):=by
 intro aH s σ H Q I h;refine av (yh I hg hm ?_ qT);refine PySem.W.callWith_K (h₀:=X.base) I.ok.mod.qI hk (bf (ha pos aH s σ H _ I h) λus s1 ⟨vs,H1,I1,r,q⟩=>⟨I1.fo,?_⟩) he i3;have hs:=q aH s1 I1;have hl:us.length=ps.length:=by rw[← r.length];exact F.len _ _ _ _ _ hs
 have qc:=hb s1 us I1.fo (by rw[iK];exact hl);rw[iK]at qc;refine wpAny_call (codeAny_mono (F.run X.A X.stack s1 H1 ⟨us,[]⟩ us vs Q E0 hr I1.By qc r hs) λr s' hq=>?_);cases r with
 |error e=>exact False.elim hq
 |ok fl=>
  cases fl with
  |ret u=>exact I1.after hq
  |next=>exact False.elim hq
  |brk=>exact False.elim hq
  |cont=>exact False.elim hq
end
noncomputable def Hv(P:Program)(w:World)(K:Frag)(mg:Str→Option Value)(base:Heap)(N:List Str)(qual:Str)(scope:Scope)(f c:Addr)(cl:List (Str×Addr))(A:Around)(outer:List Env)(s:Shared)(H:Hp):Cx where
 prog:=P
 w:=w
 K:=K
 mg:=mg
 base:=base
 A:=A.deeper (PySem.W.envX qual scope s.heap.objs.size f (.ref c) cl)
 N:=N
 s₀:=s
 H₀:=H
 env:=PySem.W.envX qual scope s.heap.objs.size f (.ref c) cl
 outer:=outer
 stack:=PySem.W.envX qual scope s.heap.objs.size f (.ref c) cl::outer
 ex:=[]
 calm:=true
 fn:=λ_=>false
 pn:=[]
 xe:=λe s'=>wpAny (model P w) (A.deeper (PySem.W.envX qual scope s.heap.objs.size f (.ref c) cl)) (leaving (PySem.W.envX qual scope s.heap.objs.size f (.ref c) cl) e) (λ_ _=>False) (λ_ _=>False) s'
section
variable{P:Program}{w:World}{K:Frag}{mg:Str→Option Value}{base:Heap}
end
section
variable{P:Program}{w:World}{K:Frag}{mg:Str→Option Value}{base:Heap}
theorem cG.Oy{N:List Str}{k:Nat}{sp:Sp}(F:cG K x qual st f fd)(S:dj N ps (bo st))(len:∀vs H Q E,sp vs H Q E→vs.length=ps.length)
  (oZ:∀(bI:Value)(A:Around)(outer:List Env)(s:Shared)(H:Hp)(vs:List V)(Q:VK)(E:XK),fd.code=bI→dP k (A.deeper (envOfC qual (bo st) s.heap.objs.size f bI))→sp vs H Q E→
   ∃t,jl (km bx P w K mg base N qual (bo st) f bI A outer s H E).ma (j8 st) t∧t { nx:=λ_ H'=>Q .cg H',rt:=Q } (start N vs) H):bz P w K mg base bx (k+1) f fd ps sp:=by
 obtain⟨oc,od,kV,doc,pm,an,bI,ct,nv,rfl,lk,gI⟩:=F.ex;refine FO lk gI S len λA outer s H vs Q E hr i4=>?_;obtain⟨t,h,q⟩:=oZ bI A outer s H vs Q E rfl hr i4;exact⟨t,h.ma,q⟩
theorem Hw{Pt:Addr}{oc:Value}{od:Option Addr}{sl:Array (Option Value)}(a:nsIn K mainGlobals x=some (some (.ref f)))(l:K.lookup f=some ⟨oc,od,.func fd,sl⟩)(t:tabIn K x=some (c,Pt)):fd.code=.ref c:=by
 unfold tabIn at t;rw[a]at t;simp only[l]at t;split at t
 ·rename_i c2 hc
  split at t
  ·split at t
   ·cases t;exact hc
   ·cases t
  ·cases t
 ·cases t
theorem X9{tabs:List (Addr×Addr)}{mb:Str→Option Value}{k:Nat}{fa:Addr}{sp:Sp}{s₁:Shared}{vs:List Value}{ns:List Int}
  (KX:K.In s₁.heap) (noT:PySem.W.noTabs K=true) (hT:PySem.W.TabsAt tabs s₁.heap) (Ct:s₁.heap.Ns mainGlobals mg) (hb:s₁.heap.Ns builtinsNs mb) (qc:∀x:Str,x ≠ "__name__"→mb x=bootBuiltins x) (Ya:rm mg s₁.heap) (Yb:s₁.heap.NoLimit) (hg:s₁.gens=#[])
  (ha:s₁.heap.get? a=some { cls:=.type "list",data:=.seq vs.toArray }) (hi:IntsAre vs ns) (hl:ns.length≤sizeLine) (hr:dP k callerA)
  (F:∀base:Heap,K.In base→base.Ns mainGlobals mg→rm mg base→(∀q∈tabs,CodeHd base q.1 q.2)→bz P w K mg base bx k fa fd [x] sp) (Hy:∀(s:Shared)(u:Value),BindsTo s fd ⟨[u],[]⟩ [(x,u)])
  (i4:∀H:Hp,dw K H a (ns.map V.int)→(∀q∈tabs,H q.2=some (.fh #[]))→sp [.ref a] H (λv _=>v=.bl true) λ_ _ _=>False) :
  codeAny (model P w) callerA (.call (.ref fa) ⟨[.ref a],[]⟩) (λr s'=>r=.ok (.ret (.bool true))∧OldK s₁.heap s'.heap∧s'.os=s₁.os∧AllBare s'.gens) s₁:=by
 have rv:=MG hi;have Yc:=hi.length;have Yd:∀q∈tabs,K.lookup q.2=none:=λq hq=>by
  cases e:K.lookup q.2 with
  |none=>rfl
  |some o=>
   have e1:=KX _ _ e;rw[(hT q hq).2]at e1;cases e1;have h2:=pG.mp noT (q.2,PySem.W.tabObj #[]) (PySem.W.mem_of_lookupK e);exact(gX (show false=true from h2)).elim
 have aT:∀q∈tabs,q.2≠a:=λq hq z=>by
  have e:=(hT q hq).2;rw[z,ha]at e;cases e
 have core:∀H:Hp,dw K H a (ns.map V.int)→dG P w H s₁.heap→(∀q∈tabs,H q.2=some (.fh #[]))→(∀b u,H b=some u→(b=a∧K.lookup a=none∧∃o xs,u=.jK o (.lst xs))∨(∃q∈tabs,b=q.2))→
   codeAny (model P w) callerA (.call (.ref fa) ⟨[.ref a],[]⟩) (λr s'=>r=.ok (.ret (.bool true))∧OldK s₁.heap s'.heap∧s'.os=s₁.os∧AllBare s'.gens) s₁:=by
  intro H hS bH uG hA;have Cu:∀{b:Addr}{o:Obj},s₁.heap.get? b=some o→H b=none→(oS s₁.heap H).get? b=some o:=λe n=>T3 e n;have Hz:∀{b:Addr}{o:Obj},s₁.heap.get? b=some o→o≠{ cls:=.type "list",data:=.seq vs.toArray }→o≠PySem.W.tabObj #[]→H b=none:=λ{b o} e n1 n2=>by
   cases q:H b with
   |none=>rfl
   |some u=>
    rcases hA b u q with⟨rfl,_⟩|⟨r,hr,rfl⟩
    ·rw[ha]at e;cases e;exact absurd rfl n1
    ·rw[(hT r hr).2]at e;cases e;exact absurd rfl n2
  have Cv:∀{b:Addr}{m:Str→Option Value},s₁.heap.Ns b m→(oS s₁.heap H).Ns b m:=λ{b m} ⟨o,es,ep,e,d,r⟩=>⟨o,es,ep,Cu e (Hz e (λz=>by rw[z]at d;cases d) (λz=>by rw[z]at d;cases d)),d,r⟩;have Oz:K.In (oS s₁.heap H):=λb o e=>Cu (KX b o e) (by
   cases q:H b with
   |none=>rfl
   |some u=>
    rcases hA b u q with⟨rfl,hn,_⟩|⟨r,hr,rfl⟩
    ·rw[hn]at e;cases e
    ·rw[Yd r hr]at e;cases e)
  have hM:Mod K mg (oS s₁.heap H):=⟨Oz,Cv Ct,⟨mb,Cv hb,qc⟩,let ⟨mc,h1,h2⟩:=Yb;⟨mc,Cv h1,h2⟩⟩;have Ye:rm mg (oS s₁.heap H):=by
   obtain⟨bm,ob,b1,b2,b3,b4,b5,b6⟩:=Ya;exact⟨bm,ob,b1,b2,Cu b3 (Hz b3 (λz=>by rw[z]at b4;exact absurd (Value.type.inj b4) (by decide)) (λz=>by rw[z]at b4;cases b4)),b4,b5,b6⟩
  have Yf:∀q∈tabs,CodeHd (oS s₁.heap H) q.1 q.2:=λq hq=>by
   obtain⟨o,Yg,file,tf,Yh,tg,Yi,text,tt,e1,e2,r⟩:=(hT q hq).1;exact⟨o,Yg,file,tf,Yh,tg,Yi,text,tt,Cu e1 (Hz e1 (λz=>by rw[z]at e2;exact absurd (Value.type.inj e2) (by decide)) (λz=>by rw[z]at e2;cases e2)),e2,r⟩
  have e0:vW P w K mg (oS s₁.heap H) callerA [] s₁ H:=⟨rfl,hM,λb o e=>T4 e,Nat.le_of_eq (T2 _ _),trivial,λb hb=>absurd (show b∈([]:List Addr) from hb) (by simp),bH,.of_eq hg⟩
  refine codeAny_mono ((F _ Oz (Cv Ct) Ye Yf).run callerA [] s₁ H ⟨[.ref a],[]⟩ [.ref a] [.ref a] _ _ hr e0 (Hy s₁ (.ref a)) (.cons rfl .nil) (i4 H hS uG)) λr s' h=>?_;cases r with
  |error e=>exact False.elim h
  |ok fl=>
   cases fl with
   |next=>exact False.elim h
   |brk=>exact False.elim h
   |cont=>exact False.elim h
   |ret u=>
    obtain⟨v,H',os,bare,un,OA,r',q⟩:=h;have q':v=.bl true:=q;subst q';obtain rfl:u=Value.bool true:=r';have keep:∀b o,s₁.heap.get? b=some o→s'.heap.get? b=some o∨∃q∈tabs,b=q.2∧o=PySem.W.tabObj #[]∧∃ps,s'.heap.get? b=some (PySem.W.tabObj ps):=λb o e=>by
     cases q:H b with
     |none=>exact .inl (un.keep b o e q (by intro z;exact absurd (show b∈([]:List Addr) from z) (by simp)) (by simp))
     |some u=>
      rcases hA b u q with⟨rfl,_,ob,xs,rfl⟩|⟨r,hr,rfl⟩
      ·have z2:=un.lC _ ob _ q;obtain⟨e1,_⟩:=bH _ _ q;obtain⟨e2,_⟩:=OA _ _ z2;rw[e]at e1;cases e1;exact .inl e2
      ·obtain⟨more,hm⟩:=un.l8 _ _ (uG r hr);have e2:=(hT r hr).2;rw[e]at e2;exact .inr ⟨r,hr,rfl,cN e2,_,OA _ _ hm⟩
    refine⟨rfl,⟨λb o e=>?_,λb o e=>?_⟩,os,bare⟩
    ·rcases keep b o e with h|⟨q,hq,rfl,rfl,ps,hP⟩
     ·exact .inl h
     ·exact .inr (.inl ⟨((hT q hq).1.tab (hT q hq).2).isCodeTable,rfl,#[],ps,rfl,by rw[Array.empty_append];exact hP⟩)
    ·rcases keep b o e with h|⟨q,hq,rfl,rfl,ps,hP⟩
     ·exact⟨_,h⟩
     ·exact⟨_,hP⟩
 cases hk:K.lookup a with
 |some o=>
  have e:=KX a o hk;rw[ha]at e;cases e;refine core (λb=>if b∈tabs.map (·.2)then some (.fh #[])else none) (.inr ⟨_,vs.toArray,_,hk,rfl,rfl,rfl,by rw[dE,Yc];exact hl,by simpa using rv⟩) (λb u z=>?_) (λq hq=>ae (xV hq)) λb u z=>?_
  ·by_cases nA:b∈tabs.map (·.2)
   ·have z':=(ae nA).symm.trans z;cases z';obtain⟨q,hq,rfl⟩:=dq.mp nA;exact(hT q hq).2
   ·have z':=(af nA).symm.trans z;cases z'
  ·by_cases nA:b∈tabs.map (·.2)
   ·obtain⟨q,hq,rfl⟩:=dq.mp nA;exact .inr ⟨q,hq,rfl⟩
   ·have z':=(af nA).symm.trans z;cases z'
 |none=>
  have hif:∀b,b=a→(if b=a then some (HO.jK { cls:=.type "list",data:=.seq vs.toArray } (.lst (ns.map V.int)))else if b∈tabs.map (·.2)then some (.fh #[])else none)=some (HO.jK { cls:=.type "list",data:=.seq vs.toArray } (.lst (ns.map V.int))):=λb hb=>ae hb
  refine core (λb=>if b=a then some (.jK { cls:=.type "list",data:=.seq vs.toArray } (.lst (ns.map V.int)))else if b∈tabs.map (·.2)then some (.fh #[])else none) (.inl (.inr ⟨{ cls:=.type "list",data:=.seq vs.toArray },ae rfl⟩)) (λb u z=>?_) (λq hq=>(af (aT q hq)).trans (ae (xV hq))) λb u z=>?_
  ·by_cases hb:b=a
   ·have z':=(ae hb).symm.trans z;cases z';subst hb;exact⟨ha,by rw[bj];exact hl,vs,_,rv,ha⟩
   ·have z:=(af hb).symm.trans z;by_cases nA:b∈tabs.map (·.2)
    ·have z':=(ae nA).symm.trans z;cases z';obtain⟨q,hq,rfl⟩:=dq.mp nA;exact(hT q hq).2
    ·have z':=(af nA).symm.trans z;cases z'
  ·by_cases hb:b=a
   ·have z':=(ae hb).symm.trans z;cases z';exact .inl ⟨hb,hk,_,_,rfl⟩
   ·have z:=(af hb).symm.trans z;by_cases nA:b∈tabs.map (·.2)
    ·obtain⟨q,hq,rfl⟩:=dq.mp nA;exact .inr ⟨q,hq,rfl⟩
    ·have z':=(af nA).symm.trans z;cases z'
end
theorem Yj{l:PySem.W.OpenLaw}{k:Nat}{q:Program}{v9:List Str}{XP:(Str→Option Value)→Heap→Prop}{YP:World→Heap→Prop}{d:DefRec}{K:Params→Frag}{sp:World→Sp}{tabs:World→List (Addr×Addr)}
  (hn:l.most=some n) (Yk:n≤sizeLine) (yF:d.params.defaults=[]) (hr:dP k callerA)
  (hY:∀(w:World)(h:Heap),YP w h→(K w.params).In h) (noT:∀w:World,PySem.W.noTabs (K w.params)=true)
  (hT:∀(w:World){ze:ExcName→Option Value}{lo:List Str}{mg mb:Str→Option Value}{h:Heap},Top q lo ze mg mb h→(K w.params).In h→PySem.W.TabsAt (tabs w) h)
  (F:∀(w:World)(mg:Str→Option Value)(fa:Addr)(h:Heap),(K w.params).In h→h.Ns mainGlobals mg→mg d.name=some (.ref fa)→
   ∃fd:FuncData,(∀(s:Shared)(u:Value),BindsTo s fd ⟨[u],[]⟩ [(x,u)])∧
    ∀base:Heap,(K w.params).In base→base.Ns mainGlobals mg→rm mg base→(∀q∈tabs w,CodeHd base q.1 q.2)→bz l.prog w (K w.params) mg base bx k fa fd [x] (sp w))
  (i4:∀(w:World)(H:Hp)(a:Addr)(ns:List Int),ns.length≤n→dw (K w.params) H a (ns.map V.int)→(∀q∈tabs w,H q.2=some (.fh #[]))→sp w [.ref a] H (λv _=>v=.bl true) λ_ _ _=>False) :
  PySem.W.WalkO q v9 XP YP l.row.toRowW d [] (λf vs=>PySem.call f vs):=by
 refine Att.Vs hn yF λw s₀ s₁ mg mb fa o pm cd doc a vs ns G Y ho hd gI hmg Gf hints cO hg=>?_;have KX:=hY w _ Y;obtain⟨fd,hb,hF⟩:=F w mg fa _ KX G.T.g hmg;exact X9 KX (noT w) (hT w G.T KX) G.T.g G.T.b G.T.builtins G.T.bmain G.T.nolimit hg Gf hints (eJ cO Yk) hr hF hb λH hS uG=>i4 w H a ns cO hS uG
noncomputable def iT(K:Frag)(x:Str):Addr×Addr:=(tabIn K x).getD (0,0)
theorem Cw{K:Frag}(h:(tabIn K x).isSome=true):tabIn K x=some (iT K x):=by
 unfold iT;cases e:tabIn K x with
 |none=>rw[e]at h;cases h
 |some q=>rfl
theorem tabs_nil:PySem.W.TabsAt [] h:=λ_ hq=>(nomatch hq)
theorem tabs_cons{q:Program}{lo:List Str}{ze:ExcName→Option Value}{mg mb:Str→Option Value}{K:Frag}{d:DefRec}{l:List (Addr×Addr)}(T:Top q lo ze mg mb h)(X:K.In h)(hr:(recsOf q).find? (λe=>e.name==x)=some d)
  (hs:(tabIn K x).isSome=true) (hl:PySem.W.TabsAt l h):PySem.W.TabsAt (iT K x::l) h:=List.forall_mem_cons.mpr ⟨PySem.W.tab_of (c:=(iT K x).1) (P:=(iT K x).2) T X hr (Cw hs),hl⟩
def ky(h:Heap)(a:Addr)(D:List (Str×V)):Prop:=KTD.TabOf (λ(v:V)(u:Value)=>RelV v u) h a D
noncomputable def OB:V→Value→Bool
 | .cg,.none=>true
 | .bl b,.bool c=>b==c
 | .int i,.int j _=>i==j
 | .str x,.str y _=>x==y
 | .ref a,.ref b=>a==b
 |_,_=>false
theorem Yl(v:V)(u:Value)(h:OB v u=true):RelV v u:=by
 cases v<;>cases u<;>first|exact Bool.noConfusion h|rfl|(have e:=beq_iff_eq.mp h;subst e;first|rfl|exact⟨_,rfl⟩)
noncomputable def Ym:Value→V
 | .bool b=>.bl b
 | .int i _=>.int i
 | .str x _=>.str x
 | .ref a=>.ref a
 |_=>.cg
noncomputable def fK(K:Frag)(a:Addr):List (Str×V):=match K.lookup a with
 |some ⟨_,_,.dict es _,_⟩=>es.toList.map λe=>((match e.key with | .str x _=>x|_ => ""),Ym e.val)
 |_=>[]
noncomputable def Cy(K:Frag)(a:Addr):Bool:=KTD.tabLook OB (λb=>K.lookup b) a (fK K a)
theorem HB{K:Frag}(X:K.In h)(e:Cy K a=true):ky h a (fK K a):=KTD.tab_of_look Yl (λb o q=>X b o q) e
theorem ky.typeIs{D:List (Str×V)}(T:ky s.heap a D):s.TypeIs (.ref a) "dict":=by
 obtain⟨_,o,_,_,ho,hc,_⟩:=T;exact⟨o,ho,hc.1⟩
theorem ky.noDict{D:List (Str×V)}(T:ky h a D):∀b,Value.ref a=.ref b→∃ob,h.get? b=some ob∧ob.dict=none:=λb e=>by
 cases e;obtain⟨_,o,_,_,ho,hc,_⟩:=T;exact⟨o,ho,hc.2.1⟩
section
variable{prog:Program}{w:World}{A:Around}{E:QV}{s:Shared}{a:Addr}{D:List (Str×V)}{x:Str}{tk:Tok}
theorem HG{Q:Option Value→Shared→Prop}(T:ky s.heap a D)(h1:∀v u,KTD.datumAt x D=some v→RelV v u→Q (some u) { s with toks:=s.toks+1 })(h2:KTD.datumAt x D=none→Q none { s with toks:=s.toks+1 }) :
  wpAny (model prog w) A (dictGet a (.str x tk)) Q E s:=by
 obtain⟨_,o,es,ep,ho,hc,hd,hr⟩:=T;have Yn:(es.all λe=>isExactStrKey e.key)=true:=by
  have z:=hr.exact;obtain⟨l⟩:=es;simpa using z
 have hf:findBy (λk v=>v.isStr k) es x=(es.toList.find? λe=>e.key.isStr x).map (·.val):=by obtain⟨l⟩:=es;simp[findBy]
 have hq:Q (findBy (λk v=>v.isStr k) es x) { s with toks:=s.toks+1 }:=by
  rw[hf];cases e:KTD.datumAt x D with
  |none=>rw[hr.find_none e];exact h2 e
  |some v=>obtain⟨u,z1,z2⟩:=hr.find_some e;rw[z1];exact h1 v u e z2
 rw[findBy_of_findIdx?]at hq;unfold dictGet;refine ak (wpAny_pyHash_str (ak (KTD.kt_dictFind_strs (s:={ s with toks:=s.toks+1 }) ho hd Yn ?_)));cases e:es.findIdx? λe=>e.key.isStr x with
 |none=>rw[e]at hq;exact aq hq
 |some i=>rw[e]at hq;exact ak (wpAny_dictEntries (s:={ s with toks:=s.toks+1 }) ho hd (aq hq))
theorem kd_item{v:V}(T:ky s.heap a D)(hv:KTD.datumAt x D=some v)(h:∀u,RelV v u→Q u { s with toks:=s.toks+1 }):wpAny (model prog w) A (getItem (.ref a) (.str x tk)) Q E s:=by
 unfold getItem
 try (with_reducible refine ao ?_)
 refine ak (wpAny_sequenceKey (T.typeIs) (by decide) ?_);refine ak (ay (name:=Str.ofString "__getitem__") T.typeIs PySem.F.slot_dict_getitem (az PySem.F.slot_dict_getitem T.typeIs PySem.F.entry_dict_getitem ?_ (PySem.F.args_dict_getitem_2 _ _)));show wpAny _ _ (dictGet a (.str x tk) >>= _) _ _ s;exact ak (HG T (λv' u e r=>by rw[hv]at e;cases e;exact aq ⟨u,rfl,aq (h u r)⟩) λe=>by rw[hv]at e;cases e)
theorem Yo(T:ky s.heap a D)(h:Q (.bool (KTD.datumAt x D).isSome) { s with toks:=s.toks+1 }):wpAny (model prog w) A (compareOp .In (.str x tk) (.ref a)) Q E s:=by
 show wpAny _ _ (do return .bool (← contains (.ref a) (.str x tk))) Q E s
 refine ak ?_;unfold contains
 try (with_reducible refine ao ?_)
 refine ak (wpAny_specialOf T.typeIs PySem.F.slot_dict_contains.lookup ?_);show wpAny _ _ (if(some (Value.builtin "dict.__contains__")==some Value.none)=true then _ else _) _ _ s
 rw[af (by decide)];refine ak (wpAny_callSpecialUnlessNone?_slot (name:=Str.ofString "__contains__") T.typeIs PySem.F.slot_dict_contains (az PySem.F.slot_dict_contains T.typeIs PySem.F.entry_dict_contains ?_ (PySem.F.args_dict_contains_2 _ _)));show wpAny _ _ (dictGet a (.str x tk) >>= _) _ _ s;refine ak (HG T (λv u e _=>?_) λe=>?_)
 ·rw[e]at h;exact(aq ⟨_,rfl,ah (aq h)⟩)
 ·rw[e]at h;show wpAny _ _ (Builtin.Dict.pendingKey? a (.str x tk) >>= _) _ _ _;exact ak (wpAny_pendingKey_other T.1 (aq ⟨_,rfl,ah (aq h)⟩))
theorem Yp{dflt:Value}:MeetsIn prog w (Builtin.«dict.get» ⟨[.ref a,.str x tk,dflt],[]⟩) (λ_ R s=>ky s.heap a D∧(∀v u,KTD.datumAt x D=some v→RelV v u→R (.ok (.ret u)) { s with toks:=s.toks+1 })∧(KTD.datumAt x D=none→R (.ok (.ret dflt)) { s with toks:=s.toks+1 })):=
 .of_wp λA₁ R s ⟨T,h1,h2⟩=>by
  show wpAny _ _ (dictGet a (.str x tk) >>= _) _ _ s;refine ak (HG T (λv u e r=>aq ⟨u,rfl,h1 v u e r⟩) λe=>?_);show wpAny _ _ (Builtin.Dict.missed a (.str x tk) >>= _) _ _ _;exact ak (wpAny_missed_other T.1 (aq ⟨dflt,rfl,h2 e⟩))
theorem Yq{dflt:Value}(T:ky s.heap a D)(h1:∀v u,KTD.datumAt x D=some v→RelV v u→Q u { s with toks:=s.toks+1 })(h2:KTD.datumAt x D=none→Q dflt { s with toks:=s.toks+1 }) :
  wpAny (model prog w) A (call (.builtin "dict.get") [.ref a,.str x tk,dflt]) Q E s:=
 call_meetsIn PySem.F.slot_dict_get T.typeIs PySem.F.entry_dict_get (PySem.F.args_dict_get_3 _ _ _) (Yp (D:=D)) ⟨T,h1,h2⟩
end
section
variable{X:Cx}{o i e f:Expr}{pos jN eO:Pos}{td ty tx:TE}{a:Addr}{D:List (Str×V)}
def Cz(a:Addr)(D:List (Str×V))(td ty:TE):TE:=λσ H Q=>td σ H λu H1=>ty σ H1 λy H2=>∃x v,u=.ref a∧y=.str x∧KTD.datumAt x D=some v∧Q v H2
theorem HH(hT:∀h,X.K.In h→ky h a D)(ho:PE X o td)(hi:PE X i ty)(hs:Hr i):PE X (.Subscript o i pos) (Cz a D td ty):=by
 intro aH s σ H Q I h;refine Oc PySem.F.slot_dict_getitem.lookup hs (bf (ho aH s σ H _ I h) λu s1 ⟨x',H1,I1,rx,q1⟩=>bf (hi aH s1 σ H1 _ I1 q1) λiv s2 ⟨y,H2,I2,ry,x,v,ex,ey,g,q2⟩=>?_);subst ex ey;obtain rfl:u=Value.ref a:=rx;obtain⟨tk,rfl⟩:=ry;exact⟨(hT _ I2.fo).typeIs,kd_item (hT _ I2.fo) g λu r=>⟨v,H2,I2.tok _,r,q2⟩⟩
def CA(a:Addr)(D:List (Str×V))(ty td:TE):TE:=λσ H Q=>ty σ H λy H1=>td σ H1 λu H2=>∃x,u=.ref a∧y=.str x∧Q (.bl (KTD.datumAt x D).isSome) H2
theorem HI(hT:∀h,X.K.In h→ky h a D)(hi:PE X i ty)(ho:PE X o td):PC X .In i o (CA a D ty td):=by
 intro aH s σ H Q I h;refine bf (hi aH s σ H _ I h) λiv s1 ⟨y,H1,I1,ry,q1⟩=>bf (ho aH s1 σ H1 _ I1 q1) λu s2 ⟨x',H2,I2,rx,x,ex,ey,q2⟩=>?_;subst ex ey;obtain rfl:u=Value.ref a:=rx;obtain⟨tk,rfl⟩:=ry;exact Yo (hT _ I2.fo) ⟨.bl _,H2,I2.tok _,rfl,q2⟩
def Yr(a:Addr)(D:List (Str×V))(td ty tx:TE):TE:=λσ H Q=>td σ H λu H1=>u=.ref a∧ty σ H1 λy H2=>tx σ H2 λz H3=>∃x,y=.str x∧Q ((KTD.datumAt x D).getD z) H3
theorem Ys(hT:∀h,X.K.In h→ky h a D)(ho:PE X o td)(he:PE X e ty)(hf:PE X f tx)(m:M2 X o "get" jN e f eO):PE X (.Call (.Attribute o "get" jN) [e,f] [] eO) (Yr a D td ty tx):=by
 intro aH s σ H Q I h;refine wpAny_Call_method m.base m.p9 m.line PySem.F.plainAttrs_dict PySem.F.slot_dict_get PySem.F.type_dict_get (bf (ho aH s σ H _ I h) λu s1 ⟨x',H1,I1,rx,ex,q1⟩=>?_);subst ex;obtain rfl:u=Value.ref a:=rx;refine⟨(hT _ I1.fo).typeIs,(hT _ I1.fo).noDict,?_⟩;rw[m.trees];refine Calls.callWith_builtin rfl (Calls.evalArgs_plain (Calls.spliced_cons (bf (he aH s1 σ H1 _ I1 q1) λiv s2 ⟨y,H2,I2,ry,q2⟩=>Calls.spliced_cons (bf (hf aH s2 σ H2 _ I2 q2) λfv s3 ⟨z,H3,I3,rz,x,ey,q3⟩=>Calls.spliced_nil ?_))));subst ey;obtain⟨tk,rfl⟩:=ry;refine Yq (hT _ I3.fo) (λv u e r=>⟨v,H3,I3.tok _,r,?_⟩) λe=>⟨z,H3,I3.tok _,rz,?_⟩
 ·rw[e]at q3;exact q3
 ·rw[e]at q3;exact q3
end
noncomputable def wH(hi:Int)(n:Nat):It:=⟨λi _=>i<n,λi H x H'=>H'=H∧x=.int (hi-i),λi _=>n≤i⟩
theorem Yt{P:Program}{w:World}{K:Frag}{tg:Expr}(it:Addr)(hi:Int)(n:Nat):Turn P w K tg (wH hi n) [it] it (λi h=>IsRangeIter h it (hi+(i:Nat)*(-1)) ((n:Int)-(i:Nat)) (-1)) where
 mem:=by simp
 obj:=λi h st b hb=>by
  have e:b=it:=by simpa using hb
  subst e;refine⟨_,st,λv z=>?_⟩;cases(show Data.fields _=Data.cell v from z)
 keep:=λi h h' st k=>k it (by simp) _ st
 item:=by
  intro X hP hw hK hc i aH s σ H E I hf st hg;subst hP hw hK;obtain⟨f0,f1,f2,f3,f4,f5⟩:=hf it (by simp);refine(Walks.range (prog:=X.prog) (w:=X.w) (I.ok.hd hc) it hi (-1) n).item i s _ _ hg st λv h' tk hv oX kk=>?_;obtain⟨t,rfl⟩:=hv;have I1:Inv X aH σ H { s with heap:=h',toks:=tk }:=I.turned (λb o hb e=>kk b o (by simpa using hb) e) f0 f1 f3 f4 f5;refine⟨_,rfl,Br (s:={ s with heap:=h',toks:=tk }) (n := "range_iterator") oX rfl rfl (by decide) ⟨.int (hi-i),H,I1,⟨t,?_⟩,⟨rfl,rfl⟩,oX,λb hb=>(hf b hb).1⟩⟩;rw[Int.mul_neg,Int.mul_one,Int.sub_eq_add_neg]
 done:=by
  intro X hP hw hK hc i aH s σ H E I hf st hg;subst hP hw hK;obtain⟨f0,f1,f2,f3,f4,f5⟩:=hf it (by simp);exact wpAny_pyNext_range_end (I.ok.hd hc) st (by have:n≤i:=hg;lia) λh' eb=>⟨rfl,I.turned (t':=s.toks) (λb o hb e=>eb b o hb e) f0 f1 f3 f4 f5⟩
 self:=λ_ _ _ _ _ st h=>wpAny_pyIter_rangeiter st h
theorem OC(h:-1≤i):Builtin.Range.rangeSize i (-1) (-1)=i+1:=by
 (unfold Builtin.Range.rangeSize)
 rw[af (by decide)];split
 ·rw[show(-(-1):Int)=1 from rfl,Int.ediv_one];lia
 ·lia
theorem small_down(h:-1≤i)(h2:i<2^61):Builtin.Range.small i (-1) (-1)=true:=by
 unfold Builtin.Range.small;rw[OC h];simp only[Builtin.Range.rangeFitsLong,fg,Bool.or_eq_true,aF,beq_iff_eq];exact⟨⟨⟨⟨⟨by lia,by lia⟩,by decide,by decide⟩,by decide,by decide⟩,by lia,by lia⟩,.inr (by decide)⟩
section
variable{X:Cx}{tg:Expr}
def OD(ta:TA):TI:=λσ H R=>ta σ H λvs H1=>∃i:Int,vs=[.int i,.int (-1),.int (-1)]∧(-1≤i∧i<2^61)∧R (wH i (i+1).toNat) H1
theorem Yu{aH:List (Addr×Obj)}{σ:St}{R:It→Hp→Prop}{E:QV}{t u v:Tok}{tk:Nat}(I:Inv X aH σ H s)(h1:-1≤i)(h2:i<2^61)(q:R (wH i (i+1).toNat) H) :
  wpAny (model X.prog X.w) X.A (pyIter (.ref s.heap.objs.size)) (Fq X aH σ tg R) E { s with heap:=s.heap.push { cls:=.type "range",data:=.fields #[.int i t,.int (-1) u,.int (-1) v] },toks:=tk }:=by
 refine wpAny_pyIter_range (IsRange.new ..) (small_down h1 h2) ?_;have I1:Inv X aH σ H { s with heap:=s.heap.push { cls:=.type "range",data:=.fields #[.int i t,.int (-1) u,.int (-1) v] },toks:=tk }:=I.kept λb o e=>dX _ e;generalize s.heap.push { cls:=.type "range",data:=.fields #[.int i t,.int (-1) u,.int (-1) v] }=h3 at I1 ⊢;refine⟨h3.objs.size,[h3.objs.size],_,_,H,rfl,I1.kept (t':=tk) λb o e=>dX _ e,Yt _ i (i+1).toNat,?_,λb hb=>?_,q⟩
 ·show IsRangeIter _ _ (i+((0:Nat):Int)*(-1)) ((((i+1).toNat:Nat):Int)-((0:Nat):Int)) (-1);rw[show i+((0:Nat):Int)*(-1)=i by simp,show(((i+1).toNat:Nat):Int)-((0:Nat):Int)=Builtin.Range.rangeSize i (-1) (-1) by rw[OC h1];lia];exact iW _ rfl
 ·have e:b=h3.objs.size:=by simpa using hb
  subst e;exact I1.pQ (cf _) (I1.bH.fresh (cf _))
theorem OE{a b c:Expr}{ta:TA}{p pos:Pos}(hg:Gl X "range")(hm:X.mg "range"=none)(ha:PA X [a,b,c] ta)(hs:starEach [a,b,c] X.env=(false,eval a X.env)::starEach [b,c] X.env:=by rfl)(hs2:(backTo pos (starEach [b,c] X.env)).any (·.1)=false:=by rfl) :
  PI X tg (.Call (.Name "range" p) [a,b,c] [] pos) (OD ta):=by
 intro aH s σ H R I h;refine Call_ (sg I hg hm boot_range (Ba (bf (ha pos aH s σ H _ I h) λus s1 ⟨vs,H1,I1,r1,q1⟩=>?_) hs hs2));obtain⟨i,e,⟨q1,q2⟩,q⟩:=q1;subst e;cases r1 with
 |cons r rr=>
  cases rr with
  |cons r' rr=>
   cases rr with
   |cons r2 rr=>
    cases rr;obtain⟨t,rfl⟩:=r;obtain⟨t',rfl⟩:=r';obtain⟨t2,rfl⟩:=r2;exact call_range_3 (by decide) (Yu I1 q1 q2 q) (Or.inl (PyProof.noPylong_small (by lia)))
end
theorem OF{hi:Int}{g:TG}{tb:TS}{D:Ends}{σ:St}(Pv:Nat→St→Hp→Prop)(h0:Pv 0 σ H)
  (hs:∀i σ H,i<n→Pv i σ H→g (.int (hi-(i:Nat))) σ H λσ2 H2=>tb { D with nx:=Pv (i+1),ct:=Pv (i+1),bk:=D.nx } σ2 H2) (hd:∀σ H,Pv n σ H→D.nx σ H) :
  ∃W:Nat→Nat→St→Hp→Prop,(∃m,W 0 m σ H)∧∀i m σ H,W i m σ H→
   ((wH hi n).stop i H∧D.nx σ H)∨((wH hi n).go i H∧∃N:St→Hp→Prop,(∀σ' H',N σ' H'→∃m',m'<m∧W (i+1) m' σ' H')∧∀x H',(wH hi n).qO i H x H'→g x σ H' λσ2 H2=>tb { D with nx:=N,ct:=N,bk:=D.nx } σ2 H2):=by
 refine⟨λi m σ H=>m=n-i∧i≤n∧Pv i σ H,⟨n,by simp,kj _,h0⟩,?_⟩;rintro i m σ H ⟨rfl,jq,p⟩;by_cases cL:i<n
 ·exact .inr ⟨cL,Pv (i+1),λσ' H' p'=>⟨n-(i+1),by lia,rfl,cL,p'⟩,λx H' ⟨z1,z2⟩=>by subst z1 z2;exact hs i σ _ cL p⟩
 ·have e:i=n:=by lia
  subst e;exact .inl ⟨cf _,hd σ H p⟩
def wI(cp:St)(P:Hp→List V→Prop):St→Hp→List V→Prop:=λσ H zs=>(∃o:St,o.length=1∧σ=o++cp)∧P H zs
theorem wI.mk{cp:St}{P:Hp→List V→Prop}{x:Option V}{zs:List V}(h:P H zs):wI cp P (x::cp) H zs:=⟨⟨[x],rfl,rfl⟩,h⟩
theorem Yv{cp:St}{te:TE}{Q:VK}{H1:Hp}{lo:Int}(Pv:Nat→Hp→List V→Prop)(hz:n≤sizeLine)(h0:Pv 0 H1 [])(cO:∀i H zs,Pv i H zs→zs.length≤i)
  (step:∀i H zs,i<n→Pv i H zs→te (some (.int (lo+(i:Nat)))::cp) H λv H5=>wI cp (Pv (i+1)) (some (.int (lo+(i:Nat)))::cp) H5 (zs++[v])) (done:∀H zs,Pv n H zs→∀p,H p=none→Q (.ref p) (upd H p (.lst zs))) :
  ∃W:Nat→Nat→St→Hp→List V→Prop,(∃m,W 0 m (List.replicate 1 none++cp) H1 [])∧mq (qQ lo n) (cq 0) iP te Q W:=by
 refine⟨λi m σ H zs=>m=n-i∧i≤n∧wI cp (Pv i) σ H zs,⟨n,by simp,kj _,⟨_,by simp,rfl⟩,h0⟩,?_⟩;rintro i m σ H zs ⟨rfl,hi,⟨o,ho,rfl⟩,pv⟩;have hl:=cO _ _ _ pv;by_cases cL:i<n
 ·refine .inr ⟨cL,by lia,wI cp (Pv (i+1)),λσ2 H2 yR q=>⟨n-(i+1),by lia,rfl,cL,q⟩,λx H2 y=>?_⟩;obtain⟨z,rfl⟩:=B2 ho;obtain⟨rfl,rfl⟩:=y;exact step i _ zs cL pv
 ·have e:i=n:=by lia
  subst e;exact .inl ⟨cf _,by lia,done H zs pv⟩
def fw(H H':Hp):Prop:=∀b o,H b=some o→((∃xs,o=.tup xs)∨∃ob u,o=.jK ob u)→H' b=some o
theorem fw.trans{H1 H2:Hp}(a:fw H H1)(b:fw H1 H2):fw H H2:=λc o h k=>b c o (a c o h k) k
theorem aL.tup(s:aL H H'):fw H H':=λb o h _=>s b o h
theorem fw.upd{H:Hp}{a:Addr}{o:HO}(h:∀u,H a=some u→(∃xs,u=.lst xs)∨∃aU,u=.dK aU):fw H (upd H a o):=λb u e k=>by
 have ne:b≠a:=λz=>by
  subst z;rcases h u e with⟨xs,rfl⟩|⟨aU,rfl⟩<;>rcases k with⟨_,z⟩|⟨_,_,z⟩<;>cases z
 rw[bZ ne];exact e
theorem fw.lst{H:Hp}{a:Addr}{xs:List V}{o:HO}(h:H a=some (.lst xs)):fw H (L2.upd H a o):=fw.upd λu e=>.inl ⟨xs,by rw[h]at e;exact(cN e).symm⟩
theorem fw.Yw{aU:List (Key×V)}{o:HO}(h:H a=some (.dK aU)):fw H (L2.upd H a o):=fw.upd λu e=>.inr ⟨aU,by rw[h]at e;exact(cN e).symm⟩
theorem fw.bq{K:Frag}{xs:List V}(e:fw H H')(h:bh K H a xs):bh K H' a xs:=by
 rcases h with h|h
 ·refine .inl ?_;rcases h with h|⟨o,h⟩
  ·exact .inl (e _ _ h (.inl ⟨xs,rfl⟩))
  ·exact .inr ⟨o,e _ _ h (.inr ⟨o,_,rfl⟩)⟩
 ·exact .inr h
theorem aL.put{o:HO}(s:aL H H')(h:H a=none):aL H (L2.upd H' a o):=λb u e=>by
 rw[bZ (eQ e h)];exact s b u e
structure pd(P:Program)(w:World)(K:Frag)(mg:Str→Option Value)(base:Heap)(k:Nat)(s:Shared)(H:Hp)(f:Addr)(R:List V→Hp→VK→Prop):Prop where
 here:(∃φ:Heap→Prop,H f=some (.ext φ)∧∀h,φ h→PySem.W.FnAt f h)∨∀h,K.In h→PySem.W.FnAt f h
 run:∀(A:Around)(outer:List Env)(s':Shared)(H':Hp)(vs:List V)(us:List Value)(Q:VK),dP k A→vW P w K mg base A outer s' H'→aL H H'→
  (∀c o,s.heap.get? c=some o→H c=none→H' c=none∧∃sl,s'.heap.get? c=some { o with slots:=sl })→Vals vs us→R vs H' Q→codeAny (model P w) A (.call (.ref f) ⟨us,[]⟩) (CR bx outer P w H' s' Q E0) s'
theorem pd.OG{P:Program}{w:World}{K:Frag}{mg:Str→Option Value}{base:Heap}{k:Nat}{sp:Sp}(F:bz P w K mg base bx k f fd ps sp)(G:cG K x qual st f fd)(hb:Binds K fd ps []) :
  pd P w K mg base k s H f (λvs H' Q=>sp vs H' Q E0):=by
 refine⟨.inr λh X=>?_,λA outer s' H' vs us Q hr e0 _ _ r q=>?_⟩
 ·obtain⟨oc,od,kV,doc,pm,an,bI,ct,nv,rfl,lk,_⟩:=G.ex;exact⟨_,_,_,_,X _ _ lk⟩
 ·have KX:K.In s'.heap:=e0.mod.qI.keeps λb o e=>(e0.bs b o e).1;have hl:us.length=ps.length:=by rw[← r.length];exact F.len _ _ _ _ q
  have qc:=hb s' us KX (by rw[iK];exact hl);rw[iK]at qc;exact F.run A outer s' H' ⟨us,[]⟩ us vs Q E0 hr e0 qc r q
section
variable{X:Cx}{k:Nat}{f:Addr}{x:Str}{p pos:Pos}{e:Expr}{es:List Expr}{t:TA}{R:List V→Hp→VK→Prop}
theorem Yx{i:Nat}(L:pd X.prog X.w X.K X.mg X.base k X.s₀ X.H₀ f R)(hr:dP k X.A)(hex:X.ex=[])(hN:X.N[i]?=some x)(hv:x5 X.env.scope x)(ha:PA X (e::es) t)
  (hd:(x==("__debug__":Str))=false:=by decide) (gI:(x==("__classdict__":Str))=false:=by decide) (he:starEach (e::es) X.env=(false,eval e X.env)::starEach es X.env:=by rfl) (i3:(backTo pos (starEach es X.env)).any (·.1)=false:=by rfl) :
  PE X (.Call (.Name x p) (e::es) [] pos) (λσ H Q=>σ[i]?=some (some (.ref f))∧aL X.H₀ H∧t σ H λvs H1=>aL X.H₀ H1∧R vs H1 Q):=by
 intro aH s σ H Q I ⟨hσ,sm,h⟩;have OH:∀{σ:St}{H1:Hp}{s1:Shared},Inv X aH σ H1 s1→aL X.H₀ H1→PySem.W.FnAt f s1.heap:=λI1 pe=>by
  rcases L.here with⟨φ,hφ,yf⟩|z
  ·exact yf _ (I1.bH f _ (pe _ _ hφ)).1
  ·exact z _ I1.fo
 refine av (bf (LQ hN hv hd gI aH s σ H (λv H1=>v=.ref f∧H1=H) I ⟨_,hσ,rfl,rfl⟩) λu s1 ⟨v,H1,I1,r,e1,e2⟩=>?_);subst e1 e2;cases r;refine PySem.W.callWith_F (OH I1 sm) (bf (ha pos aH s1 σ H1 _ I1 h) λus s2 ⟨vs,H2,I2,rv,ju,hq⟩=>⟨OH I2 ju,?_⟩) he i3;refine wpAny_call (codeAny_mono (L.run X.A X.stack s2 H2 vs us Q hr I2.By ju (λc o hc hn=>?_) rv hq) λr s' hq=>?_)
 ·have zf:c ∉ X.ex:=by rw[hex];simp
  exact⟨I2.base.free c o hc hn zf,I2.base.any hc hn zf⟩
 cases r with
 |error e=>exact False.elim hq
 |ok fl=>
  cases fl with
  |ret u=>exact I2.after hq
  |next=>exact False.elim hq
  |brk=>exact False.elim hq
  |cont=>exact False.elim hq
end
theorem Yy(K:Frag)(hK:X.K=K){o:Expr}{to:TE}{jN eO:Pos}(ho:PE X o to)(ur:attributeBase o "pop" X.env (eval o X.env)=eval o X.env:=by rfl)(uv:(jN.endLine==eO.line)=true:=by rfl) :
  PE X (.Call (.Attribute o "pop" jN) [] [] eO) (FW K "list" F0 to):=hK▸v7 jJ xW xX v8 ho ur uv
end L2
namespace Bw
variable{L:LL}{ls:List Nat}{n:Nat}{p:Int}{v:Fn}
theorem CB(f g:Fn)(n:Nat):dot f g n=dot g f n:=y3 λi _=>nR _ _
noncomputable def comb(c:Nat→Int)(L:LL):Fn:=λj=>dot c (col L j) L.length
theorem OI(c:Nat→Int)(L:LL):Sp p (RS L) (comb c L):=NZ c L.length (cf _)
theorem Yz{a b:Int}(h:p∣a)(k:p∣a-b):p∣b:=by
 have:=jI h k
 rwa[show a-(a-b)=b by lia]at this
theorem YA{D:LL}(E:fu n n D ls){w:Fn}(out:∀j,n≤j→p∣w j)(hl:∀j,j<n→j ∉ ls→p∣w j)(hb:∀d∈D,p∣dot w (fn d) n)(j:Nat):p∣w j:=by
 by_cases hj:j<n
 ·by_cases hm:j∈ls
  ·obtain⟨i,hi,rfl⟩:=l5.mp hm;have OJ:i<D.length:=by rw[← E.len];exact hi
   have hD:=cn OJ;have hL:=cn hi;have hd:=hb _ (gY OJ);unfold dot at hd;rw[rf hj]at hd;have e1:fn D[i] ls[i]=1:=(E.one i _ _ hD hL).1;rw[e1,Int.mul_one]at hd;have dZ:p∣Sg (λq=>if q=ls[i]then 0 else w q*fn D[i] q) n:=wC λq hq=>by
    by_cases q1:q=ls[i]
    ·rw[ae q1];exact⟨0,by simp⟩
    ·rw[af q1];by_cases q2:q∈ls
     ·obtain⟨k,hk,rfl⟩:=l5.mp q2;have cB:k≠i:=λz=>q1 (by subst z;rfl)
      have:fn D[i] ls[k]=0:=E.alone k i _ _ cB hD (cn hk)
      rw[this,Int.mul_zero];exact⟨0,by simp⟩
     ·exact Int.dvd_mul_of_dvd_left (hl q hq q2)
   have:=jI hd dZ
   rwa[show w ls[i]+Sg (λq=>if q=ls[i]then 0 else w q*fn D[i] q) n-Sg (λq=>if q=ls[i]then 0 else w q*fn D[i] q) n=w ls[i] by lia]at this
  ·exact hl j hj hm
 ·exact out j (by lia)
theorem YB{c:Nat→Int}(h1:∀(i:Nat)(r:List Int)(l:Nat),L[i]?=some r→ls[i]?=some l→r.getD l 0=1)(h2:∀(i j:Nat)(r:List Int)(l:Nat),i≠j→L[j]?=some r→ls[i]?=some l→r.getD l 0=0){i l:Nat}(hi:i<L.length)(hl:ls[i]?=some l):comb c L l=c i:=by
 unfold comb dot;rw[rf hi,sJ λk hk=>?_]
 ·rw[Cb (cn hi),h1 i _ l (cn hi) hl];lia
 ·by_cases HJ:k=i
  ·rw[ae HJ]
  ·rw[af HJ,Cb (cn hk),h2 i k _ l (λz=>HJ z.symm) (cn hk) hl,Int.mul_zero]
theorem YC(c:Nat→Int)(h:ck p n L){j:Nat}(hj:n≤j):comb c L j=0:=sJ λi hi=>by
 rw[Cb (cn hi),(h _ (gY hi)).out hj,Int.mul_zero]
theorem YD(c:Nat→Int)(h:∀r∈L,p∣dot (fn r) v n):p∣dot (comb c L) v n:=by
 rw[CB];refine NY (R:=RS L) (λg hg=>?_) (OI c L);obtain⟨r,hr,rfl⟩:=hg;rw[CB];exact h r hr
theorem YE(f u v:Fn)(n:Nat):dot (λj=>u j-v j) f n=dot u f n-dot v f n:=by
 have:dot u f n=dot (λj=>u j-v j) f n+dot v f n:=by
  unfold dot;rw[← uC];exact y3 λi _=>by rw[← Int.add_mul];congr 1;show u i=u i-v i+v i;lia
 lia
theorem YF{D B:LL}(E:fu n n D ls)(h:y4 p n D ls (lK n ls) B)(out:∀j,n≤j→p∣v j)(hd:∀d∈D,p∣dot v (fn d) n):Sp p (RS B) v:=by
 have hf:∀{i l:Nat},(lK n ls)[i]?=some l→l ∉ ls:=λe=>by
  have:=(jZ.mp (dY e)).2
  simpa using this
 have YG:∀b∈B,∀d∈D,p∣dot (fn b) (fn d) n:=λb hb d hd=>by
  obtain⟨i,hi,rfl⟩:=l5.mp hb;have jq:i<(lK n ls).length:=by rw[← h.len];exact hi
  have hf:=jZ.mp (gY jq);exact(h.at_ i _ _ (cn jq) (cn hi)).dot E (nN.mp hf.1) (by simpa using hf.2) d hd
 have z:=YA E (w:=λj=>v j-comb (λi=>v ((lK n ls).getD i 0)) B j) (λj hj=>by rw[YC _ h.rws hj,Int.sub_zero];exact out j hj)
  (λl HK hl=>by
   have hm:l∈lK n ls:=jZ.mpr ⟨nN.mpr HK,by simpa using hl⟩;obtain⟨i,hi,rfl⟩:=l5.mp hm;have hL:=cn hi;rw[YB (ls:=lK n ls) (λi r l a b=>by rw[(h.at_ i l r b a).off l (hf b),ae rfl]) (λi j r l cB a b=>by
    have hj:j<(lK n ls).length:=by rw[← h.len];exact(dO.mp a).1
    have e:=cn hj;rw[(h.at_ j _ r e a).off l (hf b),af];have hs:(lK n ls).Pairwise (· < ·):=List.Pairwise.filter _ List.pairwise_lt_range;obtain⟨hi,ei⟩:=dO.mp b;intro z;rcases Nat.lt_or_gt_of_ne cB with h|h
    ·have:=List.pairwise_iff_getElem.mp hs i j hi hj h
     lia
    ·have:=List.pairwise_iff_getElem.mp hs j i hj hi h
     lia) (by rw[h.len];exact hi) hL,cz,hL]
   exact⟨0,by simp⟩)
  (λd Bj=>by
   rw[YE];exact jI (hd d Bj) (YD _ λr hr=>YG r hr d Bj))
 exact .cR (OI _ B) λj=>by
  have:=nh.mpr (z j)
  rwa[show -(v j-comb (λi=>v ((lK n ls).getD i 0)) B j)=comb (λi=>v ((lK n ls).getD i 0)) B j-v j by lia]at this
section
variable{p:Int}{n:Nat}{L L' L'':LL}
theorem qd(h:∀r∈L,Sp p (RS L') (fn r))(hv:Sp p (RS L) v):Sp p (RS L') v:=hv.trans λf hf=>by
 obtain⟨r,hr,rfl⟩:=hf;exact h r hr
theorem sQ{r:List Int}(h:r∈L):Sp p (RS L) (fn r):=.mem ⟨r,h,rfl⟩
end
end Bw
namespace S21
open PySem L2 Bw
variable{H:Hp}
noncomputable def top(i:Nat):Stmt:=PySem.Challenge.pw_bentwires_k64_whole_any_drawing.main.body.getD i (.Pass ⟨0,0,0,0⟩)
noncomputable abbrev zg:Stmt:=top 5
noncomputable abbrev rp:Stmt:=top 6
noncomputable abbrev zh:Stmt:=top 7
noncomputable abbrev CC:Stmt:=top 8
noncomputable abbrev CF:Stmt:=top 9
noncomputable abbrev wJ:Stmt:=top 10
noncomputable abbrev CG:Stmt:=top 11
noncomputable abbrev CH:Stmt:=top 12
noncomputable abbrev CI:Stmt:=top 16
noncomputable abbrev HM:Stmt:=top 17
noncomputable abbrev CJ:Stmt:=top 18
noncomputable abbrev CK:Stmt:=top 19
noncomputable abbrev wK:Stmt:=top 20
noncomputable abbrev HN:Stmt:=top 21
noncomputable abbrev CL:Stmt:=top 22
noncomputable abbrev HP:Stmt:=top 25
noncomputable abbrev kz:Stmt:=top 26
noncomputable abbrev HQ:Stmt:=top 27
noncomputable abbrev HR:Stmt:=top 28
noncomputable abbrev CM:Stmt:=top 29
noncomputable abbrev zi:Stmt:=top 30
noncomputable abbrev CN:Stmt:=top 31
noncomputable abbrev zj:Stmt:=top 32
noncomputable abbrev jR:Stmt:=top 34
noncomputable abbrev CO:Stmt:=top 35
noncomputable abbrev zk:Stmt:=top 36
noncomputable abbrev HS:Stmt:=top 38
noncomputable abbrev HU:Stmt:=top 39
noncomputable abbrev CP:Stmt:=top 40
noncomputable abbrev qe:Stmt:=top 41
noncomputable abbrev HV:Stmt:=top 42
noncomputable abbrev HW:Stmt:=top 43
noncomputable abbrev HX:Stmt:=top 44
noncomputable abbrev HY:Stmt:=top 45
noncomputable abbrev HZ:Stmt:=top 46
noncomputable abbrev CQ:Stmt:=top 47
noncomputable abbrev sR:Stmt:=top 48
noncomputable abbrev Ia:Stmt:=top 49
noncomputable abbrev Ib:Stmt:=top 50
noncomputable abbrev om:Stmt:=top 51
structure Txt(mg:Str→Option Value):Prop where
 range:mg "range"=none
 zip:mg "zip"=none
 tuple:mg "tuple"=none
 list:mg "list"=none
 int:mg "int"=none
 bool:mg "bool"=none
 isinstance:mg "isinstance"=none
 len:mg "len"=none
 sum:mg "sum"=none
 max:mg "max"=none
 min:mg "min"=none
 enumerate:mg "enumerate"=none
 any:mg "any"=none
 all:mg "all"=none
theorem YH:bootBuiltins "max"=some (.builtin "max"):=by decide +kernel
theorem YI:bootBuiltins "min"=some (.builtin "min"):=by decide +kernel
theorem zm{r:List Int}{j:Nat}(h:j<r.length):r[j]?=some (r.getD j 0):=by
 rw[cn h,cz,cn h];rfl
theorem nB{r:List Int}{j:Nat}(h:j<r.length):(r.map V.int)[j]?=some (.int (r.getD j 0)):=by
 rw[du,zm h];rfl
theorem wL{c A B:Prop} [Decidable c] (h1:¬c→A) (h2:c→B):if(!decide c)=true then A else B:=by
 by_cases h:c
 ·exact Vt h (h2 h)
 ·rw[aa h];exact gQ (h1 h)
section
variable{K:Frag}
theorem oo{RS:List V}{rs:LL}{i:Nat}{x:V}(hA:br K H RS (rs.map cw))(hx:RS[i]?=some x):∃r a,rs[i]?=some r∧x=.ref a∧bh K H a (r.map V.int):=by
 obtain⟨d,hd,i6⟩:=hA.get hx;rw[du]at hd;cases e:rs[i]? with
 |none=>rw[e]at hd;cases hd
 |some r=>
  rw[e]at hd;cases hd;obtain⟨a,rfl,ha⟩:=Nv i6;exact⟨r,a,rfl,rfl,ha⟩
theorem gN{RS:List V}{rs:LL}(hA:br K H RS (rs.map cw)):RS.length=rs.length:=by rw[hA.length,bj]
end
theorem Ic:∀n:Nat,(List.replicate n [V.int 0]).flatten=List.replicate n (V.int 0)
 |0=>rfl
 |n+1=>by rw[pE,vN,Ic n];rfl
open Classical in
theorem OK{d e:Dat}{A B:Prop}(h:d≠e)(b:A):if(if true=true then !decide (d=e)else decide (d=e))=true then A else B:=by
 simp only[if_true,aa h,Bool.not_false];exact b
theorem CS{s1 s2:TS}{D:Ends}{σ:St}(J:St→Hp→Prop)(h:∀N:St→Hp→Prop,(∀σ H,J σ H→N σ H)→s1 { D with nx:=N } σ H)(hr:∀σ H,J σ H→s2 D σ H):cy s1 s2 D σ H:=h _ hr
theorem jS{H':Hp}{l:Addr}(e:aL H H')(h:H' l=none):H l=none:=by
 cases q:H l with
 |none=>rfl
 |some o=>rw[e _ _ q]at h;cases h
theorem CT(rs:LL):kqdOk 8 (.list (rs.map cw))=true:=by
 show(rs.map cw).all (kqdOk 7)=true;exact G3 6 rs
theorem CU(rs:LL):kqdOk 8 (.tuple (rs.map cw))=true:=by
 show(rs.map cw).all (kqdOk 7)=true;exact G3 6 rs
theorem Ie{p:Int}{n:Nat}{L:LL}:∀k,(iR p n L k).1.length≤k∧(iR p n L k).2.length=L.length
 |0=>⟨cf _,rfl⟩
 |k+1=>by
  obtain⟨h1,h2⟩:=Ie (p:=p) (n:=n) (L:=L) k;rw[iR];unfold uB;split
  ·exact⟨by lia,h2⟩
  ·constructor
   ·show(_++[_]).length≤_;rw[cx,bj,List.length_singleton];lia
   ·show(List.map _ _).length=_;rw[bj];exact h2
theorem sS{p:Int}{n:Nat}{L:LL}(h:ck p n L):(dI p L).length≤n:=by
 by_cases cB:L=[]
 ·subst cB;exact kj _
 ·have:=(Ie (p:=p) (n:=rd L) (L:=L) (rd L)).1
  rw[Ca h cB]at this;unfold dI;rw[Ca h cB];exact this
theorem br.at{K:Frag}{H:Hp}{XS:List V}{rs:LL}{i:Nat}(hA:br K H XS (rs.map cw))(h:i<rs.length):∃ra,XS[i]?=some (.ref ra)∧bh K H ra ((rs[i]).map V.int):=by
 have hl:i<XS.length:=by rw[gN hA];exact h
 obtain⟨r,ra,h1,h2,h3⟩:=oo hA (cn hl);rw[cn h]at h1;cases h1;exact⟨ra,by rw[cn hl,h2],h3⟩
end S21
namespace L2
open PySem PySem.Spec PyProof.Rows
section
variable{P:Program}{w:World}{K:Frag}{mg:Str→Option Value}{base:Heap}
theorem YJ{x qual:Str}{st:Stmt}{f:Addr}{fd:FuncData}{N ps:List Str}{sp:Sp}(F:cG K x qual st f fd)(S:dj N ps (bo st))(len:∀vs H Q E,sp vs H Q E→vs.length=ps.length)
  (oZ:∀(bI:Value)(A:Around)(outer:List Env)(s:Shared)(H:Hp)(vs:List V)(Q:VK)(E:XK),sp vs H Q E→
   ∃t,jl (km bx P w K mg base N qual (bo st) f bI A outer s H E).ma (j8 st) t∧t { nx:=λ_ H'=>Q .cg H',rt:=Q } (start N vs) H):bz P w K mg base bx 0 f fd ps sp:=by
 obtain⟨oc,od,kV,doc,pm,an,bI,ct,nv,rfl,lk,gI⟩:=F.ex;refine⟨len,λA outer s H args us vs Q E hr e0 hb r i4=>?_⟩;have hl:=len _ _ _ _ i4;have KX:K.In s.heap:=e0.mod.qI.keeps λb o e=>(e0.bs b o e).1;have uj:s.heap.NoLimit:=e0.mod.nolimit.keeps λb o e=>(e0.bs b o e).1;have yu:∀y∈ps.zip us,(bo st).names.lookup y.1=some .local∨((bo st).names.lookup y.1=some .cell∧((cellsFrom (s.heap.objs.size+1) (bo st).names []).lookup y.1).isSome=true):=λ⟨n,v⟩ hy=>by
  rcases S.par n (xR hy).1 with q|q
  ·exact .inl q
  ·exact .inr ⟨q,E7 _ _ _ (.inl q)⟩
 refine codeAny_call_function hr.depth (KX _ _ lk) rfl S.co S.gen rfl (PySem.W.codeRec_of KX gI) (hb _ _ _ _ ?_);refine ax S.kind yu λenv he s1 x=>?_;subst he;refine⟨uj.keeps x.toInCall.keep,codeAny_func ?_⟩;obtain⟨t,ht,hq⟩:=oZ bI A outer s H vs Q E i4;have I:Inv (km bx P w K mg base N qual (bo st) f bI A outer s H E) [] (start N vs) H s1:=FK S hr.hd e0 hl r x;refine ag (ht.ma [] s1 (start N vs) H _ I hq) (λfl s' hs=>?_) λe s' hs=>hs;have fin:∀{σ':St}{H':Hp}{v:V}{u:Value},Inv (km bx P w K mg base N qual (bo st) f bI A outer s H E) [] σ' H' s'→RelV v u→Q v H'→CE outer P w H s Q u s':=
  λ{σ' H' v u} J rv q=>⟨v,H',J.os,J.bare,J.base,J.bH,rv,q⟩
 cases fl with
 |ret u=>
  obtain⟨v,σ',H',J,rv,q⟩:=hs;exact fin J rv q
 |next=>
  obtain⟨σ',H',J,q⟩:=hs;exact fin (v:=V.cg) (u:=Value.none) J rfl q
 |brk=>
  obtain⟨_,_,_,q⟩:=hs;exact False.elim q
 |cont=>
  obtain⟨_,_,_,q⟩:=hs;exact False.elim q
end
end L2
namespace Bw
variable{D L T:LL}{h:List Int}{n:Nat}{p:Int}
noncomputable def nC(p:Int)(k:Nat)(h row:List Int):List Int:=fZ p row (-(row.getD k 0)) h
theorem YK{k:Nat}{row:List Int}(p0:0<p)(hh:Rw p n h)(hr:Rw p n row):nC p k h row=eA p h k row:=by
 unfold nC eA;split
 ·rfl
 ·rename_i h0
  have h0:row.getD k 0=0:=by simpa using h0
  refine(NH _ p0 hr.1 hh.1).ext p0 hr λj=>?_;rw[yU _ hr.1 hh.1,h0];split
  ·have:=oh p (row.getD j 0 + -0*h.getD j 0)
   rwa[show row.getD j 0 + -0*h.getD j 0=row.getD j 0 by simp]at this ⊢
  ·rw[hr.out (by lia)];exact⟨0,by simp⟩
theorem YL{a b x:Int}(p0:0<p)(ha:a*x%p=1)(hb:b*x%p=1)(a0:0≤a)(a1:a<p)(b0:0≤b)(b1:b<p):a=b:=by
 refine NG ?_ a0 a1 b0 b1;obtain⟨u,hu⟩:=oh p (a*x);obtain⟨v,hv⟩:=oh p (b*x);rw[ha]at hu;rw[hb]at hv;exact⟨a*v-b*u,by grind⟩
theorem YM{c:Int}{k:Nat}(hp:p∈cX)(hh:Rw p n h)(h0:h.getD k 0≠0)(c0:1≤c)(c1:c<p)(hc:c*h.getD k 0%p=1):(h.map λx=>x*c%p)=dR p n h k:=by
 have p0:0<p:=by have:=fI p hp;lia
 have b:=hh.at p0 k;obtain⟨t1,t2,t3⟩:=yT hp (show 1≤h.getD k 0 by lia) b.2;have e:=YL p0 hc t3 (by lia) c1 (by lia) t2;have r1:Rw p n (h.map λx=>x*c%p):=⟨by simp[hh.1],λx hx=>by
  obtain⟨y,_,rfl⟩:=dq.mp hx;exact⟨lY _ (by lia),lZ _ p0⟩⟩
 refine r1.ext p0 (yX p0 hh) λj=>?_;rw[yV hh,← e];by_cases hj:j<n
 ·rw[ae hj,Xu hh.1 hj];exact⟨0,by lia⟩
 ·rw[af hj,r1.out (by lia)];exact⟨0,by simp⟩
theorem drop_zero{k:Nat}{A B:LL}{z:List Int}(I:jQ p n L k (D,A++z::B))(hz:∀j,z.getD j 0=0):jQ p n L k (D,A++B):=by
 have sub:∀r,r∈A++B→r∈A++z::B:=λr hr=>by
  rcases dm.mp hr with h|h<;>simp[h]
 refine⟨I.d,λr hr=>I.r r (sub r hr),λr hr=>I.z r (sub r hr),I.jn,λr hr=>I.sub r ?_,λr hr=>(I.sup r hr).trans λf hf=>?_⟩
 ·rcases(dm.mp hr)with(h|h)
  ·exact nc _ h
  ·exact iX _ (sub r h)
 ·obtain⟨q,hq,rfl⟩:=hf;rcases(dm.mp hq)with(h|h)
  ·exact .mem ⟨q,nc _ h,rfl⟩
  ·rcases(dm.mp h)with(h|h)
   ·exact .mem ⟨q,iX _ (nc _ h),rfl⟩
   ·rcases(cS.mp h)with(rfl|h)
    ·exact Sp.zero.of_eq λj=>(hz j).symm
    ·exact .mem ⟨q,iX _ (iX _ h),rfl⟩
theorem jQ.skip{k:Nat}(I:jQ p n L k (D,T))(h:∀r∈T,r.getD k 0=0):jQ p n L (k+1) (D,T):=by
 obtain⟨ls,E⟩:=I.jn;exact⟨I.d,I.r,λr hr j hj=>by
  by_cases e:j=k
  ·subst e;exact h r hr
  ·exact I.z r hr j (by lia),⟨ls,E.len,E.up,λl hl=>Nat.lt_succ_of_lt (E.lt l hl),E.one,E.alone⟩,I.sub,I.sup⟩
theorem jQ.head{k i:Nat}(hp:p∈cX)(hk:k<n)(I:jQ p n L k (D,T))(hi:T[i]?=some h)(h0:h.getD k 0≠0)(hf:∀j q,j<i→T[j]?=some q→q.getD k 0=0) :
  jQ p n L (k+1) (D.map (eA p (dR p n h k) k)++[dR p n h k],(T.eraseIdx i).map (eA p (dR p n h k) k)):=by
 have p0:0<p:=by have:=fI p hp;lia
 have il:=(dO.mp hi).1;have hT:T=T.take i++h::T.drop (i+1):=by
  have hd:T.drop i=h::T.drop (i+1):=by rw[List.drop_eq_getElem_cons il,(dO.mp hi).2]
  rw[← hd,List.take_append_drop]
 have CV:Rw p n h:=I.r h (dY hi);have uH:T.filter (λr=>r.getD k 0≠0)=h::(T.drop (i+1)).filter λr=>r.getD k 0≠0:=by
  rw(occs:=.pos [1]) [hT];rw[pI,vO (by simpa using h0),List.filter_eq_nil_iff.mpr]
  ·rfl
  ·intro q hq;obtain⟨j,hj,rfl⟩:=l5.mp hq;have wF:j<i:=by rw[dv]at hj;lia
   have:=hf j _ wF (by rw[cn (by lia)])
   rw[List.getElem_take];simpa using this
 have S:=NM hp (show k+1≤n by lia) I;unfold uB at S;dsimp only at S;rw[uH]at S;dsimp only at S;have jo:=yX (place:=k) p0 CV;have b:=CV.at p0 k;obtain⟨t1,t2,t3⟩:=yT hp (show 1≤h.getD k 0 by lia) b.2;have zc:∀j,(eA p (dR p n h k) k h).getD j 0=0:=λj=>by
  unfold eA;rw[ae h0,yU _ CV.1 jo.1];split
  ·rename_i hj
   apply Int.emod_eq_zero_of_dvd;rw[yV CV,ae hj];obtain⟨u,hu⟩:=oh p (h.getD j 0*eE p (h.getD k 0));obtain⟨v,hv⟩:=oh p (eE p (h.getD k 0)*h.getD k 0);rw[t3]at hv;exact⟨h.getD j 0*v-h.getD k 0*u,by grind⟩
  ·rfl
 have e1:(T.eraseIdx i).map (eA p (dR p n h k) k)=(T.take i).map (eA p (dR p n h k) k)++(T.drop (i+1)).map (eA p (dR p n h k) k):=by
  rw[List.eraseIdx_eq_take_drop_succ,cY]
 have e2:T.map (eA p (dR p n h k) k)=(T.take i).map (eA p (dR p n h k) k)++eA p (dR p n h k) k h::(T.drop (i+1)).map (eA p (dR p n h k) k):=by
  rw(occs:=.pos [1]) [hT];rw[cY,nP]
 rw[e2]at S;rw[e1];exact drop_zero S zc
theorem jQ.start(hL:ck p n L):jQ p n L 0 ([],L):=
 ⟨λr hr=>(nomatch hr),hL,λr _ j hj=>absurd hj (by lia),⟨[],rfl,.nil,by simp,by simp,by simp⟩,λr hr=>.mem ⟨r,hr,rfl⟩,λr hr=>.mem ⟨r,hr,rfl⟩⟩
theorem jQ.done(hp:p∈cX)(hL:ck p n L)(I:jQ p n L n (D,T)):D=dI p L:=by
 have sup:∀r∈L,Sp p (RS D) (fn r):=λr hr=>(I.sup r hr).trans λf hf=>by
  obtain⟨r0,h0,rfl⟩:=hf;rcases(dm.mp h0)with(h0|h0)
  ·exact .mem ⟨r0,h0,rfl⟩
  ·exact(Sp.zero).of_eq λj=>(NR (I.r r0 h0) (I.z r0 h0) j).symm
 have R:=jr hp hL;obtain⟨ls,E⟩:=I.jn;obtain⟨ms,EM⟩:=R.jn;exact E.unique hp EM I.d R.rws (λr hr=>qd R.sup (I.sub r (nc _ hr))) (λr hr=>qd sup (R.sub r hr))
theorem jQ.len{p:Int}{n k:Nat}{L D T:LL}(I:jQ p n L k (D,T))(hk:k≤n):D.length≤k:=by
 obtain⟨ls,E⟩:=I.jn
 have:=XA (n:=k) E.up E.lt
 have e:ls.length=D.length:=E.len;lia
section
variable{p:Int}{n:Nat}
end
end Bw
namespace S21
open PySem L2 Bw
variable{f fA:Addr}{fd kE:FuncData}
theorem OL:(["number","more","factor","p"]:List Str).Nodup:=by decide +kernel
def OM:Sp:=λvs H Q _=>∃p n:Int,vs=[.int p,.int n]∧2≤p∧p≤97∧Q (.int (eE p n)) H
def CW(K:Frag):Sp:=λvs H Q _=>∃(p f:Int)(a b:Addr)(r o:List Int),vs=[.int p,.ref a,.int f,.ref b]∧2≤p∧p≤97∧-1000≤f∧f≤1000∧bh K H a (r.map V.int)∧bh K H b (o.map V.int)∧r.length=o.length∧r.length≤1000∧
 ic K H ((fZ p r f o).map V.int) Q
def ON(K:Frag):Sp:=λvs H Q _=>∃(p n:Int)(a b:Addr)(b1 b2:Bool)(RS:List V)(rs:LL)(fs:List Int),vs=[.int p,.ref a,.ref b,.int n]∧2≤p∧p≤97∧0≤n∧n≤1000∧
 Sq b1 K H a RS∧br K H RS (rs.map cw)∧Sq b2 K H b (fs.map V.int)∧rs.length=fs.length∧rs.length≤1000∧(∀r∈rs,r.length=n.toNat)∧(∀f∈fs,0≤f∧f<p)∧
 ic K H ((kr p (rs.zip fs) (List.replicate n.toNat 0)).map V.int) Q
theorem CY:dj ["p","number","power","step"] ["p","number"] (bo zg):=dQ rfl rfl rfl (by decide +kernel) rfl
theorem YN(F:cG K "turned" "turned" zg f fd)(T:Txt mg):bz P w K mg base bx 1 f fd ["p","number"] OM:=by
 refine F.ok CY (λvs H Q E h=>?_) (λbI A outer s H vs Q E hr h=>?_)
 ·obtain⟨p,n,rfl,_⟩:=h;rfl
 ·obtain⟨p,n,rfl,p2,gq,k⟩:=h;refine⟨_,bg (cm (i:=2) CY.nd rfl (.inl rfl) aO) (bg (mf nS rfl (j6 rfl T.range (aJ (aY nk (pv 0) aO) aQ)) (cF (i:=3) CY.nd rfl (.inl rfl)) (bQ (cm (i:=2) CY.nd rfl (.inl rfl) (aY gj (aY nq (pv 2) (pv 1)) (pv 0))))) (bQ (cI (pv 2)))),?_⟩;refine⟨_,rfl,_,_,rfl,rfl,p-2,rfl,by lia,by lia,sk (n:=(p-2).toNat) (λi σ H'=>H'=H∧∃st,σ=[some (.int p),some (.int n),some (.int (uz p n i)),st]) ⟨rfl,none,rfl⟩ ?_ ?_⟩
  ·rintro i σ H' hi ⟨rfl,st,rfl⟩;have hb:=Xj (n:=n) p2 i;exact⟨_,rfl,_,rfl,_,_,rfl,rfl,.inl ⟨by lia,by lia⟩,_,rfl,_,_,rfl,rfl,by lia,rfl,_,rfl⟩
  ·rintro σ H' ⟨rfl,st,rfl⟩;exact⟨_,rfl,k⟩
theorem YO:dj ["p","row","factor","other"] ["p","row","factor","other"] (bo rp):=dQ rfl rfl rfl (by decide +kernel) rfl
theorem OO(F:cG K "added" "added" rp f fd)(T:Txt mg):bz P w K mg base bx 0 f fd ["p","row","factor","other"] (CW K):=by
 refine YJ F YO (λvs H Q E h=>?_) (λbI A outer s H vs Q E h=>?_)
 ·obtain⟨p,f,a,b,r,o,rfl,_⟩:=h;rfl
 ·obtain⟨p,fc,a,b,r,o,rfl,p2,gq,f0,f1,ha,hb,hl,hz,k⟩:=h;refine⟨_,bQ (cI (mi (o9 K rfl) rfl T.tuple pb (aJ (fY (N:=["number","more","factor","p"]) (own:=2) (caps:=[2,0]) rfl (Nx K rfl false false rfl T.zip (aJ (pv 1) (aJ (pv 3) aQ))) (show dk ["p","row","factor","other"] (bo rp) ["number","more","factor","p"] 2 [2,0] _ from .mk' (by decide +kernel)) (λ_ _ _ _ _=>uy (n:=2) K rfl rfl (iM (cF (i:=0) OL rfl (.inl rfl)) (iM (cF (i:=1) OL rfl (.inl rfl)) qN))) (λ_ _ _ _ _=>eU) (λ_ _ _ _ _=>aY gj (aY dt (pv 0) (aY nq (pv 2) (pv 1))) (pv 3))) aQ))),?_⟩
  have ext:(fZ p r fc o).length=r.length:=by simp[fZ,hl]
  refine⟨_,rfl,_,rfl,a,b,rfl,⟨_,ha⟩,⟨_,hb⟩,W0 (b1:=false) (b2:=false) (cp:=[some (.int fc),some (.int p)]) (λi H' zs=>zs=((fZ p r fc o).take i).map V.int) ha hb (by simp[hl]) (by rw[bj];exact qD (BO hz)) rfl (λi H' zs e=>by subst e;rw[bj,dv];lia) (λi H1 H2 zs _ e=>e) ?_ ?_⟩
  ·rintro i x y H' zs hx hy sm rfl;rw[du]at hx hy;cases e1:r[i]? with
   |none=>rw[e1]at hx;cases hx
   |some u=>
    cases e2:o[i]? with
    |none=>rw[e2]at hy;cases hy
    |some v=>
     rw[e1]at hx;rw[e2]at hy;cases hx;cases hy;refine iC ?_;refine⟨_,rfl,_,rfl,_,rfl,_,_,rfl,rfl,.inl ⟨by lia,by lia⟩,_,_,rfl,rfl,_,rfl,_,_,rfl,rfl,by lia,⟨[_,_],rfl,rfl⟩,sm,?_⟩;have e3:(fZ p r fc o)[i]?=some ((u+fc*v)%p):=by
      unfold fZ;rw[List.getElem?_zipWith,e1,e2]
     rw[gZ,e3];simp
  ·rintro H' zs sm rfl q hq;rw[bj,lB (by lia)];refine⟨q,_,rfl,.inl ⟨.of aX,λl hl=>?_⟩⟩;exact k _ _ ((sm.trans (.upd hq)).trans (.upd hl)) (.of aX)
theorem YQ(F:cG K "added" "added" rp f fd)(T:Txt mg):bz P w K mg base bx 1 f fd ["p","row","factor","other"] (CW K):=(OO F T).mono (by decide)
theorem OP(p:Int)(r:List Int)(f:Int):∀(L:List (List Int×Int))(t:List Int),kr p (L++[(r,f)]) t=fZ p (kr p L t) f r
 | [],t=>rfl
 |(r',f')::L,t=>by
  rw[List.cons_append,kr,kr];exact OP p r f L _
theorem OQ{p:Int}{n:Nat}:∀(L:List (List Int×Int))(t:List Int),(∀q∈L,q.1.length=n)→t.length=n→(kr p L t).length=n
 | [],t,_,h=>h
 |(r,f)::L,t,h,ht=>by
  rw[kr];refine OQ L _ (λq hq=>h q (dU _ hq)) ?_
  have:=h (r,f) cP
  simp only at this;simp[fZ,ht,this]
theorem zo:dj ["p","rows","factors","length","total","row","factor"] ["p","rows","factors","length"] (bo zh):=dQ rfl rfl rfl (by decide +kernel) rfl
theorem YR(F:cG K "summed" "summed" zh f fd)(T:Txt mg)(FA:cG K "added" "added" rp fA kE)(bA:Binds K kE ["p","row","factor","other"] [])(mA:Mg mg "added" fA) :
  bz P w K mg base bx 1 f fd ["p","rows","factors","length"] (ON K):=by
 have GA:bz P w K mg base bx 0 fA kE ["p","row","factor","other"] (CW K):=OO FA T;refine F.ok zo (λvs H Q E h=>?_) (λbI A outer s H vs Q E hr h=>?_)
 ·obtain⟨p,n,a,b,b1,b2,RS,rs,fs,rfl,_⟩:=h;rfl
 ·obtain⟨p,n,a,b,b1,b2,RS,rs,fs,rfl,p2,gq,n0,n1,ny,hA,iB,hl,hz,my,uH,k⟩:=h;refine⟨_,bg (cm (i:=4) zo.nd rfl (.inl rfl) (aY (og K rfl) (cE (aJ aO aQ)) (pv 3))) (bg (mf nS rfl (Nx K rfl b1 b2 rfl T.zip (aJ (pv 1) (aJ (pv 2) aQ))) (uy (n:=2) K rfl rfl (iM (cF (i:=5) zo.nd rfl (.inl rfl)) (iM (cF (i:=6) zo.nd rfl (.inl rfl)) qN))) (bQ (cm (i:=4) zo.nd rfl (.inl rfl) (cT GA hr rfl mA FA.kp bA .nil cU (aJ (pv 0) (aJ (pv 4) (aJ (pv 6) (aJ (pv 5) aQ)))))))) (bQ (cI (pv 4)))),?_⟩;refine⟨by decide,λq hq=>⟨_,rfl,q,n,_,rfl,rfl,.of aX,by simp,by lia,by lia,?_,λt H1 pe ht=>?_⟩⟩
  ·have:(1000:Nat)≤sizeLine:=by decide
   show 1*n.toNat≤sizeLine;lia
  have Ig:aL H H1:=(aL.upd hq).trans pe;have CZ:RS.length=(fs.map V.int).length:=by rw[hA.length,bj,bj];exact hl
  have e0:(List.replicate n.toNat [V.int 0]).flatten=(List.replicate n.toNat (0:Int)).map V.int:=by
   rw[List.map_replicate];induction n.toNat with
   |zero=>rfl
   |succ m ih=>rw[pE,vN,ih,pE];rfl
  refine⟨_,rfl,_,rfl,a,b,rfl,⟨_,Ig.sq ny⟩,⟨_,Ig.sq iB⟩,W2 (b1:=b1) (b2:=b2) (λi σ H'=>aL H H'∧∃t zp mh,σ=[some (.int p),some (.ref a),some (.ref b),some (.int n),some (.ref t),zp,mh]∧bh K H' t ((kr p ((rs.zip fs).take i) (List.replicate n.toNat 0)).map V.int)) CZ ⟨Ig,t,none,none,rfl,by rw[e0]at ht;exact ht⟩ (λi σ H' ⟨sm,_⟩=>⟨sm.sq ny,sm.sq iB⟩) (λi σ H1 H2 wM ⟨sm,t,zp,mh,e,ht⟩=>⟨sm.trans wM,t,zp,mh,e,wM.bq ht⟩) ?_ ?_⟩
  ·rintro i x y σ H' hx hy ⟨sm,t,zp,mh,rfl,ht⟩;obtain⟨d,hd,i6⟩:=hA.get hx;rw[du]at hd hy;cases e1:rs[i]? with
   |none=>rw[e1]at hd;cases hd
   |some r=>
    cases e2:fs[i]? with
    |none=>rw[e2]at hy;cases hy
    |some fc=>
     rw[e1]at hd;rw[e2]at hy;cases hd;cases hy;obtain⟨ra,rfl,dJ⟩:=Nv i6;have jv:=my r (dY e1);have hf1:=uH fc (dY e2);have C0:(kr p ((rs.zip fs).take i) (List.replicate n.toNat 0)).length=n.toNat:=OQ _ _ (λq hq=>my q.1 (xR (oO hq)).1) (by simp);refine⟨_,rfl,_,rfl,_,rfl,_,rfl,p,fc,t,ra,_,r,rfl,p2,gq,by lia,by lia,ht,sm.bq dJ,by rw[C0,jv],by rw[C0];lia,λt' H2 ju lL=>?_⟩;refine⟨sm.trans ju,t',_,_,rfl,?_⟩;have e3:(rs.zip fs)[i]?=some (r,fc):=by rw[List.getElem?_zip_eq_some];exact⟨e1,e2⟩
     rw[gZ,e3];show bh K H2 t' ((kr p ((rs.zip fs).take i++[(r,fc)]) _).map V.int);rw[OP];exact lL
  ·rintro σ H' ⟨sm,t,zp,mh,rfl,ht⟩;have e4:(rs.zip fs).length≤RS.length:=by rw[List.length_zip,hA.length,bj];lia
   rw[lB e4]at ht;exact⟨_,rfl,k _ _ sm ht⟩
theorem YT:(["row","place"]:List Str).Nodup:=by decide +kernel
theorem OR:(["row","lead","p","place"]:List Str).Nodup:=by decide +kernel
def Ih(K:Frag):Sp:=λvs H Q _=>∃(p:Int)(a b:Addr)(r o:List Int)(i:Int)(j:Nat),vs=[.int p,.ref a,.ref b,.int i]∧i=j∧2≤p∧p≤97∧bh K H a (r.map V.int)∧bh K H b (o.map V.int)∧r.length=o.length∧j<r.length∧r.length≤1000∧
 (∀x∈r,0≤x∧x<p)∧ic K H ((eA p o j r).map V.int) Q
def rq(K:Frag):Sp:=λvs H Q _=>∃(p:Int)(a:Addr)(b:Bool)(RS:List V)(rs:LL)(n:Nat),vs=[.int p,.ref a]∧p∈cX∧Sq b K H a RS∧br K H RS (rs.map cw)∧rs.length≤1000∧n≤1000∧ck p n rs∧
 ∀t H' DS,aL H H'→bh K H' t DS→br K H' DS ((dI p rs).map cw)→Q (.ref t) H'
theorem YU:dj ["p","row","lead","place"] ["p","row","lead","place"] (bo CH):=dQ rfl rfl rfl (by decide +kernel) rfl
theorem YV(F:cG K "cleared" "cleared" CH f fd)(T:Txt mg)(FA:cG K "added" "added" rp fA kE)(bA:Binds K kE ["p","row","factor","other"] [])(mA:Mg mg "added" fA) :
  bz P w K mg base bx 2 f fd ["p","row","lead","place"] (Ih K):=by
 have GA:bz P w K mg base bx 1 fA kE ["p","row","factor","other"] (CW K):=YQ FA T;refine F.ok YU (λvs H Q E h=>?_) (λbI A outer s H vs Q E hr h=>?_)
 ·obtain⟨p,a,b,r,o,i,j,rfl,_⟩:=h;rfl
 ·obtain⟨p,a,b,r,o,i,j,rfl,rfl,p2,gq,ha,hb,hl,hj,hz,Ii,k⟩:=h;refine⟨_,bQ (cI (Fm (dg yo (bc (cC K rfl) (pv 1) (pv 3) (λ_ _=>rfl)) aO (de _)) (cT GA hr rfl mA FA.kp bA .nil cU (aJ (pv 0) (aJ (pv 1) (aJ (pR pS (bc (cC K rfl) (pv 1) (pv 3) (λ_ _=>rfl))) (aJ (pv 2) aQ))))) (pv 1))),?_⟩;have hx:=Ii _ (dY (zm hj));refine⟨_,rfl,_,rfl,a,_,(j:Int),_,rfl,rfl,ha,bE (nB hj),rfl,_,rfl,wL (λcB=>?_) (λheq=>?_)⟩
  ·have Ij:r.getD j 0≠0:=λz=>cB (ai V.int z);refine⟨_,rfl,_,rfl,_,rfl,_,rfl,a,_,(j:Int),_,rfl,rfl,ha,bE (nB hj),_,rfl,_,rfl,p,-(r.getD j 0),a,b,r,o,rfl,p2,gq,by lia,by lia,ha,hb,hl,hz,?_⟩;unfold eA at k;rw[ae Ij]at k;exact k
  ·have YW:r.getD j 0=0:=V.int.inj heq;unfold eA at k;rw[af (λz=>z YW)]at k;exact⟨_,rfl,k.old ha⟩
noncomputable abbrev nD:List Str:=["p","rows","done","rest","length","place","heads","lead"]
theorem rA:dj ["p","rows","done","rest","length","place","heads","lead"] ["p","rows"] (bo wJ):=dQ rfl rfl rfl (by decide +kernel) rfl
theorem OS{H:Hp}{l la:Addr}{XS:List V}{xs:LL}{p:Int}{n place:Nat}{lead:List Int}{Q:VK}{te:TE}(p2:2≤p)(gq:p≤97)(hl:dw K H l XS)(hA:br K H XS (xs.map cw))(hx:ck p n xs)(hz:xs.length≤1000)(hn:n≤1000)(hp:place<n)(oq:lead.length=n)(ik:bh K H la (lead.map V.int))
  (Ik:∀(x:Addr)(H1:Hp)(R:VK),Ih K [.int p,.ref x,.ref la,.int (0+(place:Int))] H1 R (λ_ _ _=>False)→te [some (.ref x),some (.ref la),some (.int p),some (.int (0+(place:Int)))] H1 R)
  (done:∀H' zs,aL H H'→br K H' zs ((xs.map (eA p lead place)).map cw)→∀q,H' q=none→Q (.ref q) (upd H' q (.lst zs))) :
  ∃W:Nat→Nat→St→Hp→List V→Prop,(∃m,W 0 m (List.replicate 1 none++[some (.ref la),some (.int p),some (.int (0+(place:Int)))]) H [])∧mq (qP K l) (cq 0) iP te Q W:=by
 refine pZ (cp:=[some (.ref la),some (.int p),some (.int (0+(place:Int)))]) (λi H' zs=>br K H' zs (((xs.take i).map (eA p lead place)).map cw)) hl (by rw[gN hA];exact qD (BO hz)) .nil
  (λi H' zs h=>by rw[gN h,bj,dv];lia) ?_ ?_
 ·rintro i x H' zs i6 sm h;obtain⟨r,a,hr,rfl,ha⟩:=oo hA i6;have hR:=hx r (dY hr);refine iC (Ik a H' _ ⟨p,a,la,r,lead,0+(place:Int),place,rfl,by lia,p2,gq,sm.bq ha,sm.bq ik,by rw[hR.1,oq],by rw[hR.1];exact hp,by rw[hR.1];exact hn,hR.2,λt H2 s2 ht=>?_⟩);refine⟨⟨[_],rfl,rfl⟩,sm.trans s2,?_⟩;rw[gZ,hr];show br K H2 _ (((xs.take i++[r]).map (eA p lead place)).map cw);rw[cY,cY];exact(h.mono s2).append (.cons (ke ht) .nil)
 ·rintro H' zs sm h q hq;rw[gN hA,r9]at h;exact done H' zs sm h q hq
def OT(K:Frag):Sp:=λvs H Q _=>∃(p:Int)(a:Addr)(r:List Int)(i:Int)(j:Nat),vs=[.int p,.ref a,.int i]∧i=j∧p∈cX∧bh K H a (r.map V.int)∧j<r.length∧r.length≤1000∧(∀x∈r,0≤x∧x<p)∧r.getD j 0≠0∧
 ic K H ((dR p r.length r j).map V.int) Q
theorem YX:dj ["p","row","place"] ["p","row","place"] (bo CG):=dQ rfl rfl rfl (by decide +kernel) rfl
theorem YY{fT fS:Addr}{lM rB:FuncData}(F:cG K "led" "led" CG f fd)(T:Txt mg)(FA:cG K "added" "added" rp fA kE)(bA:Binds K kE ["p","row","factor","other"] [])(mA:Mg mg "added" fA)
  (FT:cG K "turned" "turned" zg fT lM) (bT:Binds K lM ["p","number"] []) (mT:Mg mg "turned" fT) (FS:cG K "summed" "summed" zh fS rB) (bS:Binds K rB ["p","rows","factors","length"] []) (mS:Mg mg "summed" fS) :
  bz P w K mg base bx 2 f fd ["p","row","place"] (OT K):=by
 have GT:bz P w K mg base bx 1 fT lM ["p","number"] OM:=YN FT T;have GS:bz P w K mg base bx 1 fS rB ["p","rows","factors","length"] (ON K):=YR FS T FA bA mA;refine F.ok YX (λvs H Q E h=>?_) (λbI A outer s H vs Q E hr h=>?_)
 ·obtain⟨p,a,r,i,j,rfl,_⟩:=h;rfl
 ·obtain⟨p,a,r,i,j,rfl,rfl,pp,ha,hj,hz,Ii,cB,k⟩:=h;obtain⟨p2,gq⟩:=fI p pp;refine⟨_,bQ (cI (cT GS hr rfl mS FS.kp bS .nil cU (aJ (pv 0) (aJ (cZ (aJ (pv 1) aQ)) (aJ (cZ (aJ (cT GT hr rfl mT FT.kp bT .nil cU (aJ (pv 0) (aJ (bc (cC K rfl) (pv 1) (pv 2) (λ_ _=>rfl)) aQ))) aQ)) (aJ (iN (ko K rfl) rfl T.len kq (aJ (pv 1) aQ)) aQ)))))),?_⟩;have hx:=Ii _ (dY (zm hj));have yr:=yT (n:=r.getD j 0) pp (by lia) hx.2;refine⟨_,rfl,_,rfl,(by show 1≤sizeLine;decide),λl1 h1=>?_⟩;refine⟨_,rfl,_,rfl,_,rfl,a,_,(j:Int),_,rfl,rfl,(aL.upd h1).bq ha,bE (nB hj),p,r.getD j 0,rfl,p2,gq,(by show 1≤sizeLine;decide),λl2 h2=>?_⟩;have ot:aL H (upd (upd H l1 (.lst [.ref a])) l2 (.lst [.int (eE p (r.getD j 0))])):=(aL.upd h1).trans (.upd h2);refine⟨_,rfl,a,_,rfl,.inr (ot.bq ha),?_⟩;rw[bj];refine⟨p,(r.length:Int),l1,l2,true,true,[.ref a],[r],[eE p (r.getD j 0)],rfl,p2,gq,by lia,by lia,.of (by rw[bZ (eQ aX h2)];exact aX),.cons (ke (ot.bq ha)) .nil,.of aX,rfl,(by show 1≤1000;decide),λq hq=>by rw[cQ.mp hq];rfl,λf hf=>by rw[cQ.mp hf];lia,λt H6 zq ht=>?_⟩;exact k t H6 (ot.trans zq) ht
theorem pf{fT fS fC fL:Addr}{lM rB rC ow:FuncData}(F:cG K "reduced" "reduced" wJ f fd)(T:Txt mg)(FA:cG K "added" "added" rp fA kE)(bA:Binds K kE ["p","row","factor","other"] [])(mA:Mg mg "added" fA)
  (FT:cG K "turned" "turned" zg fT lM) (bT:Binds K lM ["p","number"] []) (mT:Mg mg "turned" fT) (FS:cG K "summed" "summed" zh fS rB) (bS:Binds K rB ["p","rows","factors","length"] []) (mS:Mg mg "summed" fS)
  (FC:cG K "cleared" "cleared" CH fC rC) (bC:Binds K rC ["p","row","lead","place"] []) (mC:Mg mg "cleared" fC)
  (FL:cG K "led" "led" CG fL ow) (bL:Binds K ow ["p","row","place"] []) (mL:Mg mg "led" fL) :
  bz P w K mg base bx 3 f fd ["p","rows"] (rq K):=by
 have GL:bz P w K mg base bx 2 fL ow ["p","row","place"] (OT K):=YY FL T FA bA mA FT bT mT FS bS mS;have GC:bz P w K mg base bx 2 fC rC ["p","row","lead","place"] (Ih K):=YV FC T FA bA mA;refine F.ok rA (λvs H Q E h=>?_) (λbI A outer s H vs Q E hr h=>?_)
 ·obtain⟨p,a,b,RS,rs,n,rfl,_⟩:=h;rfl
 ·obtain⟨p,a,b,RS,rs,n,rfl,pp,hq,hA,hz,hn,hR,k⟩:=h;obtain⟨p2,gq⟩:=fI p pp;refine⟨_,bg (cm (i:=2) rA.nd rfl (.inl rfl) (cZ aQ)) (bg (cm (i:=3) rA.nd rfl (.inl rfl) (mi (Nw K rfl) rfl T.list Ny (aJ (pv 1) aQ))) (bg (cm (i:=4) rA.nd rfl (.inl rfl) (Fm (FH (pv 3) (λ_=>rfl)) (iN (ko K rfl) rfl T.len kq (aJ (bc (bV K rfl) (pv 3) aO (λ_ _=>rfl)) aQ)) aO)) (bg (mf nS rfl (j6 rfl T.range (aJ (pv 4) aQ)) (cF (i:=5) rA.nd rfl (Or.inr rfl)) (bg (nY (i:=6) (N:=["row","place"]) (own:=1) (caps:=[5]) rfl rA.nd rfl rfl (lI K rfl (pv 3)) (show dk nD (bo wJ) ["row","place"] 1 [5] _ from .mk' (by decide +kernel)) (λ_ _ _ _ _=>cF (i:=0) YT rfl (.inl rfl)) (λ_ _ _ _ _=>wg (dg yo (bc (cC K rfl) (pv 0) (pv 1) (λ_ _=>rfl)) aO (de _))) (λ_ _ _ _ _=>pv 0)) (bQ (ee (FH (pv 6) (λ_=>rfl)) (bg (cm (i:=7) rA.nd rfl (Or.inr rfl) (cT GL hr rfl mL FL.kp bL .nil cU (aJ (pv 0) (aJ (bc (bV K rfl) (pv 6) aO (λ_ _=>rfl)) (aJ (pv 5) aQ))))) (bg (cm (i:=2) rA.nd rfl (.inl rfl) (aY o8 (fY (N:=["row","lead","p","place"]) (own:=1) (caps:=[7,0,5]) rfl (lI K rfl (pv 2)) (show dk nD (bo wJ) ["row","lead","p","place"] 1 [7,0,5] _ from .mk' (by decide +kernel)) (λ_ _ _ _ _=>cF (i:=0) OR rfl (.inl rfl)) (λ_ _ _ _ _=>eU) (λ_ _ _ _ _=>cT GC hr rfl mC FC.kp bC .nil cU (aJ (pv 2) (aJ (pv 0) (aJ (pv 1) (aJ (pv 3) aQ)))))) (cZ (aJ (pv 7) aQ)))) (bQ (nY (i:=3) (N:=["row","lead","p","place"]) (own:=1) (caps:=[7,0,5]) rfl rA.nd rfl rfl (lI K rfl (pv 3)) (show dk nD (bo wJ) ["row","lead","p","place"] 1 [7,0,5] _ from .mk' (by decide +kernel)) (λ_ _ _ _ _=>cF (i:=0) OR rfl (.inl rfl)) (λ_ _ _ _ _=>eU) (λ_ _ _ _ _=>cT GC hr rfl mC FC.kp bC .nil cU (aJ (pv 2) (aJ (pv 0) (aJ (pv 1) (aJ (pv 3) aQ)))))))))
     eK)))) (bQ (cI (mi (o9 K rfl) rfl T.tuple pb (aJ (pv 2) aQ))))))),?_⟩
  refine⟨by decide,λld hd=>⟨_,rfl,a,RS,rfl,?_,λlr wN=>?_⟩⟩
  ·cases b with
   |true=>exact .inl ((aL.upd hd).sq (b:=true) hq)
   |false=>exact .inr ((aL.upd hd).sq (b:=false) hq)
  have pe:aL H (upd (upd H ld (.lst [])) lr (.lst RS)):=(aL.upd hd).trans (.upd wN);have g1:(upd (upd H ld (.lst [])) lr (.lst RS)) ld=some (.lst []):=by rw[bZ (eQ aX wN)];exact aX
  have g2:(upd (upd H ld (.lst [])) lr (.lst RS)) lr=some (.lst RS):=aX;generalize upd (upd H ld (.lst [])) lr (.lst RS)=H1 at pe g1 g2 ⊢;have zt:=hA.mono pe;have cO:RS.length=rs.length:=gN hA;refine⟨_,rfl,!RS.isEmpty,.inl ⟨RS,.of g2,rfl⟩,?_⟩;by_cases cB:rs=[]
  ·subst cB;have e0:RS=[]:=List.length_eq_zero_iff.mp cO;subst e0;refine fi ?_;refine⟨_,rfl,0,rfl,by decide,by decide,sk (n:=0) (λi σ H'=>H'=H1∧σ=[some (.int p),some (.ref a),some (.ref ld),some (.ref lr),some (.int 0),none,none,none]) ⟨rfl,rfl⟩ (λi σ H' hi=>absurd hi (by lia)) ?_⟩;rintro σ H' ⟨rfl,rfl⟩;exact⟨_,rfl,ld,_,rfl,.inl ⟨.of g1,λt ht=>k t _ [] (pe.trans (.upd ht)) (.of aX) .nil⟩⟩
  ·have e1:rd rs=n:=Ca hR cB;have Il:0<rs.length:=List.length_pos_iff.mpr cB;have hb:(!RS.isEmpty)=true:=by
    cases RS with
    |nil=>rw[List.length_nil]at cO;lia
    |cons _ _=>rfl
   rw[hb];refine gQ ?_;have OU:RS[0]?=some (RS[0]'(by lia)):=cn _;obtain⟨r0,a0,C1,YZ,Y0⟩:=oo zt OU;have Y1:(r0.map V.int).length=n:=by rw[bj];exact(hR r0 (dY C1)).1
   refine⟨_,rfl,lr,RS,0,_,rfl,rfl,.of g2,bE (j:=0) (OU.trans (ai some YZ)),a0,_,rfl,.inr Y0,?_⟩;rw[Y1];refine⟨_,rfl,(n:Int),rfl,by lia,by lia,sk (n:=n) (λi σ H'=>aL H H'∧∃dn uI DS XS s5 s6 s7,σ=[some (.int p),some (.ref a),some (.ref dn),some (.ref uI),some (.int (n:Int)),s5,s6,s7]∧H' dn=some (.lst DS)∧br K H' DS ((iR p n rs i).1.map cw)∧H' uI=some (.lst XS)∧br K H' XS ((iR p n rs i).2.map cw)) ⟨pe,ld,lr,[],RS,none,none,none,rfl,g1,.nil,g2,zt⟩ ?_ ?_⟩
   ·rintro i σ H2 hi ⟨sm,dn,uI,DS,XS,s5,s6,s7,rfl,gd,hD,gr,hX⟩;have IO:=G6 pp hR i (qD hi);have IL:=Ie (p:=p) (n:=n) (L:=rs) i;have Y2:iR p n rs (i+1)=uB p n (iR p n rs i) i:=rfl;rw[Y2];generalize iR p n rs i=st at hD hX IO IL ⊢;refine⟨_,rfl,uI,rfl,⟨_,.of gr⟩,pZ (cp:=[some (.int (0+(i:Int)))]) (λj H' zs=>br K H' zs (((st.2.take j).filter λr=>r.getD i 0≠0).map cw)) (.of gr) (by rw[gN hX,IL.2];exact qD (BO hz)) .nil (λj H' zs h=>by rw[gN h];exact eJ (vP _ _) (by rw[dv];lia)) ?_ ?_⟩
    ·rintro j x H' zs i6 eI h;obtain⟨r,ra,Im,rfl,dJ⟩:=oo hX i6;have zu:=IO.r r (dY Im);have uD:i<r.length:=by rw[zu.1];exact hi
     refine⟨_,rfl,_,rfl,ra,_,(i:Int),_,rfl,ai V.int (lA _),eI.bq dJ,bE (nB uD),rfl,_,rfl,wL (λIj=>?_) (λheq=>?_)⟩
     ·have uJ:r.getD i 0≠0:=λz=>Ij (ai V.int z);refine⟨_,rfl,⟨[_],rfl,rfl⟩,eI,?_⟩;rw[gZ,Im];show br K H' _ (((st.2.take j++[r]).filter _).map cw);rw[pI,vO (by simpa using uJ),pJ,cY];exact h.append (.cons (ke (eI.bq dJ)) .nil)
     ·have uK:r.getD i 0=0:=V.int.inj heq;refine⟨⟨[_],rfl,rfl⟩,eI,?_⟩;rw[gZ,Im];show br K H' _ (((st.2.take j++[r]).filter _).map cw);rw[pI,xU (by simpa using uK),pJ,iK];exact h
    rintro H3 zs sT h3 lh C2;rw[gN hX,r9]at h3;have ip:aL H2 (upd H3 lh (.lst zs)):=sT.trans (.upd C2);have g4:(upd H3 lh (.lst zs)) lh=some (.lst zs):=aX;have h4:=h3.mono (aL.upd C2 (o:=.lst zs));generalize upd H3 lh (.lst zs)=H4 at ip g4 h4 ⊢;refine⟨_,rfl,!zs.isEmpty,.inl ⟨zs,.of g4,rfl⟩,?_⟩;unfold uB;generalize hf:(st.2.filter λr=>r.getD i 0≠0)=hs at h4 ⊢;cases hs with
    |nil=>
     have:zs=[]:=List.length_eq_zero_iff.mp (gN h4)
     subst this;refine fi ?_;exact⟨sm.trans ip,dn,uI,DS,XS,_,_,_,rfl,ip _ _ gd,hD.mono ip,ip _ _ gr,hX.mono ip⟩
    |cons hd tl=>
     cases zs with
     |nil=>exact absurd (gN h4) (by simp)
     |cons z zv=>
      obtain⟨r',ha,kG,rfl,Y3⟩:=oo (i:=0) (x:=z) h4 rfl;have er:hd=r':=cN kG;subst er;refine gQ ?_;have OV:hd∈st.2∧hd.getD i 0≠0:=by
       have:hd∈st.2.filter λr=>r.getD i 0≠0:=by rw[hf];exact cP
       simpa using jZ.mp this
      have ox:=IO.r hd OV.1;have uD:i<hd.length:=by rw[ox.1];exact hi
      refine⟨_,rfl,_,rfl,lh,_,0,.ref ha,rfl,rfl,.of g4,bE (j:=0) rfl,_,rfl,p,ha,hd,0+(i:Int),i,rfl,lA _,pp,Y3,uD,by rw[ox.1];exact hn,ox.2,OV.2,λt H6 zq ht=>?_⟩;have lN:aL H2 H6:=ip.trans zq;rw[ox.1]at ht;have lL:bh K H6 t ((dR p n hd i).map V.int):=ht;have Io:=yX (place:=i) (show 0<p by lia) ox;dsimp only;generalize dR p n hd i=OW at lL Io ⊢;refine⟨_,rfl,dn,rfl,⟨_,.of (lN _ _ gd)⟩,OS p2 gq (.of (lN _ _ gd)) (hD.mono lN) IO.d (by lia) hn hi Io.1 lL (λx H1 R h=>⟨_,rfl,_,rfl,_,rfl,_,rfl,h⟩) λH8 sU rE h8 q8 Y4=>?_⟩;refine⟨_,rfl,(by show 1≤sizeLine;decide),λl9 h9=>⟨q8,l9,_,_,rfl,rfl,by rw[bZ (eQ aX h9)];exact aX,aX,?_,λq9 Y5=>?_⟩⟩
      ·show sU.length+1≤sizeLine;rw[gN h8,bj]
       have:(1000:Nat)<sizeLine:=by decide
       lia
      have oy:aL H8 (upd (upd (upd H8 q8 (.lst sU)) l9 (.lst [.ref t])) q9 (.lst (sU++[.ref t]))):=((aL.upd Y4).trans (.upd h9)).trans (.upd Y5);have g9:(upd (upd (upd H8 q8 (.lst sU)) l9 (.lst [.ref t])) q9 (.lst (sU++[.ref t]))) q9=some (.lst (sU++[.ref t])):=aX;generalize upd (upd (upd H8 q8 (.lst sU)) l9 (.lst [.ref t])) q9 (.lst (sU++[.ref t]))=H9 at oy g9 ⊢;have sV:aL H2 H9:=(lN.trans rE).trans oy;have OX:=(rE.trans oy).bq lL;refine⟨_,rfl,uI,rfl,⟨_,.of (sV _ _ gr)⟩,OS p2 gq (.of (sV _ _ gr)) (hX.mono sV) IO.r (by lia) hn hi Io.1 OX (λx H1 R h=>⟨_,rfl,_,rfl,_,rfl,_,rfl,h⟩) λHb OY mz hb qb OZ=>?_⟩;have oz:=mz.trans (aL.upd OZ (o:=.lst OY));refine⟨(sm.trans sV).trans oz,q9,qb,_,OY,_,_,_,rfl,oz _ _ g9,?_,aX,hb.mono (.upd OZ)⟩;show br K _ _ ((st.1.map (eA p OW i)++[OW]).map cw);rw[cY];exact(h8.mono (oy.trans oz)).append (.cons (ke (oz.bq OX)) .nil)
   ·rintro σ H' ⟨sm,dn,uI,DS,XS,s5,s6,s7,rfl,gd,hD,gr,hX⟩;refine⟨_,rfl,dn,_,rfl,.inl ⟨.of gd,λt ht=>k t _ DS (sm.trans (.upd ht)) (.of aX) ?_⟩⟩;unfold dI;rw[e1];exact hD.mono (.upd ht)
noncomputable def C4:List (Str×V):=[("times",.int 1),("back",.int 1),("beside",.int 2),("then",.int 2)]
noncomputable def mE(x:Str):Nat:=if x="times"∨x="back" then 1 else if x="beside"∨x="then" then 2 else 0
theorem Y6(x:Str):(PyProof.Rows.KTD.datumAt x C4).getD (.int 0)=.int (mE x):=by
 unfold C4 mE;simp only[PyProof.Rows.KTD.datumAt,aF];by_cases h1:x="times"
 ·simp[h1]
 ·by_cases h2:x="back"
  ·simp[h2]
  ·by_cases h3:x="beside"
   ·subst h3;rfl
   ·by_cases h4:x="then"
    ·subst h4;rfl
    ·simp[h1,h2,h3,h4]
theorem LV(x:Str):mE x≤2:=by
 unfold mE;split
 ·lia
 ·split<;>lia
structure Parts(K:Frag)(mg:Str→Option Value)(aP:Addr):Prop where
 nm:mg "PARTS"=some (.ref aP)
 tab:∀h,K.In h→ky h aP C4
theorem Y7:(["part","values"]:List Str).Nodup:=by decide +kernel
structure wO(k:Nat)(P:Program)(w:World)(K:Frag)(mg:Str→Option Value)(base:Heap)(s:Shared)(H:Hp)(Q:VK)(aw f:Addr)(ws:List V)(R:List V→Hp→VK→Prop)(G:Nat→List V→Hp→Prop):Prop where
 C5:bh K H aw ws
 len:ws.length≤900000
 fn:pd P w K mg base k s H f R
 g0:G ws.length [] H
 mono:∀i vs H1 H2,G i vs H1→fw H1 H2→G i vs H2
 p9:∀i vs H1,G i vs H1→vs.length≤900000
 kind:∀i,i<ws.length→(∃x,ws[i]?=some (.str x))∨∃n,ws[i]?=some (.int n)
 num:∀i n vs H1,ws[i]?=some (.int n)→G (i+1) vs H1→G i (vs++[.int n]) H1
 word:∀i x vs H1,ws[i]?=some (.str x)→G (i+1) vs H1→∃dZ ps,vs=dZ++ps.reverse∧ps.length=mE x∧
  ∀pa H2 Q',fw H1 H2→H2 pa=some (.lst ps)→(∀v H3,aL H2 H3→G i (dZ++[v]) H3→Q' v H3)→R [.int i,.str x,.ref pa] H2 Q'
 first:∃x,ws[0]?=some (.str x)
 fin:∀td aU vs v H',aL H H'→H' td=some (.dK aU)→eV aU (Sum.inl 0)=some v→G 0 (vs++[v]) H'→Q (.ref td) H'
def Ip(k:Nat)(P:Program)(w:World)(K:Frag)(mg:Str→Option Value)(base:Heap)(s:Shared):Sp:=λvs H Q _=>∃(aw f:Addr)(ws:List V)(R:List V→Hp→VK→Prop)(G:Nat→List V→Hp→Prop),vs=[.ref aw,.ref f]∧wO k P w K mg base s H Q aw f ws R G
noncomputable abbrev Y8:List Str:=["words","made","told","values","place","word","parts"]
theorem wQ:dj ["words","made","told","values","place","word","parts"] ["words","made"] (bo CJ):=dQ rfl rfl rfl (by decide +kernel) rfl
def Y9(K:Frag)(aw f td vl:Addr)(ws:List V)(G:Nat→List V→Hp→Prop)(H:Hp)(j:Nat)(σ:St)(H':Hp):Prop:=aL H H'∧∃(s4 s5 s6:Option V)(aU:List (Key×V))(vs:List V),
 σ=[some (.ref aw),some (.ref f),some (.ref td),some (.ref vl),s4,s5,s6]∧H' td=some (.dK aU)∧H' vl=some (.lst vs)∧aU.length≤j∧G (ws.length-j) vs H'∧
 (∀x,ws[ws.length-j]?=some (.str x)→∃dZ v,vs=dZ++[v]∧eV aU (Sum.inl ((ws.length-j:Nat):Int))=some v)
theorem uL{k:Nat}{aP:Addr}(F:cG K "all_folded" "all_folded" CJ f fd)(T:Txt mg)(PT:Parts K mg aP):rn P w K mg base (k+1) f fd ["words","made"] (Ip k P w K mg base):=by
 refine F.Ox wQ (λs vs H Q E h=>?_) (λbI A outer s H vs Q E hr h=>?_)
 ·obtain⟨aw,f,ws,R,G,rfl,_⟩:=h;rfl
 ·obtain⟨aw,fm,ws,R,G,rfl,D⟩:=h;have hu:=hr.units;have sW:=Gg hr;refine⟨_,bg (cm (i:=2) wQ.nd rfl (.inl rfl) XO) (bg (cm (i:=3) wQ.nd rfl (Or.inr rfl) (cZ aQ)) (bg (mf nS rfl (OE rfl T.range (aJ (aY nk (iN (ko K rfl) rfl T.len kq (aJ (pv 0) aQ)) aO) (aJ (pR pS aO) (aJ (pR pS aO) aQ)))) (cF (i:=4) wQ.nd rfl (.inl rfl)) (bg (cm (i:=5) wQ.nd rfl (.inl rfl) (bc (cC K rfl) (pv 0) (pv 4) (λ_ _=>rfl))) (bQ (ee (Fj (iN (GZ (T := "int")) rfl T.isinstance Nz (aJ (pv 5) (aJ (Nu rfl T.int G4) aQ)))) (bQ (md (mj jJ qF qG o7 (pv 3) (aJ (pv 5) aQ)))) (bg (nY (N:=["part","values"]) (own:=1) (caps:=[3]) (i:=6) rfl wQ.nd rfl rfl (j6 rfl T.range (aJ (Ys PT.tab (qK (v:=.ref _) rfl PT.nm rfl) (pv 5) aO ⟨rfl,rfl,rfl,rfl⟩) aQ)) (show dk Y8 (bo CJ) ["part","values"] 1 [3] _ from .mk' (by decide +kernel)) (λ_ _ _ _ _=>cF (i:=0) Y7 rfl (.inl rfl)) (λ_ _ _ _ _=>eU) (λ_ _ _ _ _=>Yy K rfl (pv 1))) (bg (Hs sW (pv 2) (pv 4) (by exact Yx (i:=1) D.fn hr rfl rfl (.inl rfl) (aJ (pv 4) (aJ (pv 5) (aJ (pv 6) aQ)))) rfl) (bQ (md (mj jJ qF qG o7 (pv 3) (aJ (Cm sW (pv 2) (pv 4) (λ_ _=>rfl)) aQ)))))))))) (bQ (cI (pv 2))))),?_⟩
  have hz:(1000000:Nat)≤sizeLine:=by decide
  have hl:=D.len;intro td C6;refine⟨(by show 0≤sizeLine;lia),λvl zw=>?_⟩;have zx:vl≠td:=λz=>by rw[z,aX]at zw;cases zw
  have Iq:H vl=none:=by rw[bZ zx]at zw;exact zw
  have s2:aL H (upd (upd H td (.dK [])) vl (.lst [])):=(aL.upd C6).trans (.upd zw);refine⟨_,rfl,aw,ws,rfl,.inr (s2.bq D.C5),_,_,rfl,rfl,_,rfl,_,rfl,_,rfl,⟨by lia,by lia⟩,?_⟩;have en:((ws.length:Int)-1+1).toNat=ws.length:=by lia
  rw[en];refine OF (Y9 K aw fm td vl ws G H) ⟨s2,none,none,none,[],[],rfl,?_,aX,kj _,D.mono _ _ _ _ D.g0 s2.tup,λx hx=>?_⟩ ?_ ?_
  ·rw[bZ (Ne.symm zx)];exact aX
  ·rw[Nat.sub_zero,jj (cf _)]at hx;cases hx
  ·rintro j σ H' hj ⟨sm,s4,s5,s6,aU,vs,rfl,C7,wR,hk,hG,_⟩;obtain⟨i,hi⟩:∃i,ws.length=i+1+j:=⟨ws.length-1-j,by lia⟩;have e1:(ws.length:Int)-1-(j:Nat)=((i:Nat):Int):=by lia
   have e2:ws.length-j=i+1:=by lia
   have e3:ws.length-(j+1)=i:=by lia
   rw[e1];rw[e2]at hG;have yC:=D.p9 _ _ _ hG;rcases D.kind i (by lia)with⟨x,hx⟩|⟨n,hx⟩
   ·obtain⟨dZ,ps,rfl,wU,Za⟩:=D.word i x vs H' hx hG;refine⟨_,rfl,_,rfl,aw,_,((i:Nat):Int),_,rfl,rfl,sm.bq D.C5,bE (j:=i) hx,?_⟩;refine⟨_,rfl,.str x,.type "str",false,rfl,.str x,G2 K,false,rfl,fi ?_⟩;have hpc:=LV x;refine⟨rfl,_,rfl,x,rfl,((mE x:Nat):Int),by rw[Y6],by lia,by lia,?_⟩;refine Yv (cp:=[some (.ref vl)]) (n:=mE x) (lo:=0) (λk Hx zs=>zs=ps.take k∧Hx vl=some (.lst (dZ++(ps.drop k).reverse))∧∀b,b≠vl→Hx b=H' b) (by lia) ⟨rfl,wR,λ_ _=>rfl⟩ (λk Hx zs h=>by rw[h.1];exact pK _ _) ?_ ?_
    ·rintro k Hx zs hU ⟨rfl,h1,h2⟩;have cL:k<ps.length:=by lia
     have ex:dZ++(ps.drop k).reverse=(dZ++(ps.drop (k+1)).reverse)++[ps[k]]:=by rw[List.drop_eq_getElem_cons cL,ua,gH]
     rw[ex]at h1;refine⟨_,rfl,.inl ⟨rfl,_,.of h1⟩,vl,_,ps[k],rfl,rfl,h1,by simp,wI.mk ⟨?_,?_,λb hb=>?_⟩⟩
     ·rw[gZ,cn cL];rfl
     ·rw[aX,List.dropLast_concat]
     ·rw[bZ hb];exact h2 b hb
    ·rintro Hx zs ⟨rfl,h1,h2⟩ pa gT;rw[lB (by lia)];rw[List.drop_eq_nil_of_le (by lia),List.reverse_nil,iK]at h1;have C8:td≠vl:=Ne.symm zx;have keep:∀b o,b≠vl→H' b=some o→(upd Hx pa (.lst ps)) b=some o:=λb o nb e=>by
      have h3:Hx b=some o:=by rw[h2 b nb];exact e
      rw[bZ (eQ h3 gT)];exact h3
     have C9:aL H (upd Hx pa (.lst ps)):=λb o e=>keep b o (eQ e Iq) (sm b o e);have tp:fw H' (upd Hx pa (.lst ps)):=λb o e k=>keep b o (λz=>by
      subst z;rw[wR]at e;cases e;rcases k with⟨_,z⟩|⟨_,_,z⟩<;>cases z) e
     have g1:(upd Hx pa (.lst ps)) pa=some (.lst ps):=aX;have g2:(upd Hx pa (.lst ps)) vl=some (.lst dZ):=by rw[bZ (eQ h1 gT)];exact h1
     have g3:(upd Hx pa (.lst ps)) td=some (.dK aU):=keep _ _ C8 C7;generalize upd Hx pa (.lst ps)=H2 at C9 tp g1 g2 g3;refine⟨rfl,C9,_,rfl,_,rfl,_,rfl,C9,Za pa H2 _ tp g1 λv H3 s3 Zb=>?_⟩;have my:dZ.length≤900000:=by rw[cx]at yC;lia
     refine⟨_,rfl,_,rfl,td,_,rfl,sO.k (k:=Sum.inl ((i:Nat):Int)) (s3 _ _ g3) (by lia),?_⟩;have Ir:(upd H3 td (.dK (gS aU (Sum.inl ((i:Nat):Int)) v))) vl=some (.lst dZ):=by rw[bZ zx];exact s3 _ _ g2
     have O0:(upd H3 td (.dK (gS aU (Sum.inl ((i:Nat):Int)) v))) td=some (.dK (gS aU (Sum.inl ((i:Nat):Int)) v)):=aX;have O1:eV (gS aU (Sum.inl ((i:Nat):Int)) v) (Sum.inl ((i:Nat):Int))=some v:=by rw[XF,ae rfl]
     refine⟨_,rfl,.inl ⟨rfl,_,.of Ir⟩,_,rfl,_,rfl,td,v,rfl,O1▸rh.k (k:=Sum.inl ((i:Nat):Int)) O0,vl,dZ,_,rfl,rfl,Ir,by lia,?_⟩;refine⟨((C9.trans s3).put C6).put Iq,_,_,_,_,_,rfl,by rw[bZ C8];exact O0,aX,?_,?_,λx' _=>⟨dZ,v,rfl,by rw[e3];exact O1⟩⟩
     ·have:=Ci aU (Sum.inl ((i:Nat):Int)) v
      lia
     ·rw[e3];exact D.mono _ _ _ _ Zb ((fw.Yw (s3 _ _ g3)).trans (fw.lst Ir))
   ·refine⟨_,rfl,_,rfl,aw,_,((i:Nat):Int),_,rfl,rfl,sm.bq D.C5,bE (j:=i) hx,?_⟩;refine⟨_,rfl,.int n,.type "int",true,rfl,.int n,Nt K,true,rfl,gQ ?_⟩;refine⟨_,rfl,.inl ⟨rfl,_,.of wR⟩,_,rfl,vl,vs,_,rfl,rfl,wR,by lia,?_⟩;have C8:td≠vl:=Ne.symm zx;refine⟨sm.put Iq,_,_,_,aU,_,rfl,by rw[bZ C8];exact C7,aX,Nat.le_succ_of_le hk,?_,λx' i6=>?_⟩
    ·rw[e3];exact D.mono _ _ _ _ (D.num i n vs H' hx hG) (fw.lst wR)
    ·rw[e3,hx]at i6;cases i6
  ·rintro σ H' ⟨sm,s4,s5,s6,aU,vs,rfl,C7,wR,hk,hG,hf⟩;obtain⟨x,hx⟩:=D.first;rw[Nat.sub_self]at hG hf;obtain⟨dZ,v,rfl,hv⟩:=hf x hx;exact⟨_,rfl,D.fin td aU dZ v H' sm C7 hv hG⟩
end S21
namespace L2
open PySem PySem.Spec PyProof.Rows
theorem O2:∀{l:List (Str×Value)}{y:Str}{u:Value},(l.map (·.1)).Nodup→(y,u)∈l→l.lookup y=some u
 | [],_,_,_,h=>(by cases h)
 |(k,v)::r,y,u,nd,h=>by
  have O3:=List.nodup_cons.mp nd;rcases(cS.mp h)with(e|h)
  ·cases e;simp[List.lookup]
  ·have ne:y≠k:=λz=>O3.1 (dq.mpr ⟨(y,u),h,z⟩);have e0:(y==k)=false:=beq_eq_false_iff_ne.mpr ne;rw[tZ,e0];exact O2 O3.2 h
theorem Zc{xs:List Str}{us:List Value}{i:Nat}{y:Str}{u:Value}(nd:xs.Nodup)(hl:us.length=xs.length)(h1:xs[i]?=some y)(h2:us[i]?=some u):(xs.zip us).reverse.lookup y=some u:=by
 have em:(xs.zip us).map (·.1)=xs:=by rw[List.map_fst_zip (by lia)]
 refine O2 ?_ (List.mem_reverse.mpr ?_)
 ·rw[List.map_reverse,em];exact List.pairwise_reverse.mpr (nd.imp λh=>Ne.symm h)
 ·exact dY (i:=i) (by rw[List.getElem?_zip_eq_some];exact⟨h1,h2⟩)
structure Iu(xs names:List Str)(scope:Scope)(params:Arguments)(cl:List (Str×Addr)):Prop where
 kind:scope.kind=.function
 co:scope.isCoroutine=false
 gen:scope.isGenerator=false
 nd:xs.Nodup
 cell:∀y∈scope.names,y.2≠.cell
 loc:∀x∈xs,scope.names.lookup x=some .local
 fr:∀y∈names,scope.names.lookup y=some .free
 has:∀y,scope.names.lookup y=some .free→∃c,cl.lookup y=some c
 inj:∀y z c,cl.lookup y=some c→cl.lookup z=some c→y=z
 only:∀y c,cl.lookup y=some c→y∈names
section
variable{P:Program}{w:World}{K:Frag}{mg:Str→Option Value}{base:Heap}
theorem O4{xs names:List Str}{caps:List V}{qual:Str}{params:Arguments}{body:Expr}{scope:Scope}{cl:List (Str×Addr)}{k:Nat}{s:Shared}{H:Hp}{f:Addr}{R:List V→Hp→VK→Prop}(S:Iu xs names scope params cl)
  (F:Oh H f qual params body scope cl) (Hy:∀(pm bI ct:Value)(us:List Value),us.length=xs.length→bindArgs (PySem.W.kla_fn "<lambda>" qual params body scope cl pm bI ct) ⟨us,[]⟩=pure (xs.zip us))
  (Zd:∀(j:Nat)(y:Str),names[j]?=some y→∃c v u,cl.lookup y=some c∧caps[j]?=some v∧RelV v u∧s.heap.IsCell c (some u)∧H c=none) (cO:caps.length=names.length) (len:∀vs H' Q,R vs H' Q→vs.length=xs.length)
  (oZ:∀(c:Addr)(A:Around)(outer:List Env)(s':Shared)(H':Hp)(vs:List V)(Q:VK),dP k (A.deeper (PySem.W.envX qual scope s'.heap.objs.size f (.ref c) cl))→aL H H'→R vs H' Q→
   ∃t,PE (Hv P w K mg base (xs++names) qual scope f c cl A outer s' H').ma body t∧t (vs.map some++caps.map some) H' Q):pd P w K mg base (k+1) s H f R:=by
 obtain⟨c,hf,hc⟩:=F;refine⟨.inl ⟨_,hf,λh ⟨pm,gp,e⟩=>⟨_,_,_,_,e⟩⟩,λA outer s' H' vs us Q hr e0 sm hk rv hQ=>?_⟩;obtain⟨⟨pm,gp,ho⟩,_⟩:=e0.bH f _ (sm _ _ hf);have Ze:s'.heap.CodeRec (.ref c) qual:=(e0.bH c _ (sm _ _ hc)).1;have uj:s'.heap.NoLimit:=e0.mod.nolimit.keeps λb o e=>(e0.bs b o e).1;have hl:=len _ _ _ hQ;have O5:us.length=xs.length:=by rw[← rv.length];exact hl
 refine PySem.W.kla_callFunE hr.depth ho rfl S.co S.gen rfl Ze ?_;rw[Hy _ _ _ us O5];refine aq (wpAny_newFunctionEnv S.cell (λz hz=>S.loc _ (xR hz).1) (λh₁ Ct Dc=>⟨uj.fresh _ Dc,?_⟩) S.kind);show codeAny _ _ (.expr body (PySem.W.envX qual scope s'.heap.objs.size f (.ref c) cl)) _ _;have up:∀b o,s'.heap.get? b=some o→h₁.get? b=some o:=λb o e=>Dc.extBut b o (gU (dN e)) (dX _ e);obtain⟨t,ht,hq⟩:=oZ c A outer s' H' vs Q (hr.deeper _) sm hQ;have cells:∀(j:Nat)(y:Str),names[j]?=some y→∃c v u,cl.lookup y=some c∧caps[j]?=some v∧RelV v u∧h₁.IsCell c (some u)∧H' c=none:=λj y hj=>by
  obtain⟨c0,v,u,h1,h2,h3,⟨o,ho,hd⟩,h5⟩:=Zd j y hj;obtain⟨h6,sl,h7⟩:=hk c0 o ho h5;exact⟨c0,v,u,h1,h2,h3,⟨_,up _ _ h7,hd⟩,h6⟩
 have O6:∀y c,cl.lookup y=some c→∃v,h₁.IsCell c (some v)∧H' c=none:=λy c0 h=>by
  obtain⟨j,hj⟩:=List.getElem?_of_mem (S.only y c0 h);obtain⟨c1,v,u,h1,_,_,h4,h5⟩:=cells j y hj;rw[h]at h1;cases h1;exact⟨u,h4,h5⟩
 have I:Inv (Hv P w K mg base (xs++names) qual scope f c cl A outer s' H') [] (vs.map some++caps.map some) H' { s' with heap:=h₁,toks:=s'.toks+(xs.zip us).length }:=by
  have ui:∀b:Addr,b ∉ (Hv P w K mg base (xs++names) qual scope f c cl A outer s' H').ex:=λb z=>absurd (show b∈([]:List Addr) from z) (by simp)
  refine⟨⟨e0.mod,S.kind,rfl,rfl,cf _,λy z c h1 h2=>S.inj y z c h1 h2,λy hy=>?_,λy c h=>(nomatch h),λ_=>hr.hd,Around.frames_deeper e0.frames,.inr ⟨rfl,rfl⟩,λb z=>absurd z (ui b),e0.bs,e0.qJ,λb _ _=>ui b,λb z=>absurd z (ui b),e0.nj,e0.sf⟩,
   rfl,e0.bare,Un.kept up,⟨_,Ct,λi y v h1 h2 h3=>?_⟩,λy c h=>?_,e0.bH.fresh (cf _),λy c h=>?_,λp hp=>absurd (show p∈([]:List (Addr×Obj)) from hp) (by simp),e0.bH.kept up,by show(vs.map some++caps.map some).length=(xs++names).length;simp[cO,hl]⟩
  ·rcases hy with hy|hy
   ·exact absurd rfl (S.cell _ (nO hy))
   ·exact S.has y hy
  ·have h1:(xs++names)[i]?=some y:=h1;by_cases hi:i<xs.length
   ·rw[iA hi]at h1;rw[iA (by simp only[bj];lia),du]at h2;cases ev:vs[i]? with
    |none=>rw[ev]at h2;cases h2
    |some v'=>
     rw[ev]at h2;cases h2;obtain⟨u,hu,ru⟩:=rv.get ev;exact⟨u,ru,.inl ⟨S.loc y (dY h1),Zc S.nd O5 h1 hu⟩⟩
   ·rw[iL (by lia)]at h1;rw[iL (by simp only[bj];lia),bj,hl,du]at h2;obtain⟨c1,v',u,g1,g2,g3,g4,_⟩:=cells _ y h1;rw[g2]at h2;cases h2;exact⟨u,g3,.inr ⟨.inr (S.fr y (dY h1)),c1,g1,g4⟩⟩
  ·obtain⟨v,h4,_⟩:=O6 y c h;exact⟨_,h4⟩
  ·obtain⟨v,_,h5⟩:=O6 y c h;exact h5
 refine PySem.W.kla_codeExpr (ag (ht.ma [] _ _ H' Q I hq) (λu nu hs=>?_) λe nu z=>ag z (λ_ _ z=>False.elim z) λ_ _ z=>False.elim z);obtain⟨v,ph,J,rv,q⟩:=hs;exact⟨v,ph,J.os,J.bare,J.base,J.bH,rv,q⟩
end
end L2
namespace S21
open PySem L2 Bw
variable{A B:Prop}{aB aS f:Addr}{fd:FuncData}{l r:Nat}
noncomputable def zy:List Value→List Int→Bool
 | [],[]=>true
 | .int i _::vs,n::ns=>i==n&&zy vs ns
 |_,_=>false
theorem Iv:∀(vs:List Value)(ns:List Int),zy vs ns=true→Vals (ns.map V.int) vs
 | [],[],_=>.nil
 | .int i t::vs,n::ns,h=>by
  have h':(i==n&&zy vs ns)=true:=h;rw[fg]at h';have e:i=n:=beq_iff_eq.mp h'.1;exact .cons ⟨t,by rw[e]⟩ (Iv vs ns h'.2)
 | [],_::_,h=>nomatch h
 | .none::_,[],h=>nomatch h
 |v::vs,[],h=>by cases v<;>exact nomatch h
 |v::vs,n::ns,h=>by
  cases v with
  |int i t=>
   have h':(i==n&&zy vs ns)=true:=h;rw[fg]at h';have e:i=n:=beq_iff_eq.mp h'.1;exact .cons ⟨t,by rw[e]⟩ (Iv vs ns h'.2)
  |_=>exact nomatch h
noncomputable def uM(K:Frag)(t:Addr)(ns:List Int):Bool:=match K.lookup t with
 |some ⟨.type "tuple",_,.seq its _,_⟩=>decide (its.size≤1000)&&zy its.toList ns
 |_=>false
theorem Dd{K:Frag}{t:Addr}{ns:List Int}(h:uM K t ns=true)(H:Hp):bh K H t (ns.map V.int):=by
 unfold uM at h;split at h
 case h_2=>exact nomatch h
 case h_1 d its n sl ho=>
  rw[fg]at h;exact .inr ⟨_,its,n,ho,rfl,rfl,eJ (aG h.1) (by decide),Iv _ _ h.2⟩
noncomputable def De(K:Frag):List Value→LL→Bool
 | [],[]=>true
 | .ref t::vs,r::rs=>uM K t r&&De K vs rs
 |_,_=>false
theorem O7{K:Frag}(H:Hp):∀(vs:List Value)(rs:LL),De K vs rs=true→∃RS,Vals RS vs∧br K H RS (rs.map cw)
 | [],[],_=>⟨[],.nil,.nil⟩
 | [],_::_,h=>nomatch h
 |v::vs,[],h=>by cases v<;>exact nomatch h
 |v::vs,r::rs,h=>by
  cases v with
  |ref t=>
   have h':(uM K t r&&De K vs rs)=true:=h;rw[fg]at h';obtain⟨RS,h1,h2⟩:=O7 H vs rs h'.2;exact⟨.ref t::RS,.cons rfl h1,.cons (ke (Dd h'.1 H)) h2⟩
  |_=>exact nomatch h
noncomputable def Iw(K:Frag)(t:Addr)(rs:LL):Bool:=match K.lookup t with
 |some ⟨.type "tuple",_,.seq its _,_⟩=>decide (its.size≤1000)&&De K its.toList rs
 |_=>false
theorem Zf{K:Frag}{t:Addr}{rs:LL}(h:Iw K t rs=true)(H:Hp):∃RS,bh K H t RS∧br K H RS (rs.map cw):=by
 unfold Iw at h;split at h
 case h_2=>exact nomatch h
 case h_1 d its n sl ho=>
  rw[fg]at h;obtain⟨RS,h1,h2⟩:=O7 H _ _ h.2;exact⟨RS,.inr ⟨_,its,n,ho,rfl,rfl,eJ (aG h.1) (by decide),h1⟩,h2⟩
noncomputable def e8:List (Str×Nat×Nat×LL):=[("id",1,1,[[1,1]]),("swap",2,2,[[1,0,0,1],[0,1,1,0]]),("copy",1,2,[[1,1,1]]),("end",1,0,[[1]]),("add",2,1,[[1,0,1],[0,1,1]]),("none",0,1,[]),("cup",0,2,[[1,1]]),("empty",0,0,[])]
noncomputable def zA(K:Frag)(aS aB:Addr):Bool:=Cy K aS&&Cy K aB&&e8.all λe=>
 (match PyProof.Rows.KTD.datumAt e.1 (fK K aS)with|some (.ref t)=>uM K t [(e.2.1:Int),(e.2.2.1:Int)] | _=>false) &&
 (match PyProof.Rows.KTD.datumAt e.1 (fK K aB)with|some (.ref t)=>Iw K t e.2.2.2|_=>false)
structure nE(K:Frag)(mg:Str→Option Value)(aS aB:Addr):Prop where
 zB:mg "SIDES"=some (.ref aS)
 Zg:mg "BOX_ROWS"=some (.ref aB)
 ok:zA K aS aB=true
theorem nE.tabS{K:Frag}{mg:Str→Option Value}(B:nE K mg aS aB):∀h,K.In h→ky h aS (fK K aS):=λh X=>by
 have z:=B.ok;unfold zA at z;rw[fg,fg]at z;exact HB X z.1.1
theorem nE.Zh{K:Frag}{mg:Str→Option Value}(B:nE K mg aS aB):∀h,K.In h→ky h aB (fK K aB):=λh X=>by
 have z:=B.ok;unfold zA at z;rw[fg,fg]at z;exact HB X z.1.2
theorem nE.at_{K:Frag}{mg:Str→Option Value}(B:nE K mg aS aB){x:Str}{aN:LL}(h:(x,l,r,aN)∈e8) :
  (∃t,PyProof.Rows.KTD.datumAt x (fK K aS)=some (.ref t)∧∀H,bh K H t [.int (l:Int),.int (r:Int)])∧∃t,PyProof.Rows.KTD.datumAt x (fK K aB)=some (.ref t)∧∀H,∃RS,bh K H t RS∧br K H RS (aN.map cw):=by
 have z:=B.ok;unfold zA at z;rw[fg]at z;have z2:=pG.mp z.2 _ h;rw[fg]at z2;obtain⟨z3,z4⟩:=z2;constructor
 ·split at z3
  ·rename_i t e
   exact⟨t,e,λH=>Dd z3 H⟩
  ·exact nomatch z3
 ·split at z4
  ·rename_i t e
   exact⟨t,e,λH=>Zf z4 H⟩
  ·exact nomatch z4
def Iy(K:Frag):Sp:=λvs H Q _=>∃(i:Int)(x:Str)(pa:Addr)(l r:Nat)(aN:LL),vs=[.int i,.str x,.ref pa]∧(x,l,r,aN)∈e8∧ic K H [.int (l:Int),.int (r:Int),.cg] Q
theorem Df:dj ["place","word","parts","unmet"] ["place","word","parts"] (bo wK):=dQ rfl rfl rfl (by decide +kernel) rfl
theorem Iz(F:cG K "measure" "measure" wK f fd)(B:nE K mg aS aB):bz P w K mg base bx 1 f fd ["place","word","parts"] (Iy K):=by
 refine F.ok Df (λvs H Q E h=>?_) (λbI A outer s H vs Q E hr h=>?_)
 ·obtain⟨i,x,pa,l,r,aN,rfl,_⟩:=h;rfl
 ·obtain⟨i,x,pa,l,r,aN,rfl,hx,q⟩:=h;obtain⟨⟨t,e,ht⟩,_⟩:=B.at_ hx;refine⟨_,bg (ee (Fi (HI B.tabS (pv 1) (qK (v:=.ref _) rfl B.zB rfl)) rfl) (bQ (cI (aY (ft K rfl) (HH B.tabS (qK (v:=.ref _) rfl B.zB rfl) (pv 1) (λ_ _=>rfl)) (cE (aJ uf aQ))))) eK) Uq,?_⟩;refine⟨_,rfl,x,rfl,rfl,_,rfl,?_⟩;rw[e];refine gQ ⟨_,rfl,x,_,rfl,rfl,e,(by show 1≤sizeLine;decide),λt1 g1=>?_⟩;exact⟨t,t1,_,_,rfl,rfl,ht _,.of aX,(by show 2+1≤sizeLine;decide),λa' H' s' h'=>q a' H' ((aL.upd g1).trans s') h'⟩
theorem pd.on{X:Cx}{aH:List (Addr×Obj)}{σ:St}{H1:Hp}{s1:Shared}{k:Nat}{R:List V→Hp→VK→Prop}(I:Inv X aH σ H1 s1)(hex:X.ex=[])(sm:aL X.H₀ H1)(L:pd P w K mg base k X.s₀ X.H₀ f R):pd P w K mg base k s1 H1 f R:=by
 refine⟨?_,λA outer s' H' vs us Q hr e0 eI hk rv hQ=>L.run A outer s' H' vs us Q hr e0 (sm.trans eI) (λc o hc hn=>?_) rv hQ⟩
 ·rcases L.here with⟨φ,h1,h2⟩|h
  ·exact .inl ⟨φ,sm _ _ h1,h2⟩
  ·exact .inr h
 ·have zf:c ∉ X.ex:=by rw[hex];simp
  obtain⟨sl,h3⟩:=I.base.any hc hn zf;obtain⟨h4,Fe,h5⟩:=hk c _ h3 (I.base.free c o hc hn zf);exact⟨h4,Fe,h5⟩
theorem wO.on{k:Nat}{X:Cx}{aH:List (Addr×Obj)}{σ:St}{H1:Hp}{s1:Shared}{Q Q1:VK}{aw f:Addr}{ws:List V}{R:List V→Hp→VK→Prop}{G:Nat→List V→Hp→Prop}(I:Inv X aH σ H1 s1)(hex:X.ex=[])(sm:aL X.H₀ H1)
  (D:wO k P w K mg base X.s₀ X.H₀ Q aw f ws R G) (q:∀u H',aL H1 H'→Q u H'→Q1 u H'):wO k P w K mg base s1 H1 Q1 aw f ws R G:=
 ⟨sm.bq D.C5,D.len,pd.on I hex sm D.fn,D.mono _ _ _ _ D.g0 sm.tup,D.mono,D.p9,D.kind,D.num,D.word,D.first,λtd aU vs v H' s' h1 h2 h3=>q _ _ s' (D.fin td aU vs v H' (sm.trans s') h1 h2 h3)⟩
def Zi(Q:VK):VK:=λu H'=>∃td aU v,u=.ref td∧H' td=some (.dK aU)∧eV aU (Sum.inl 0)=some v∧Q v H'
def Dg(k:Nat)(P:Program)(w:World)(K:Frag)(mg:Str→Option Value)(base:Heap)(s:Shared):Sp:=λvs H Q _=>∃(aw f:Addr)(ws:List V)(R:List V→Hp→VK→Prop)(G:Nat→List V→Hp→Prop),vs=[.ref aw,.ref f]∧wO k P w K mg base s H (Zi Q) aw f ws R G
theorem Zj:dj ["words","made"] ["words","made"] (bo HM):=dQ rfl rfl rfl (by decide +kernel) rfl
theorem wV{k:Nat}{fA:Addr}{kE:FuncData}(F:cG K "folded" "folded" HM f fd)
  (GA:rn P w K mg base (k+1) fA kE ["words","made"] (Ip k P w K mg base)) (kA:Kp K fA) (bA:Binds K kE ["words","made"] []) (mA:Mg mg "all_folded" fA):rn P w K mg base (k+2) f fd ["words","made"] (Dg k P w K mg base):=by
 refine F.Ox Zj (λs vs H Q E h=>?_) (λbI A outer s H vs Q E hr h=>?_)
 ·obtain⟨aw,f,ws,R,G,rfl,_⟩:=h;rfl
 ·obtain⟨aw,fm,ws,R,G,rfl,D⟩:=h;refine⟨_,bQ (cI (Cm (Gg hr) (zd GA hr rfl mA kA bA (aJ (pv 0) (aJ (pv 1) aQ))) aO (λ_ _=>rfl))),?_⟩;refine⟨_,rfl,_,rfl,λaH s1 I=>⟨aw,fm,ws,R,G,rfl,wO.on I rfl (.refl _) D λu H' _ ⟨td,aU,v,e,h1,h2,h3⟩=>?_⟩⟩;exact⟨td,v,e,h2▸rh.k (k:=Sum.inl 0) h1,h3⟩
def O8(K:Frag):Sp:=λvs H Q _=>∃(aw:Addr)(x:Str)(l r:Nat)(aN:LL),vs=[.ref aw]∧bh K H aw [.str x]∧(x,l,r,aN)∈e8∧∀v H',aL H H'→bh K H' v [.int (l:Int),.int (r:Int),.cg]→Q (.ref v) H'
theorem O9:∀e∈e8,mE e.1=0:=by decide +kernel
theorem Pa:dj ["words"] ["words"] (bo CK):=dQ rfl rfl rfl (by decide +kernel) rfl
theorem IA{fF fM:Addr}{pj gO:FuncData}(F:cG K "measured" "measured" CK f fd)
  (GF:rn P w K mg base 3 fF pj ["words","made"] (Dg 1 P w K mg base)) (kF:Kp K fF) (bF:Binds K pj ["words","made"] []) (mF:Mg mg "folded" fF)
  (GM:bz P w K mg base bx 1 fM gO ["place","word","parts"] (Iy K)) (FM:cG K "measure" "measure" wK fM gO) (bM:Binds K gO ["place","word","parts"] []) (mM:Mg mg "measure" fM):bz P w K mg base bx 4 f fd ["words"] (O8 K):=by
 refine F.ok Pa (λvs H Q E h=>?_) (λbI A outer s H vs Q E hr h=>?_)
 ·obtain⟨aw,x,l,r,aN,rfl,_⟩:=h;rfl
 ·obtain⟨aw,x,l,r,aN,rfl,hw,hx,q⟩:=h;refine⟨_,bQ (cI (zd GF hr rfl mF kF bF (aJ (pv 0) (aJ (qK (v:=.ref _) rfl mM rfl) aQ)))),?_⟩;refine⟨_,rfl,λaH s1 I=>⟨aw,fM,[.str x],λvs H' Q=>Iy K vs H' Q E0,λi vs H'=>(i=1∧vs=[])∨(i=0∧∃v,vs=[.ref v]∧bh K H' v [.int (l:Int),.int (r:Int),.cg]),rfl,?_⟩⟩;refine⟨hw,by simp,pd.OG GM FM bM,.inl ⟨rfl,rfl⟩,λi vs H1 H2 h tp=>?_,λi vs H1 h=>?_,λi hi=>?_,λi n vs H1 h=>?_,λi y vs H1 h g=>?_,⟨x,rfl⟩,λtd aU vs v H' s' h1 h2 h3=>?_⟩
  ·rcases h with h|⟨h1,v,h2,h3⟩
   ·exact .inl h
   ·exact .inr ⟨h1,v,h2,tp.bq h3⟩
  ·rcases h with⟨_,h⟩|⟨_,v,h,_⟩<;>(rw[h];simp)
  ·have:i=0:=by simpa using hi
   subst this;exact .inl ⟨x,rfl⟩
  ·match i,h with
   |0,h=>cases h
   |_+1,h=>cases h
  ·match i,h with
   |0,h=>
    cases h;rcases g with⟨_,g⟩|⟨g,_⟩
    ·refine⟨[],[],by rw[g];rfl,(O9 _ hx).symm,λpa H2 Q' tp hp hq=>⟨_,x,pa,l,r,aN,rfl,hx,λv H3 s3 hv=>hq (.ref v) H3 s3 (.inr ⟨rfl,v,rfl,hv⟩)⟩⟩
    ·exact absurd g (by decide)
   |_+1,h=>cases h
  ·rcases h3 with⟨z,_⟩|⟨_,v',z,hv⟩
   ·exact absurd z (by decide)
   ·have e:vs=[]∧v=.ref v':=by
     cases vs with
     |nil=>exact⟨rfl,by simpa using z⟩
     |cons a vs=>simp at z
    obtain⟨rfl,rfl⟩:=e;exact⟨td,aU,_,rfl,h1,h2,q v' H' s' hv⟩
def IC(K:Frag):Sp:=λvs H Q _=>∃(aw:Addr)(x:Str)(l r:Nat)(aN:LL),vs=[.ref aw]∧bh K H aw [.str x]∧(x,l,r,aN)∈e8∧∀v H',aL H H'→bh K H' v [.int (l:Int),.int (r:Int)]→Q (.ref v) H'
theorem Pb:dj ["words"] ["words"] (bo CI):=dQ rfl rfl rfl (by decide +kernel) rfl
theorem ID{fM:Addr}{gO:FuncData}(F:cG K "wires" "wires" CI f fd)
  (GM:bz P w K mg base bx 4 fM gO ["words"] (O8 K)) (kM:Kp K fM) (bM:Binds K gO ["words"] []) (mM:Mg mg "measured" fM):bz P w K mg base bx 5 f fd ["words"] (IC K):=by
 refine F.ok Pb (λvs H Q E h=>?_) (λbI A outer s H vs Q E hr h=>?_)
 ·obtain⟨aw,x,l,r,aN,rfl,_⟩:=h;rfl
 ·obtain⟨aw,x,l,r,aN,rfl,hw,hx,q⟩:=h;refine⟨_,bQ (cI (gk (gK K rfl) (cT GM hr rfl mM kM bM .nil cU (aJ (pv 0) aQ)) iO (fb aO))),?_⟩;refine⟨_,rfl,aw,x,l,r,aN,rfl,hw,hx,λv H1 s1 hv=>?_⟩;exact⟨_,rfl,v,_,rfl,hv,λt H2 s2 ht=>q t H2 (s1.trans s2) ht⟩
def dM(K:Frag)(H:Hp)(a:Addr)(l r:Nat)(aN:LL):Prop:=∃(t:Addr)(RS:List V),bh K H a [.int (l:Int),.int (r:Int),.ref t]∧bh K H t RS∧br K H RS (aN.map cw)
theorem br.Pc{K:Frag}{H H':Hp}(s:fw H H'):∀{RS:List V}{aN:LL},br K H RS (aN.map cw)→br K H' RS (aN.map cw)
 | [],[],_=>.nil
 |_::_,[],h=>nomatch h
 | [],_::_,h=>nomatch h
 |v::RS,r::aN,.cons h q=>by
  refine .cons ?_ (br.Pc s q);have h:gJ K H v (.tuple (r.map .int)):=h;cases h with
  |tuple h1 h2=>
   have e:=br.G0 h2;subst e;exact ke (s.bq h1)
theorem dM.tup{K:Frag}{H H':Hp}{a:Addr}{aN:LL}(h:dM K H a l r aN)(s:fw H H'):dM K H' a l r aN:=by
 obtain⟨t,RS,h1,h2,h3⟩:=h;exact⟨t,RS,s.bq h1,s.bq h2,br.Pc s h3⟩
noncomputable def iD(l r:Nat)(row:List Int):List Int:=(row.drop l).take r++(row.take l++row.drop (l+r))
theorem rF{r:List Int}{k:Nat}(h:k≤r.length):lE (r.map V.int) none (some (k:Int))=(r.take k).map V.int:=by
 unfold lE;rw[HT.vX,HT.FP,List.drop_zero,Nat.sub_zero,bj,Nat.min_eq_left h,List.map_take]
theorem sX{r:List Int}{k:Nat}(h:k≤r.length):lE (r.map V.int) (some (k:Int)) none=(r.drop k).map V.int:=by
 unfold lE;rw[HT.vX,HT.FP,bj,Nat.min_eq_left h,lB (by simp),List.map_drop]
theorem zC{r:List Int}{j k:Nat}(h:j+k≤r.length):lE (r.map V.int) (some (j:Int)) (some ((j+k:Nat):Int))=((r.drop j).take k).map V.int:=by
 unfold lE;rw[HT.vX,HT.vX,bj,Nat.min_eq_left h,Nat.min_eq_left (by lia),List.map_take,List.map_drop,Nat.add_sub_cancel_left]
theorem Zk{x:Nat}{row:List Int}(h:row.length=l+r+x):(iD l r row).length=r+l+x:=by
 unfold iD;simp only[cx,dv,fE];lia
theorem zD{p:Int}{x:Nat}{row:List Int}(h:Rw p (l+r+x) row):Rw p (r+l+x) (iD l r row):=by
 refine⟨Zk h.1,λx hx=>h.2 x ?_⟩;unfold iD at hx;rcases(dm.mp hx)with z|z
 ·exact pL (oO z)
 ·rcases(dm.mp z)with z|z
  ·exact oO z
  ·exact pL z
theorem Zl:(["row","behind","left"]:List Str).Nodup:=by decide +kernel
def IE(K:Frag):Sp:=λvs H Q _=>∃(p:Int)(a:Addr)(l r x:Nat)(aN:LL),vs=[.int p,.ref a]∧p∈cX∧dM K H a l r aN∧l≤100∧r≤100∧x≤200∧aN.length≤500∧ck p (l+r+x) aN∧∀v H',aL H H'→dM K H' v r l (dI p (aN.map (iD l r)))→Q (.ref v) H'
noncomputable abbrev Zm:List Str:=["p","one","left","behind"]
theorem IF:dj ["p","one","left","behind"] ["p","one"] (bo CM):=dQ rfl rfl rfl (by decide +kernel) rfl
theorem IG{fD:Addr}{i7:FuncData}(F:cG K "form_of_back" "form_of_back" CM f fd)
  (GD:bz P w K mg base bx 3 fD i7 ["p","rows"] (rq K)) (kD:Kp K fD) (bD:Binds K i7 ["p","rows"] []) (mD:Mg mg "reduced" fD):bz P w K mg base bx 4 f fd ["p","one"] (IE K):=by
 refine F.ok IF (λvs H Q E h=>?_) (λbI A outer s H vs Q E hr h=>?_)
 ·obtain⟨p,a,l,r,x,aN,rfl,_⟩:=h;rfl
 ·obtain⟨p,a,l,r,x,aN,rfl,pp,⟨t,RS,h1,h2,h3⟩,hl,kG,acO,hz,hR,q⟩:=h;have oA:(1000:Nat)≤sizeLine:=by decide
  refine⟨_,bg (cm (i:=2) IF.nd rfl (Or.inr rfl) (bc (cC K rfl) (pv 1) aO (λ_ _=>rfl))) (bg (cm (i:=3) IF.nd rfl (Or.inr rfl) (aY dt (pv 2) (bc (cC K rfl) (pv 1) aO (λ_ _=>rfl)))) (bQ (cI (cE (aJ (bc (cC K rfl) (pv 1) aO (λ_ _=>rfl)) (aJ (pv 2) (aJ (cT GD hr rfl mD kD bD .nil cU (aJ (pv 0) (aJ (fY (N:=["row","behind","left"]) (own:=1) (caps:=[3,2]) rfl (lJ K rfl (bc (cC K rfl) (pv 1) aO (λ_ _=>rfl))) (show dk Zm (bo CM) ["row","behind","left"] 1 [3,2] _ from .mk' (by decide +kernel)) (λ_ _ _ _ _=>cF (i:=0) Zl rfl (.inl rfl)) (λ_ _ _ _ _=>eU) (λ_ _ _ _ _=>aY (ft K rfl) (aY (ft K rfl) (gk (gK K rfl) (pv 0) (fb (pv 2)) (fb (pv 1))) (gk (gK K rfl) (pv 0) iO (fb (pv 2)))) (gk (gK K rfl) (pv 0) (fb (pv 1)) iO))) aQ))) aQ))))))),?_⟩
  have CZ:=gN h3;refine⟨_,rfl,a,_,0,_,rfl,rfl,h1,bE (j:=0) rfl,?_⟩;refine⟨_,rfl,_,rfl,a,_,1,_,rfl,rfl,h1,bE (j:=1) rfl,_,_,rfl,rfl,?_⟩;refine⟨_,rfl,a,_,1,_,rfl,rfl,h1,bE (j:=1) rfl,_,rfl,_,rfl,_,rfl,a,_,2,_,rfl,rfl,h1,bE (j:=2) rfl,t,rfl,⟨_,h2⟩,?_⟩;refine ux (xs:=RS) (cp:=[some (.int ((l:Int)+(r:Int))),some (.int (l:Int))]) (λi H' zs=>br K H' zs (((aN.map (iD l r)).take i).map cw)) h2 (by lia) .nil (λi H' zs h=>by rw[gN h,dv];exact Nat.min_le_left _ _) ?_ ?_
  ·rintro i v H2 zs hv sm h;obtain⟨Pd,ra,kH,rfl,dJ⟩:=oo h3 hv;have cO:=(hR Pd (dY kH)).1;have Zn:(l:Int)+(r:Int)=((l+r:Nat):Int):=by lia
   rw[Zn];refine iC ⟨_,rfl,_,rfl,_,rfl,_,rfl,_,rfl,ra,_,rfl,sm.bq dJ,λt1 H3 s3 uN=>?_⟩;rw[zC (by lia)]at uN;refine⟨_,rfl,_,rfl,_,rfl,ra,_,rfl,(sm.trans s3).bq dJ,λt2 H4 s4 iU=>?_⟩;rw[rF (by lia)]at iU;refine⟨t1,t2,_,_,rfl,rfl,s4.bq uN,iU,by simp only[bj,dv,fE];lia,λt3 H5 s5 wW=>?_⟩;have wX:=s3.trans (s4.trans s5);refine⟨_,rfl,_,rfl,_,rfl,ra,_,rfl,(sm.trans wX).bq dJ,λt4 H6 s6 wY=>?_⟩;rw[sX (by lia)]at wY;refine⟨t3,t4,_,_,rfl,rfl,s6.bq wW,wY,by simp only[bj,cx,dv,fE];lia,λt5 H7 s7 Dh=>?_⟩;have pk:=wX.trans (s6.trans s7);refine⟨⟨[_],rfl,rfl⟩,sm.trans pk,?_⟩;rw[← cY,← cY,gH]at Dh;have e:(aN.map (iD l r))[i]?=some (iD l r Pd):=by rw[du,kH];rfl
   rw[gZ,e];show br K H7 _ (((aN.map (iD l r)).take i++[_]).map cw);rw[cY];exact(h.mono pk).append (.cons (ke Dh) .nil)
  rintro H1 ZS sm hZ lz i8;rw[lB (by rw[bj];lia)]at hZ;have s1:aL H (upd H1 lz (.lst ZS)):=sm.trans (.upd i8);refine⟨p,lz,true,ZS,aN.map (iD l r),r+l+x,rfl,pp,.of aX,hZ.mono (.upd i8),by rw[bj];lia,by lia,λx hx=>?_,λt2 H2 DS s2 iU zE=>?_⟩
  ·obtain⟨y,hy,rfl⟩:=dq.mp hx;exact zD (hR y hy)
  ·refine⟨(by show 3≤sizeLine;lia),λv hv=>q v _ (s1.trans (s2.trans (.upd hv))) ⟨t2,DS,.of aX,(aL.upd hv).bq iU,zE.mono (.upd hv)⟩⟩
theorem Zo:∀e∈e8,e.1 ≠ "back"∧e.1 ≠ "beside"∧e.1 ≠ "then"∧e.1 ≠ "times":=by decide +kernel
theorem mG{x y:Str}(h:x≠y)(b:B):if decide (V.str x=V.str y)=true then A else B:=by
 rw[aa (λz=>h (V.str.inj z))];exact fi b
theorem uO{x:V}(a:A):if decide (x=x)=true then A else B:=by
 rw[aD rfl];exact gQ a
theorem Zp{b:Bool}(h:b=false)(q:B):if(if false=true then !b else b)=true then A else B:=by
 subst h;simpa using q
theorem Pe{ts es:List Expr}{k:Nat}{pos:Pos}{env:Env}:starEach (.Tuple ts k pos::es) env=(false,eval (.Tuple ts k pos) env)::starEach es env:=by rfl
theorem zF{c:Const}{k:Nat}{es:List Expr}{pos:Pos}{env:Env}:starEach (.Constant c k pos::es) env=(false,eval (.Constant c k pos) env)::starEach es env:=by rfl
theorem Zq:("times":Str) ≠ "back":=by decide +kernel
theorem Zr:("times":Str) ≠ "beside":=by decide +kernel
theorem Zs:("times":Str) ≠ "then":=by decide +kernel
inductive Di(K:Frag)(p:Int)(x:Str)(ps:List V)(H:Hp)(Q:VK):Prop where
 |back (a:Addr) (l r e:Nat) (aN:LL) (hx:x="back") (hp:ps=[.ref a]) (hf:dM K H a l r aN) (hl:l≤100) (hr:r≤100) (he:e≤200) (hz:aN.length≤500) (hR:ck p (l+r+e) aN) (q:∀v H',aL H H'→dM K H' v r l (dI p (aN.map (iD l r)))→Q (.ref v) H'):Di K p x ps H Q
 |times (n:Int) (hx:x="times") (hp:ps=[.int n]) (q:∀v H',aL H H'→dM K H' v 1 1 [[1,n]]→Q (.ref v) H'):Di K p x ps H Q
 |box (l r:Nat) (aN:LL) (hx:(x,l,r,aN)∈e8) (q:∀v H',aL H H'→dM K H' v l r aN→Q (.ref v) H'):Di K p x ps H Q
theorem Zt:dj ["p","word","parts"] ["p","word","parts"] (bo HR):=dQ rfl rfl rfl (by decide +kernel) rfl
def Pg(K:Frag):Sp:=λvs H Q _=>∃(aw:Addr)(ws:List V),vs=[.ref aw]∧bh K H aw ws∧ws.all o6=true∧vZ (.str "late") ws=false∧Q .cg H
theorem Zu:dj ["words"] ["words"] (bo HQ):=dQ rfl rfl rfl (by decide +kernel) rfl
theorem Zv(F:cG K "refuse_late" "refuse_late" HQ f fd):bz P w K mg base bx 1 f fd ["words"] (Pg K):=by
 refine F.ok Zu (λvs H Q E h=>?_) (λbI A outer s H vs Q E hr h=>?_)
 ·obtain⟨aw,ws,rfl,_⟩:=h;rfl
 ·obtain⟨aw,ws,rfl,hw,hf,hn,q⟩:=h;refine⟨_,bQ (ee (dg (W8 K rfl) dH (pv 0) rfl) (bQ Up) eK),?_⟩;exact⟨_,rfl,aw,ws,rfl,.inr hw,rfl,hf,_,rfl,Zp hn q⟩
noncomputable def del(Pt:Addr)(H:Hp):Hp:=λb=>if b=Pt then none else H b
section
variable{K:Frag}{H H':Hp}{Pt a b:Addr}{ps:Array Value}{xs:List V}{o:HO}
theorem zG(h:b≠Pt):del Pt H b=H b:=af h
theorem Dj(e:del Pt H b=some o):b≠Pt∧H b=some o:=by
 by_cases hb:b=Pt
 ·rw[del,ae hb]at e;cases e
 ·exact⟨hb,(zG hb).symm.trans e⟩
theorem y9.same(h:y9 Pt H H'):aL (del Pt H) H':=λb o e=>h b o (Dj e).2 (Dj e).1
theorem aL.del(h:aL H H'):aL (del Pt H) (del Pt H'):=λb o e=>by rw[zG (Dj e).1];exact h b o (Dj e).2
theorem Zw(hP:H Pt=some (.fh ps))(e:H b=some o)(hn:∀ps,o≠.fh ps):b≠Pt:=λz=>by
 rw[z,hP]at e;exact hn _ (cN e).symm
theorem oB(hP:H Pt=some (.fh ps))(e:H b=some o)(hn:∀ps,o≠.fh ps):del Pt H b=some o:=by rw[zG (Zw hP e hn)];exact e
theorem bh.del(hP:H Pt=some (.fh ps))(h:bh K H a xs):bh K (del Pt H) a xs:=by
 rcases h with(h|⟨o,h⟩)|h
 ·exact .inl (.inl (oB hP h λ_ z=>nomatch z))
 ·exact .inl (.inr ⟨o,oB hP h λ_ z=>nomatch z⟩)
 ·exact .inr h
theorem dw.del(hP:H Pt=some (.fh ps))(h:dw K H a xs):dw K (del Pt H) a xs:=by
 rcases h with(h|⟨o,h⟩)|h
 ·exact .inl (.inl (oB hP h λ_ z=>nomatch z))
 ·exact .inl (.inr ⟨o,oB hP h λ_ z=>nomatch z⟩)
 ·exact .inr h
mutual
theorem gJ.del(hP:H Pt=some (.fh ps)):∀{v:V}{d:Dat},gJ K H v d→gJ K (S21.del Pt H) v d
 |_,_,.none=>.none
 |_,_,.bool b=>.bool b
 |_,_,.int i=>.int i
 |_,_,.str x=>.str x
 |_,_,.tuple h r=>.tuple (bh.del hP h) (br.del hP r)
 |_,_,.list h r=>.list (dw.del hP h) (br.del hP r)
theorem br.del(hP:H Pt=some (.fh ps)):∀{vs:List V}{ds:List Dat},br K H vs ds→br K (S21.del Pt H) vs ds
 |_,_,.nil=>.nil
 |_,_,.cons h r=>.cons (gJ.del hP h) (br.del hP r)
end
end
theorem _root_.L2.fe.tab{H:Hp}{Pt:Addr}{pos:Pos}{qual:Str}(h:fe H Pt pos qual):∃ps,H Pt=some (.fh ps):=by
 rcases h with h|⟨c,h,_⟩
 ·exact⟨_,h⟩
 ·exact⟨_,h⟩
theorem _root_.L2.fe.mono{H H':Hp}{Pt:Addr}{pos:Pos}{qual:Str}(h:fe H Pt pos qual)(e:aL H H'):fe H' Pt pos qual:=by
 rcases h with h|⟨c,h,h2⟩
 ·exact .inl (e _ _ h)
 ·exact .inr ⟨c,e _ _ h,e _ _ h2⟩
noncomputable def iV(e:Expr):Pos:=match e with
 | .Lambda _ _ _ q=>q
 |_=>⟨0,0,0,0⟩
noncomputable def Ph(e:Expr):Arguments:=match e with
 | .Lambda a _ _ _=>a
 |_=>{ posonlyargs:=[],args:=[],vararg:=none,kwonlyargs:=[],kw_defaults:=[],kwarg:=none,defaults:=[] }
noncomputable def sY(e:Expr):Scope:=match e with
 | .Lambda _ _ s _=>s
 |_=>{ kind:=.function,names:=[],isGenerator:=false,isCoroutine:=false }
noncomputable def Zx(st:Stmt)(i:Nat):Expr:=match(j8 st).getD i (.Pass ⟨0,0,0,0⟩) with
 | .Return (some (.Call _ [_,e] _ _)) _=>e
 |_=>.Constant .none 0 ⟨0,0,0,0⟩
noncomputable abbrev oC:Expr:=Zx kz 1
noncomputable abbrev uP:Str := "forms"++".<locals>."++"<lambda>"
noncomputable def zH(L:Nat):Addr:=((cellsFrom (L+1) (bo kz).names []).lookup ("p":Str)).getD 0
noncomputable abbrev zI(L:Nat):List (Str×Addr):=[("p",zH L)]
theorem Zy{L f:Addr}{bI:Value}:closureFor (sY oC) (PyProof.Rows.envOfC "forms" (bo kz) L f bI)=pure (zI L):=rfl
theorem Pj{L:Nat}:(cellsFrom (L+1) (bo kz).names []).lookup ("p":Str)=some (zH L):=by
 obtain⟨c,hc⟩:=Bz (n:=L+1) (sc:=bo kz) (x := "p") rfl;unfold zH;rw[hc];rfl
theorem Pk{L:Nat}{y:Str}{c:Addr}(h:(zI L).lookup y=some c):y="p":=by
 rcases(cS.mp (nO h))with e|e
 ·cases e;rfl
 ·cases e
theorem Pl{L:Nat}{y:Str}{c:Addr}(h:(zI L).lookup y=some c):(cellsFrom (L+1) (bo kz).names []).lookup y=some c:=by
 have e:=Pk h;subst e;rw[Pj];exact h
theorem Zz{L:Nat}(IH:∀y z c,(cellsFrom (L+1) (bo kz).names []).lookup y=some c→(cellsFrom (L+1) (bo kz).names []).lookup z=some c→y=z):Iu ["place","word","parts"] ["p"] (sY oC) (Ph oC) (zI L):=by
 have fr:∀y∈(["p"]:List Str),(sY oC).names.lookup y=some .free:=by decide +kernel
 have only:∀z∈(sY oC).names,z.2=.free→z.1∈(["p"]:List Str):=by decide +kernel
 refine⟨rfl,rfl,rfl,by decide +kernel,by decide +kernel,by decide +kernel,fr,λy hy=>?_,λy z c h1 h2=>IH y z c (Pl h1) (Pl h2),λy c h=>by rw[Pk h];exact cP⟩;have e:y="p":=cQ.mp (only _ (nO hy) rfl);exact⟨_,by rw[e];rfl⟩
theorem II:mE "back"=1:=by decide +kernel
theorem IJ:mE "times"=1:=by decide +kernel
section
variable{P:Program}{w:World}{K:Frag}{mg:Str→Option Value}{base:Heap}
theorem ZA:dj ["p","words"] ["p","words"] (bo kz):=dQ rfl rfl rfl (by decide +kernel) rfl
theorem ZC:dj ["p","words"] ["p","words"] (bo HP):=dQ rfl rfl rfl (by decide +kernel) rfl
end
def dS(te:TE)(σ:St)(H:Hp)(k:Int):Prop:=∀H',aL H H'→∀R:VK,R (.int k) H'→te σ H' R
def lO(K:Frag)(te:TE)(σ:St)(H:Hp)(ns:List Int):Prop:=∀H',aL H H'→∀R:VK,(∀v ph,aL H' ph→bh K ph v (ns.map V.int)→R (.ref v) ph)→te σ H' R
def Dk(to:TO)(σ:St)(H:Hp)(k:Option Int):Prop:=∀H',aL H H'→∀R:Option Int→Hp→Prop,R k H'→to σ H' R
section
variable{K:Frag}{σ:St}{H:Hp}
theorem jT{k:Int}:dS (tC (.int k)) σ H k:=λ_ _ _ q=>q
theorem e9{i:Nat}{k:Int}(h:σ[i]?=some (some (.int k))):dS (aW i) σ H k:=λ_ _ _ q=>⟨_,h,q⟩
theorem iE{i:Nat}{a:Addr}{xs:List V}{j:Nat}{k:Int}(h:σ[i]?=some (some (.ref a)))(ha:bh K H a xs)(hj:xs[j]?=some (.int k)):dS (cA (pV K) (aW i) (tC (.int (j:Int)))) σ H k:=
 λ_ s _ q=>⟨_,h,a,xs,(j:Int),_,rfl,rfl,s.bq ha,bE hj,q⟩
theorem nF{ta tb:TE}{i j:Int}(h1:dS ta σ H i)(h2:dS tb σ H j):dS (cA (j7 λi j=>.int (i+j)) ta tb) σ H (i+j):=λH' s _ q=>h1 H' s _ (h2 H' s _ ⟨i,j,rfl,rfl,q⟩)
theorem i9{i:Nat}{a:Addr}{ns:List Int}(h:σ[i]?=some (some (.ref a)))(ha:bh K H a (ns.map V.int)):lO K (aW i) σ H ns:=λ_ s _ q=>⟨_,h,q a _ (.refl _) (s.bq ha)⟩
theorem lP:Dk i5 σ H none:=λ_ _ _ q=>q
theorem iq{te:TE}{k:Int}(h:dS te σ H k):Dk (fG te) σ H (some k):=λH' s _ q=>h H' s _ ⟨k,rfl,q⟩
theorem kI{ta tb:TE}{ns ms:List Int}(h1:lO K ta σ H ns)(h2:lO K tb σ H ms)(hl:ns.length+ms.length≤10000):lO K (cA (wB K) ta tb) σ H (ns++ms):=λH' s R q=>by
 have z:(10000:Nat)≤sizeLine:=by decide
 refine h1 H' s _ λa H1 s1 ha=>h2 H1 (s.trans s1) _ λb H2 s2 hb=>?_;refine⟨a,b,_,_,rfl,rfl,s2.bq ha,hb,by simp only[bj];lia,λc H3 s3 hc=>q c H3 (s1.trans (s2.trans s3)) ?_⟩;rw[cY];exact hc
theorem Pm{α:Type}(v:α):∀n:Nat,(List.replicate n [v]).flatten=List.replicate n v
 |0=>rfl
 |n+1=>by rw[pE,vN,Pm v n];rfl
theorem uQ{tk:TE}{k:Nat}(h:dS tk σ H (k:Int))(hk:k≤10000):lO K (cA (B0 K) (eS (aZ (tC (.int 0)) bG)) tk) σ H (List.replicate k 0):=λH' s R q=>by
 have z:(10000:Nat)≤sizeLine:=by decide
 refine⟨by show 1≤sizeLine;decide,λa ha=>?_⟩;have sa:=aL.upd (o:=.tup [.int 0]) ha;refine h _ (s.trans sa) _ ⟨a,(k:Int),[.int 0],rfl,rfl,.of aX,by simp,by lia,by lia,by show 1*(k:Int).toNat≤sizeLine;lia,λc H3 s3 hc=>q c H3 (sa.trans s3) ?_⟩;rw[show(k:Int).toNat=k by lia,Pm]at hc;rw[List.map_replicate];exact hc
theorem jw{te:TE}{tl th:TO}{ns:List Int}{lo hi:Option Int}{ms:List Int}(h:lO K te σ H ns)(h1:Dk tl σ H lo)(h2:Dk th σ H hi)(e:lE (ns.map V.int) lo hi=ms.map V.int):lO K (gP (ij K) te tl th) σ H ms:=λH' s R q=>
 h H' s _ λa H1 s1 ha=>h1 H1 (s.trans s1) _ (h2 H1 (s.trans s1) _ ⟨a,_,rfl,ha,λc H3 s3 hc=>q c H3 (s1.trans s3) (by rw[e]at hc;exact hc)⟩)
end
theorem rG{K:Frag}{H1:Hp}{t:Addr}{RS:List V}{aN:LL}{f:List Int→List Int}{cp:St}{te:TE}{Q:VK}(h2:bh K H1 t RS)(h3:br K H1 RS (aN.map cw))(hz:aN.length≤1000)
  (step:∀row ra H,row∈aN→aL H1 H→bh K H ra (row.map V.int)→lO K te (some (.ref ra)::cp) H (f row))
  (done:∀H ZS,aL H1 H→br K H ZS ((aN.map f).map cw)→∀p,H p=none→Q (.ref p) (upd H p (.lst ZS))) :
  ∃W:Nat→Nat→St→Hp→List V→Prop,(∃m,W 0 m (List.replicate 1 none++cp) H1 [])∧mq (uh K t) (cq 0) iP te Q W:=by
 have oA:(1000:Nat)≤sizeLine:=by decide
 have CZ:=gN h3;refine ux (xs:=RS) (cp:=cp) (λi H' zs=>br K H' zs (((aN.map f).take i).map cw)) h2 (by lia) .nil (λi H' zs h=>by rw[gN h,dv];exact Nat.min_le_left _ _) ?_ ?_
 ·rintro i v H2 zs hv sm h;obtain⟨row,ra,kH,rfl,dJ⟩:=oo h3 hv;refine iC (step row ra H2 (dY kH) sm (sm.bq dJ) H2 (.refl _) _ λu H3 s3 hu=>⟨⟨[_],rfl,rfl⟩,sm.trans s3,?_⟩);have e:(aN.map f)[i]?=some (f row):=by rw[du,kH];rfl
  rw[gZ,e];show br K H3 _ (((aN.map f).take i++[_]).map cw);rw[cY];exact(h.mono s3).append (.cons (ke hu) .nil)
 ·rintro H2 ZS sm hZ lz i8;rw[lB (by rw[bj];lia)]at hZ;exact done H2 ZS sm hZ lz i8
noncomputable def sZ(l r l' r':Nat)(row:List Int):List Int:=row.take l++List.replicate l' 0++(row.drop l).take r++List.replicate r' 0++row.drop (l+r)
noncomputable def tj(l r l':Nat)(row:List Int):List Int:=List.replicate l 0++row.take l'++List.replicate r 0++row.drop l'
noncomputable def nG(l r l' r':Nat)(aN bY:LL):LL:=aN.map (sZ l r l' r')++bY.map (tj l r l')
theorem ZD{p:Int}{l r l' r' x:Nat}{row:List Int}(p0:0<p)(h:Rw p (l+r+x) row):Rw p (l+l'+(r+r')+x) (sZ l r l' r' row):=by
 refine⟨?_,λy hx=>?_⟩
 ·unfold sZ
  have:=h.1
  simp only[cx,dv,fE,gG];lia
 ·unfold sZ at hx;simp only[dm,List.mem_replicate]at hx;rcases hx with(((z|⟨_,rfl⟩)|z)|⟨_,rfl⟩)|z
  ·exact h.2 y (oO z)
  ·lia
  ·exact h.2 y (pL (oO z))
  ·lia
  ·exact h.2 y (pL z)
theorem ZE{p:Int}{l r l' r' x:Nat}{row:List Int}(p0:0<p)(h:Rw p (l'+r'+x) row):Rw p (l+l'+(r+r')+x) (tj l r l' row):=by
 refine⟨?_,λy hx=>?_⟩
 ·unfold tj
  have:=h.1
  simp only[cx,dv,fE,gG];lia
 ·unfold tj at hx;simp only[dm,List.mem_replicate]at hx;rcases hx with((⟨_,rfl⟩|z)|⟨_,rfl⟩)|z
  ·lia
  ·exact h.2 y (oO z)
  ·lia
  ·exact h.2 y (pL z)
theorem zJ{p:Int}{l r l' r' x:Nat}{aN bY:LL}(p0:0<p)(h:ck p (l+r+x) aN)(h':ck p (l'+r'+x) bY):ck p (l+l'+(r+r')+x) (nG l r l' r' aN bY):=λw hx=>by
 rcases(dm.mp hx)with z|z
 ·obtain⟨y,hy,e⟩:=dq.mp z;rw[← e];exact ZD p0 (h y hy)
 ·obtain⟨y,hy,e⟩:=dq.mp z;rw[← e];exact ZE p0 (h' y hy)
theorem ZF:(["row","behind","one","other"]:List Str).Nodup:=by decide +kernel
theorem ZG:(["row","one","other"]:List Str).Nodup:=by decide +kernel
section
variable{P:Program}{w:World}{K:Frag}{mg:Str→Option Value}{base:Heap}
def IK(K:Frag):Sp:=λvs H Q _=>∃(p:Int)(a b:Addr)(l r:Nat)(aN:LL)(l' r':Nat)(bY:LL)(x:Nat),vs=[.int p,.ref a,.ref b]∧p∈cX∧dM K H a l r aN∧dM K H b l' r' bY∧l≤100∧r≤100∧l'≤100∧r'≤100∧x≤200∧aN.length≤400∧bY.length≤400∧ck p (l+r+x) aN∧ck p (l'+r'+x) bY∧
 ∀v H',aL H H'→dM K H' v (l+l') (r+r') (dI p (nG l r l' r' aN bY))→Q (.ref v) H'
noncomputable abbrev Pn:List Str:=["p","one","other","behind","above","below"]
theorem Dl:dj ["p","one","other","behind","above","below"] ["p","one","other"] (bo zi):=dQ rfl rfl rfl (by decide +kernel) rfl
abbrev dD(K:Frag)(i:Nat)(j:Int):TE:=cA (pV K) (aW i) (tC (.int j))
abbrev uR(K:Frag)(tk:TE):TE:=cA (B0 K) (eS (aZ (tC (.int 0)) bG)) tk
abbrev ja(K:Frag)(ta tb:TE):TE:=cA (wB K) ta tb
abbrev kg(ta tb:TE):TE:=cA (j7 λi j=>.int (i+j)) ta tb
def Dm(K:Frag):TE:=ja K (ja K (ja K (ja K (gP (ij K) (aW 0) i5 (fG (dD K 2 0))) (uR K (dD K 3 0))) (gP (ij K) (aW 0) (fG (dD K 2 0)) (fG (aW 1)))) (uR K (dD K 3 1))) (gP (ij K) (aW 0) (fG (aW 1)) i5)
def Dn(K:Frag):TE:=ja K (ja K (ja K (uR K (dD K 1 0)) (gP (ij K) (aW 0) i5 (fG (dD K 2 0)))) (uR K (dD K 1 1))) (gP (ij K) (aW 0) (fG (dD K 2 0)) i5)
theorem ZH{σ:St}{H:Hp}{ra a b:Addr}{row:List Int}{l r l' r' x:Nat}{t t':V}(h0:σ[0]?=some (some (.ref ra)))(h1:σ[1]?=some (some (.int ((l+r:Nat):Int))))(h2:σ[2]?=some (some (.ref a)))(h3:σ[3]?=some (some (.ref b)))
  (hr:bh K H ra (row.map V.int)) (ha:bh K H a [.int (l:Int),.int (r:Int),t]) (hb:bh K H b [.int (l':Int),.int (r':Int),t']) (hl:row.length=l+r+x) (hx:x≤200) (b1:l≤100) (b2:r≤100) (b3:l'≤100) (b4:r'≤100):lO K (Dm K) σ H (sZ l r l' r' row):=by
 have e1:(row.take l).length≤100:=by rw[dv];lia
 have e2:((row.drop l).take r).length≤100:=by rw[dv];lia
 have e3:(row.drop (l+r)).length≤200:=by rw[fE];lia
 refine kI (kI (kI (kI (jw (i9 h0 hr) lP (iq (iE (j:=0) h2 ha rfl)) (rF (by lia))) (uQ (iE (j:=0) h3 hb rfl) (by lia)) ?_) (jw (i9 h0 hr) (iq (iE (j:=0) h2 ha rfl)) (iq (e9 h1)) (zC (by lia))) ?_) (uQ (iE (j:=1) h3 hb rfl) (by lia)) ?_) (jw (i9 h0 hr) (iq (e9 h1)) lP (sX (by lia))) ?_ <;>
  simp only[cx,gG]<;>lia
theorem ZI{σ:St}{H:Hp}{ra a b:Addr}{row:List Int}{l r l' r' x:Nat}{t t':V}(h0:σ[0]?=some (some (.ref ra)))(h2:σ[1]?=some (some (.ref a)))(h3:σ[2]?=some (some (.ref b)))
  (hr:bh K H ra (row.map V.int)) (ha:bh K H a [.int (l:Int),.int (r:Int),t]) (hb:bh K H b [.int (l':Int),.int (r':Int),t']) (hl:row.length=l'+r'+x) (hx:x≤200) (b1:l≤100) (b2:r≤100) (b3:l'≤100) (b4:r'≤100):lO K (Dn K) σ H (tj l r l' row):=by
 have e1:(row.take l').length≤100:=by rw[dv];lia
 have e3:(row.drop l').length≤300:=by rw[fE];lia
 refine kI (kI (kI (uQ (iE (j:=0) h2 ha rfl) (by lia)) (jw (i9 h0 hr) lP (iq (iE (j:=0) h3 hb rfl)) (rF (by lia))) ?_) (uQ (iE (j:=1) h2 ha rfl) (by lia)) ?_) (jw (i9 h0 hr) (iq (iE (j:=0) h3 hb rfl)) lP (sX (by lia))) ?_ <;>
  simp only[cx,gG]<;>lia
def Dp(K:Frag):TS:=cy (dC (kg (dD K 1 0) (dD K 1 1)) (cq 3))
 (cy (dC (j9 (me K (dD K 1 2)) 1 [3,1,2] (cq 0) iP (Dm K)) (cq 4)) (cy (dC (j9 (me K (dD K 2 2)) 1 [1,2] (cq 0) iP (Dn K)) (cq 5)) (eh (eS (aZ (kg (dD K 1 0) (dD K 2 0)) (aZ (kg (dD K 1 1) (dD K 2 1)) (aZ (iY (rq K) [] E0 (aZ (aW 0) (aZ (cA so (aW 4) (aW 5)) bG))) bG)))))))
theorem ZJ{D:Ends}{p:Int}{a b:Addr}{l r:Nat}{aN:LL}{l' r':Nat}{bY:LL}{x:Nat}{H:Hp}(pp:p∈cX)(hf:dM K H a l r aN)(fH:dM K H b l' r' bY)(b1:l≤100)(b2:r≤100)(b3:l'≤100)(b4:r'≤100)(hx:x≤200)(z1:aN.length≤400)(z2:bY.length≤400)(hR:ck p (l+r+x) aN)(gs:ck p (l'+r'+x) bY)
  (q:∀v H',aL H H'→dM K H' v (l+l') (r+r') (dI p (nG l r l' r' aN bY))→D.rt (.ref v) H'):Dp K D [some (.int p),some (.ref a),some (.ref b),none,none,none] H:=by
 obtain⟨t,RS,h1,h2,h3⟩:=hf;obtain⟨t',Dq,qf,wZ,Dr⟩:=fH;have oA:(1000:Nat)≤sizeLine:=by decide
 have p0:0<p:=(fI p pp).1 |> λh=>by lia
 unfold Dp;refine nF (iE (j:=0) rfl h1 rfl) (iE (j:=1) rfl h1 rfl) H (.refl _) _ ?_;refine⟨_,rfl,a,_,2,_,rfl,rfl,h1,bE (j:=2) rfl,t,rfl,⟨_,h2⟩,?_⟩;refine rG (f:=sZ l r l' r') (cp:=[some (.int ((l:Int)+(r:Int))),some (.ref a),some (.ref b)]) h2 h3 (by lia) (λrow ra H1 iF s1 dJ=>ZH rfl (by rw[show((l+r:Nat):Int)=(l:Int)+(r:Int) by lia];rfl) rfl rfl dJ (s1.bq h1) (s1.bq qf) (hR row iF).1 hx b1 b2 b3 b4) ?_;intro H1 ZS s1 hZ la ik;refine⟨_,rfl,b,_,2,_,rfl,rfl,(s1.trans (.upd ik)).bq qf,bE (j:=2) rfl,t',rfl,⟨_,(s1.trans (.upd ik)).bq wZ⟩,?_⟩;have zK:(upd H1 la (.lst ZS)) la=some (.lst ZS):=aX;have uS:=hZ.mono (aL.upd ik (o:=.lst ZS));have sA:aL H (upd H1 la (.lst ZS)):=s1.trans (.upd ik);generalize upd H1 la (.lst ZS)=H2 at zK uS sA ⊢;refine rG (f:=tj l r l') (cp:=[some (.ref a),some (.ref b)]) (sA.bq wZ) (Dr.mono sA) (by lia) (λrow ra H3 iF s3 dJ=>ZI rfl rfl rfl dJ ((sA.trans s3).bq h1) ((sA.trans s3).bq qf) (gs row iF).1 hx b1 b2 b3 b4) ?_;intro H3 YS s3 hY lb tq;have sB:aL H2 (upd H3 lb (.lst YS)):=s3.trans (.upd tq);have tD:(upd H3 lb (.lst YS)) lb=some (.lst YS):=aX;have qg:=hY.mono (aL.upd tq (o:=.lst YS));generalize upd H3 lb (.lst YS)=H4 at sB tD qg ⊢;have sC:=sA.trans sB;refine nF (iE (j:=0) rfl (sC.bq h1) rfl) (iE (j:=0) rfl (sC.bq qf) rfl) H4 (.refl _) _ ?_;refine nF (iE (j:=1) rfl (sC.bq h1) rfl) (iE (j:=1) rfl (sC.bq qf) rfl) H4 (.refl _) _ ?_;have eZ:=gN uS;have eY:=gN qg;rw[bj]at eZ eY;refine⟨_,rfl,_,rfl,_,rfl,la,lb,ZS,YS,rfl,rfl,sB _ _ zK,tD,by lia,λlc zL=>?_⟩;have sD:=aL.upd (o:=.lst (ZS++YS)) zL;refine⟨p,lc,true,ZS++YS,nG l r l' r' aN bY,l+l'+(r+r')+x,rfl,pp,.of aX,?_,by unfold nG;rw[cx,bj,bj];lia,by lia,zJ p0 hR gs,λt2 H5 DS s5 iU zE=>?_⟩
 ·unfold nG;rw[cY];exact((uS.mono sB).mono sD).append (qg.mono sD)
 ·refine⟨(by show 3≤sizeLine;lia),λv hv=>q v _ (sC.trans (sD.trans (s5.trans (.upd hv)))) ⟨t2,DS,?_,(aL.upd hv).bq iU,zE.mono (.upd hv)⟩⟩;refine .of ?_;rw[aX,show((l+l':Nat):Int)=(l:Int)+(l':Int) by lia,show((r+r':Nat):Int)=(r:Int)+(r':Int) by lia]
end
section
variable{P:Program}{w:World}{K:Frag}{mg:Str→Option Value}{base:Heap}
theorem IM{f fD:Addr}{fd i7:FuncData}(F:cG K "form_of_beside" "form_of_beside" zi f fd)
  (GD:bz P w K mg base bx 3 fD i7 ["p","rows"] (rq K)) (kD:Kp K fD) (bD:Binds K i7 ["p","rows"] []) (mD:Mg mg "reduced" fD):bz P w K mg base bx 4 f fd ["p","one","other"] (IK K):=by
 refine F.ok Dl (λvs H Q E h=>?_) (λbI A outer s H vs Q E hr h=>?_)
 ·obtain⟨p,a,b,l,r,aN,l',r',bY,x,rfl,_⟩:=h;rfl
 ·obtain⟨p,a,b,l,r,aN,l',r',bY,x,rfl,pp,hf,fH,b1,b2,b3,b4,hx,z1,z2,hR,gs,q⟩:=h;refine⟨Dp K,?_,?_⟩
  ·unfold Dp;refine bg ?_ ?_
   ·refine cm (i:=3) (te:=kg (dD K 1 0) (dD K 1 1)) ?_ ?_ ?_ ?_ ?_ ?_
    ·exact Dl.nd
    ·rfl
    ·exact Or.inr rfl
    ·exact aY dt (bc (cC K rfl) (pv 1) aO (λ_ _=>rfl)) (bc (cC K rfl) (pv 1) aO (λ_ _=>rfl))
    ·rfl
    ·exact .inl rfl
   refine bg ?_ ?_
   ·refine nY (N:=["row","behind","one","other"]) (own:=1) (caps:=[3,1,2]) (i:=4) (te:=Dm K) rfl Dl.nd rfl rfl ?_ ?_ ?_ ?_ ?_
    ·exact lJ K rfl (bc (cC K rfl) (pv 1) aO (λ_ _=>rfl))
    ·exact(show dk Pn (bo zi) ["row","behind","one","other"] 1 [3,1,2] _ from .mk' (by decide +kernel))
    ·exact λ_ _ _ _ _=>cF (i:=0) ZF rfl (.inl rfl)
    ·exact λ_ _ _ _ _=>eU
    ·intro _ _ _ _ _;unfold Dm;refine aY (ft K rfl) ?_ ?_
     ·refine aY (ft K rfl) ?_ ?_
      ·refine aY (ft K rfl) ?_ ?_
       ·refine aY (ft K rfl) ?_ ?_
        ·exact gk (gK K rfl) (pv 0) iO (fb (bc (cC K rfl) (pv 2) aO (λ_ _=>rfl)))
        ·exact aY (og K rfl) (cE (aJ aO aQ)) (bc (cC K rfl) (pv 3) aO (λ_ _=>rfl))
       ·exact gk (gK K rfl) (pv 0) (fb (bc (cC K rfl) (pv 2) aO (λ_ _=>rfl))) (fb (pv 1))
      ·exact aY (og K rfl) (cE (aJ aO aQ)) (bc (cC K rfl) (pv 3) aO (λ_ _=>rfl))
     ·exact gk (gK K rfl) (pv 0) (fb (pv 1)) iO
   refine bg ?_ ?_
   ·refine nY (N:=["row","one","other"]) (own:=1) (caps:=[1,2]) (i:=5) (te:=Dn K) rfl Dl.nd rfl rfl ?_ ?_ ?_ ?_ ?_
    ·exact lJ K rfl (bc (cC K rfl) (pv 2) aO (λ_ _=>rfl))
    ·exact(show dk Pn (bo zi) ["row","one","other"] 1 [1,2] _ from .mk' (by decide +kernel))
    ·exact λ_ _ _ _ _=>cF (i:=0) ZG rfl (.inl rfl)
    ·exact λ_ _ _ _ _=>eU
    ·intro _ _ _ _ _;unfold Dn;refine aY (ft K rfl) ?_ ?_
     ·refine aY (ft K rfl) ?_ ?_
      ·refine aY (ft K rfl) ?_ ?_
       ·exact aY (og K rfl) (cE (aJ aO aQ)) (bc (cC K rfl) (pv 1) aO (λ_ _=>rfl))
       ·exact gk (gK K rfl) (pv 0) iO (fb (bc (cC K rfl) (pv 2) aO (λ_ _=>rfl)))
      ·exact aY (og K rfl) (cE (aJ aO aQ)) (bc (cC K rfl) (pv 1) aO (λ_ _=>rfl))
     ·exact gk (gK K rfl) (pv 0) (fb (bc (cC K rfl) (pv 2) aO (λ_ _=>rfl))) iO
   refine bQ ?_;refine cI (te:=eS (aZ (kg (dD K 1 0) (dD K 2 0)) (aZ (kg (dD K 1 1) (dD K 2 1)) (aZ (iY (rq K) [] E0 (aZ (aW 0) (aZ (cA so (aW 4) (aW 5)) bG))) bG)))) ?_;refine cE ?_;refine aJ ?_ ?_ ?_
   ·exact aY dt (bc (cC K rfl) (pv 1) aO (λ_ _=>rfl)) (bc (cC K rfl) (pv 2) aO (λ_ _=>rfl))
   ·refine aJ ?_ ?_ ?_
    ·exact aY dt (bc (cC K rfl) (pv 1) aO (λ_ _=>rfl)) (bc (cC K rfl) (pv 2) aO (λ_ _=>rfl))
    ·refine aJ ?_ aQ ?_
     ·exact cT GD hr rfl mD kD bD .nil cU (aJ (pv 0) (aJ (aY o8 (pv 4) (pv 5)) aQ))
     ·rfl
    ·rfl
   ·rfl
  ·exact ZJ pp hf fH b1 b2 b3 b4 hx z1 z2 hR gs q
end
noncomputable def tE(l m r':Nat)(row:List Int):List Int:=(row.drop l).take m++row.take l++List.replicate r' 0++row.drop (l+m)
noncomputable def tF(p:Int)(l m:Nat)(row:List Int):List Int:=(row.take m).map (λn=>(-n)%p)++List.replicate l 0++row.drop m
noncomputable def pq(p:Int)(l m r':Nat)(aN bY:LL):LL:=aN.map (tE l m r')++bY.map (tF p l m)
noncomputable def oD(m:Nat)(row:List Int):Bool:=!((row.take m).any λn=>n != 0)
noncomputable def nH(p:Int)(l m r':Nat)(aN bY:LL):LL:=((dI p (pq p l m r' aN bY)).filter (oD m)).map (λrow=>row.drop m)
theorem ZK{p:Int}{l m r' x:Nat}{row:List Int}(p0:0<p)(h:Rw p (l+m+x) row):Rw p (m+(l+r')+x) (tE l m r' row):=by
 refine⟨?_,λy hx=>?_⟩
 ·unfold tE
  have:=h.1
  simp only[cx,dv,fE,gG];lia
 ·unfold tE at hx;simp only[dm,List.mem_replicate]at hx;rcases hx with((z|z)|⟨_,rfl⟩)|z
  ·exact h.2 y (pL (oO z))
  ·exact h.2 y (oO z)
  ·lia
  ·exact h.2 y (pL z)
theorem ZL{p:Int}{l m r' x:Nat}{row:List Int}(p0:0<p)(h:Rw p (m+r'+x) row):Rw p (m+(l+r')+x) (tF p l m row):=by
 refine⟨?_,λy hx=>?_⟩
 ·unfold tF
  have:=h.1
  simp only[cx,bj,dv,fE,gG];lia
 ·unfold tF at hx;simp only[dm,List.mem_replicate,dq]at hx;rcases hx with(⟨w,_,rfl⟩|⟨_,rfl⟩)|z
  ·exact⟨lY _ (by lia),lZ _ p0⟩
  ·lia
  ·exact h.2 y (pL z)
theorem zM{p:Int}{l m r' x:Nat}{aN bY:LL}(p0:0<p)(h:ck p (l+m+x) aN)(h':ck p (m+r'+x) bY):ck p (m+(l+r')+x) (pq p l m r' aN bY):=λw hx=>by
 rcases(dm.mp hx)with z|z
 ·obtain⟨y,hy,e⟩:=dq.mp z;rw[← e];exact ZK p0 (h y hy)
 ·obtain⟨y,hy,e⟩:=dq.mp z;rw[← e];exact ZL p0 (h' y hy)
theorem Po{p:Int}(pp:p∈cX){l m r' x:Nat}{aN bY:LL}(h:ck p (l+m+x) aN)(h':ck p (m+r'+x) bY):ck p (l+r'+x) (nH p l m r' aN bY):=λw hx=>by
 have p0:0<p:=by have:=fI p pp;lia
 obtain⟨y,hy,e⟩:=dq.mp hx;have BL:=(jr pp (zM p0 h h')).rws y (jZ.mp hy).1;rw[← e];refine⟨by rw[fE,BL.1];lia,λz hz=>BL.2 z (pL hz)⟩
theorem Pp{p:Int}(pp:p∈cX){l m r' x:Nat}{aN bY:LL}(h:ck p (l+m+x) aN)(h':ck p (m+r'+x) bY):(nH p l m r' aN bY).length≤m+(l+r')+x:=by
 have p0:0<p:=by have:=fI p pp;lia
 have:=sS (zM p0 h h')
 unfold nH;rw[bj];exact eJ (vP _ _) this
theorem ZM:(["row","behind","left","other"]:List Str).Nodup:=by decide +kernel
theorem ZN:(["row","between","left","p"]:List Str).Nodup:=by decide +kernel
theorem ZO:(["number","p"]:List Str).Nodup:=by decide +kernel
theorem ZP:(["row","between"]:List Str).Nodup:=by decide +kernel
section
variable{P:Program}{w:World}{K:Frag}{mg:Str→Option Value}{base:Heap}
def w4(K:Frag):List V→Hp→VK→Prop:=λxs H Q=>∃p ys,xs=[.ref p]∧((dw K H p ys∧∀l,H l=none→Q (.ref l) (upd H l (.tup ys)))∨(bh K H p ys∧Q (.ref p) H))
def Ds(K:Frag):TE:=lD (w4 K) (aZ (j9 (me K (gP (ij K) (aW 0) i5 (fG (aW 1)))) 1 [3] (cq 0) iP (cA (rI (λ_ j=>0<j) λi j=>.int (i%j)) (Fx (rU λi=>.int (-i)) (aW 0)) (aW 1))) bG)
def Dt(K:Frag):TE:=ja K (ja K (ja K (gP (ij K) (aW 0) (fG (aW 2)) (fG (aW 1))) (gP (ij K) (aW 0) i5 (fG (aW 2)))) (uR K (dD K 3 1))) (gP (ij K) (aW 0) (fG (aW 1)) i5)
def Du(K:Frag):TE:=ja K (ja K (Ds K) (uR K (aW 2))) (gP (ij K) (aW 0) (fG (aW 1)) i5)
theorem ZQ{H1:Hp}{t:Addr}{ns:List Int}{g:Int→Int}{cp:St}{te:TE}{Q:VK}(h2:bh K H1 t (ns.map V.int))(hz:ns.length≤1000)(step:∀n H,aL H1 H→dS te (some (.int n)::cp) H (g n))
  (done:∀H,aL H1 H→∀p,H p=none→Q (.ref p) (upd H p (.lst ((ns.map g).map V.int)))) :
  ∃W:Nat→Nat→St→Hp→List V→Prop,(∃m,W 0 m (List.replicate 1 none++cp) H1 [])∧mq (uh K t) (cq 0) iP te Q W:=by
 have oA:(1000:Nat)≤sizeLine:=by decide
 refine ux (xs:=ns.map V.int) (cp:=cp) (λi H' zs=>zs=((ns.take i).map g).map V.int) h2 (by rw[bj];lia) (by simp) (λi H' zs h=>by rw[h,bj,bj,dv];exact Nat.min_le_left _ _) ?_ ?_
 ·rintro i v H2 zs hv sm rfl;rw[du]at hv;cases e:ns[i]? with
  |none=>rw[e]at hv;cases hv
  |some n=>
   rw[e]at hv;cases hv;refine iC (step n H2 sm H2 (.refl _) _ ⟨⟨[_],rfl,rfl⟩,sm,?_⟩);rw[gZ,e];simp
 ·rintro H2 zs sm rfl lz i8;rw[bj,lB (cf _)];exact done H2 sm lz i8
theorem ZR{σ:St}{H:Hp}{ra:Addr}{row:List Int}{m:Nat}{p:Int}(h0:σ[0]?=some (some (.ref ra)))(h1:σ[1]?=some (some (.int (m:Int))))(h3:σ[3]?=some (some (.int p)))(hr:bh K H ra (row.map V.int))(hm:m≤row.length)(hl:row.length≤1000)(p0:0<p) :
  lO K (Ds K) σ H ((row.take m).map λn=>(-n)%p):=λH' s R q=>by
 unfold Ds lD;refine jw (K:=K) (ms:=row.take m) (i9 h0 hr) lP (iq (e9 h1)) (rF hm) H' s _ λt H1 s1 ht=>⟨t,rfl,⟨_,ht⟩,?_⟩;have eb:pY 1 [3] σ=List.replicate 1 none++[some (.int p)]:=by simp[pY,h3]
 rw[eb];refine ZQ (g:=λn=>(-n)%p) (cp:=[some (.int p)]) ht (by rw[dv];lia) (λn H2 s2 H3 s3 R' q'=>⟨_,rfl,n,rfl,_,rfl,-n,p,rfl,rfl,p0,q'⟩) ?_;intro H2 s2 l w6;refine⟨l,_,rfl,.inl ⟨.of aX,λv hv=>q v _ (s1.trans (s2.trans ((aL.upd w6).trans (.upd hv)))) (.of aX)⟩⟩
theorem ZT{σ:St}{H:Hp}{ra b:Addr}{row:List Int}{l m r' e:Nat}{x t':V}(h0:σ[0]?=some (some (.ref ra)))(h1:σ[1]?=some (some (.int ((l+m:Nat):Int))))(h2:σ[2]?=some (some (.int (l:Int))))(h3:σ[3]?=some (some (.ref b)))
  (hr:bh K H ra (row.map V.int)) (hb:bh K H b [x,.int (r':Int),t']) (hl:row.length=l+m+e) (he:e≤200) (b1:l≤100) (b2:m≤100) (b4:r'≤100):lO K (Dt K) σ H (tE l m r' row):=by
 have e1:(row.take l).length≤100:=by rw[dv];lia
 have e2:((row.drop l).take m).length≤100:=by rw[dv];lia
 have e3:(row.drop (l+m)).length≤200:=by rw[fE];lia
 refine kI (kI (kI (jw (i9 h0 hr) (iq (e9 h2)) (iq (e9 h1)) (zC (by lia))) (jw (i9 h0 hr) lP (iq (e9 h2)) (rF (by lia))) ?_) (uQ (iE (j:=1) h3 hb rfl) (by lia)) ?_) (jw (i9 h0 hr) (iq (e9 h1)) lP (sX (by lia))) ?_ <;>
  (try simp only[cx,gG])<;>lia
theorem ZU{σ:St}{H:Hp}{ra:Addr}{row:List Int}{l m r' e:Nat}{p:Int}(h0:σ[0]?=some (some (.ref ra)))(h1:σ[1]?=some (some (.int (m:Int))))(h2:σ[2]?=some (some (.int (l:Int))))(h3:σ[3]?=some (some (.int p)))
  (hr:bh K H ra (row.map V.int)) (hl:row.length=m+r'+e) (he:e≤200) (b1:l≤100) (b2:m≤100) (b4:r'≤100) (p0:0<p):lO K (Du K) σ H (tF p l m row):=by
 have e1:((row.take m).map λn=>(-n)%p).length≤100:=by rw[bj,dv];lia
 have e3:(row.drop m).length≤300:=by rw[fE];lia
 refine kI (kI (ZR h0 h1 h3 hr (by lia) (by lia) p0) (uQ (e9 h2) (by lia)) ?_) (jw (i9 h0 hr) (iq (e9 h1)) lP (sX (by lia))) ?_ <;>
  (try simp only[cx,gG])<;>lia
def IP(K:Frag):Sp:=λvs H Q _=>∃(p:Int)(a b:Addr)(l m:Nat)(aN:LL)(r':Nat)(bY:LL)(e:Nat),vs=[.int p,.ref a,.ref b]∧p∈cX∧dM K H a l m aN∧dM K H b m r' bY∧l≤100∧m≤100∧r'≤100∧e≤200∧aN.length≤400∧bY.length≤400∧ck p (l+m+e) aN∧ck p (m+r'+e) bY∧
 ∀v H' ZS,aL H H'→H' v=some (.lst ZS)→br K H' ZS ((pq p l m r' aN bY).map cw)→Q (.ref v) H'
noncomputable abbrev Pq:List Str:=["p","one","other","left","between","behind","ahead","follow"]
theorem w8:dj ["p","one","other","left","between","behind","ahead","follow"] ["p","one","other"] (bo zj):=dQ rfl rfl rfl (by decide +kernel) rfl
def Dv(K:Frag):TS:=cy (dC (dD K 1 0) (cq 3)) (cy (dC (dD K 1 1) (cq 4)) (cy (dC (kg (aW 3) (aW 4)) (cq 5)) (cy (dC (j9 (me K (dD K 1 2)) 1 [5,3,2] (cq 0) iP (Dt K)) (cq 6)) (cy (dC (j9 (me K (dD K 2 2)) 1 [4,3,0] (cq 0) iP (Du K)) (cq 7)) (eh (cA so (aW 6) (aW 7)))))))
theorem ZV{D:Ends}{p:Int}{a b:Addr}{l m:Nat}{aN:LL}{r':Nat}{bY:LL}{e:Nat}{H:Hp}(pp:p∈cX)(hf:dM K H a l m aN)(fH:dM K H b m r' bY)(b1:l≤100)(b2:m≤100)(b4:r'≤100)(he:e≤200)(z1:aN.length≤400)(z2:bY.length≤400)(hR:ck p (l+m+e) aN)(gs:ck p (m+r'+e) bY)
  (q:∀v H' ZS,aL H H'→H' v=some (.lst ZS)→br K H' ZS ((pq p l m r' aN bY).map cw)→D.rt (.ref v) H'):Dv K D [some (.int p),some (.ref a),some (.ref b),none,none,none,none,none] H:=by
 obtain⟨t,RS,h1,h2,h3⟩:=hf;obtain⟨t',Dq,qf,wZ,Dr⟩:=fH;have oA:(1000:Nat)≤sizeLine:=by decide
 have p0:0<p:=by have:=fI p pp;lia
 unfold Dv;refine iE (j:=0) rfl h1 rfl H (.refl _) _ ?_;refine iE (j:=1) rfl h1 rfl H (.refl _) _ ?_;refine nF (i:=(l:Int)) (j:=(m:Int)) (e9 rfl) (e9 rfl) H (.refl _) _ ?_;refine⟨_,rfl,a,_,2,_,rfl,rfl,h1,bE (j:=2) rfl,t,rfl,⟨_,h2⟩,?_⟩;refine rG (f:=tE l m r') (cp:=[some (.int ((l:Int)+(m:Int))),some (.int (l:Int)),some (.ref b)]) h2 h3 (by lia) (λrow ra H1 iF s1 dJ=>ZT rfl (by rw[show((l+m:Nat):Int)=(l:Int)+(m:Int) by lia];rfl) rfl rfl dJ (s1.bq qf) (hR row iF).1 he b1 b2 b4) ?_;intro H1 ZS s1 hZ la ik;refine⟨_,rfl,b,_,2,_,rfl,rfl,(s1.trans (.upd ik)).bq qf,bE (j:=2) rfl,t',rfl,⟨_,(s1.trans (.upd ik)).bq wZ⟩,?_⟩;have zK:(upd H1 la (.lst ZS)) la=some (.lst ZS):=aX;have uS:=hZ.mono (aL.upd ik (o:=.lst ZS));have sA:aL H (upd H1 la (.lst ZS)):=s1.trans (.upd ik);generalize upd H1 la (.lst ZS)=H2 at zK uS sA ⊢;refine rG (f:=tF p l m) (cp:=[some (.int (m:Int)),some (.int (l:Int)),some (.int p)]) (sA.bq wZ) (Dr.mono sA) (by lia) (λrow ra H3 iF s3 dJ=>ZU (r':=r') rfl rfl rfl rfl dJ (gs row iF).1 he b1 b2 b4 p0) ?_;intro H3 YS s3 hY lb tq;have sB:aL H2 (upd H3 lb (.lst YS)):=s3.trans (.upd tq);have tD:(upd H3 lb (.lst YS)) lb=some (.lst YS):=aX;have qg:=hY.mono (aL.upd tq (o:=.lst YS));generalize upd H3 lb (.lst YS)=H4 at sB tD qg ⊢;have eZ:=gN uS;have eY:=gN qg;rw[bj]at eZ eY;refine⟨_,rfl,_,rfl,la,lb,ZS,YS,rfl,rfl,sB _ _ zK,tD,by lia,λlc zL=>?_⟩;have sD:=aL.upd (o:=.lst (ZS++YS)) zL;refine q lc _ (ZS++YS) (sA.trans (sB.trans sD)) aX ?_;unfold pq;rw[cY];exact((uS.mono sB).mono sD).append (qg.mono sD)
end
section
variable{P:Program}{w:World}{K:Frag}{mg:Str→Option Value}{base:Heap}
theorem IQ{f:Addr}{fd:FuncData}(F:cG K "facing" "facing" zj f fd)(T:Txt mg):bz P w K mg base bx 1 f fd ["p","one","other"] (IP K):=by
 refine F.ok w8 (λvs H Q E h=>?_) (λbI A outer s H vs Q E hr h=>?_)
 ·obtain⟨p,a,b,l,r,aN,r',bY,e,rfl,_⟩:=h;rfl
 ·obtain⟨p,a,b,l,m,aN,r',bY,e,rfl,pp,hf,fH,b1,b2,b4,he,z1,z2,hR,gs,q⟩:=h;refine⟨Dv K,?_,?_⟩
  ·unfold Dv;refine bg ?_ ?_
   ·exact cm (i:=3) w8.nd rfl (Or.inr rfl) (bc (cC K rfl) (pv 1) aO (λ_ _=>rfl))
   refine bg ?_ ?_
   ·exact cm (i:=4) w8.nd rfl (Or.inr rfl) (bc (cC K rfl) (pv 1) aO (λ_ _=>rfl))
   refine bg ?_ ?_
   ·exact cm (i:=5) w8.nd rfl (Or.inr rfl) (aY dt (pv 3) (pv 4))
   refine bg ?_ ?_
   ·refine nY (N:=["row","behind","left","other"]) (own:=1) (caps:=[5,3,2]) (i:=6) (te:=Dt K) rfl w8.nd rfl rfl ?_ ?_ ?_ ?_ ?_
    ·exact lJ K rfl (bc (cC K rfl) (pv 1) aO (λ_ _=>rfl))
    ·exact(show dk Pq (bo zj) ["row","behind","left","other"] 1 [5,3,2] _ from .mk' (by decide +kernel))
    ·exact λ_ _ _ _ _=>cF (i:=0) ZM rfl (.inl rfl)
    ·exact λ_ _ _ _ _=>eU
    ·intro _ _ _ _ _;unfold Dt;refine aY (ft K rfl) ?_ ?_
     ·refine aY (ft K rfl) ?_ ?_
      ·refine aY (ft K rfl) ?_ ?_
       ·exact gk (gK K rfl) (pv 0) (fb (pv 2)) (fb (pv 1))
       ·exact gk (gK K rfl) (pv 0) iO (fb (pv 2))
      ·exact aY (og K rfl) (cE (aJ aO aQ)) (bc (cC K rfl) (pv 3) aO (λ_ _=>rfl))
     ·exact gk (gK K rfl) (pv 0) (fb (pv 1)) iO
   refine bg ?_ ?_
   ·refine nY (N:=["row","between","left","p"]) (own:=1) (caps:=[4,3,0]) (i:=7) (te:=Du K) rfl w8.nd rfl rfl ?_ ?_ ?_ ?_ ?_
    ·exact lJ K rfl (bc (cC K rfl) (pv 2) aO (λ_ _=>rfl))
    ·exact(show dk Pq (bo zj) ["row","between","left","p"] 1 [4,3,0] _ from .mk' (by decide +kernel))
    ·exact λ_ _ _ _ _=>cF (i:=0) ZN rfl (.inl rfl)
    ·exact λ_ _ _ _ _=>eU
    ·intro _ _ _ _ _;unfold Du;refine aY (ft K rfl) ?_ ?_
     ·refine aY (ft K rfl) ?_ ?_
      ·unfold Ds;refine mi (o9 K rfl) rfl T.tuple pb ?_;refine aJ ?_ aQ ?_
       ·refine fY (N:=["number","p"]) (own:=1) (caps:=[3]) rfl ?_ ?_ ?_ ?_ ?_
        ·exact lJ K rfl (gk (gK K rfl) (pv 0) iO (fb (pv 1)))
        ·exact(dk.mk' (by kernel_rfl))
        ·exact λ_ _ _ _ _=>cF (i:=0) ZO rfl (.inl rfl)
        ·exact λ_ _ _ _ _=>eU
        ·exact λ_ _ _ _ _=>aY gj (pR pS (pv 0)) (pv 1)
       ·rfl
      ·exact aY (og K rfl) (cE (aJ aO aQ)) (pv 2)
     ·exact gk (gK K rfl) (pv 0) (fb (pv 1)) iO
   refine bQ ?_;exact cI (te:=cA so (aW 6) (aW 7)) (aY o8 (pv 6) (pv 7))
  ·exact ZV pp hf fH b1 b2 b4 he z1 z2 hR gs q
end
section
variable{P:Program}{w:World}{K:Frag}{mg:Str→Option Value}{base:Heap}
def IS(K:Frag):Sp:=λvs H Q _=>∃(p:Int)(a b:Addr)(l m:Nat)(aN:LL)(r':Nat)(bY:LL)(e:Nat),vs=[.int p,.ref a,.ref b]∧p∈cX∧dM K H a l m aN∧dM K H b m r' bY∧l≤100∧m≤100∧r'≤100∧e≤200∧aN.length≤400∧bY.length≤400∧ck p (l+m+e) aN∧ck p (m+r'+e) bY∧
 ∀v H',aL H H'→dM K H' v l r' (nH p l m r' aN bY)→Q (.ref v) H'
noncomputable abbrev ZW:List Str:=["p","one","other","between","met"]
theorem IT:dj ["p","one","other","between","met"] ["p","one","other"] (bo CN):=dQ rfl rfl rfl (by decide +kernel) rfl
def ZX(K:Frag):List V→Hp→VK→Prop:=λxs H Q=>∃p ns,xs=[.ref p]∧bh K H p (List.map V.int ns)∧Q (.bl (ns.any λn=>n != 0)) H
def IU(K:Frag):TT:=Fl (tB (lD (ZX K) (aZ (gP (ij K) (aW 0) i5 (fG (aW 1))) bG)))
def IV(K:Frag):TE:=gP (ij K) (aW 0) (fG (aW 1)) i5
def Dw(K:Frag):TS:=cy (dC (dD K 1 1) (cq 3))
 (cy (dC (j9 (me K (iY (rq K) [] E0 (aZ (aW 0) (aZ (iY (IP K) [] E0 (aZ (aW 0) (aZ (aW 1) (aZ (aW 2) bG)))) bG)))) 1 [3] (cq 0) (IU K) (IV K)) (cq 4)) (eh (eS (aZ (dD K 1 0) (aZ (dD K 2 1) (aZ (lD (w4 K) (aZ (aW 4) bG)) bG))))))
theorem ZY{H1:Hp}{t:Addr}{RS:List V}{aN:LL}{g:List Int→Bool}{f:List Int→List Int}{cp:St}{tt:TT}{te:TE}{Q:VK}(h2:bh K H1 t RS)(h3:br K H1 RS (aN.map cw))(hz:aN.length≤1000)
  (test:∀row ra H,row∈aN→aL H1 H→bh K H ra (row.map V.int)→∀R:Bool→Hp→Prop,(∀H',aL H H'→R (g row) H')→tt (some (.ref ra)::cp) H R)
  (step:∀row ra H,row∈aN→aL H1 H→bh K H ra (row.map V.int)→lO K te (some (.ref ra)::cp) H (f row))
  (done:∀H ZS,aL H1 H→br K H ZS (((aN.filter g).map f).map cw)→∀p,H p=none→Q (.ref p) (upd H p (.lst ZS))) :
  ∃W:Nat→Nat→St→Hp→List V→Prop,(∃m,W 0 m (List.replicate 1 none++cp) H1 [])∧mq (uh K t) (cq 0) tt te Q W:=by
 have oA:(1000:Nat)≤sizeLine:=by decide
 have CZ:=gN h3;refine ux (xs:=RS) (cp:=cp) (λi H' zs=>br K H' zs ((((aN.take i).filter g).map f).map cw)) h2 (by lia) .nil (λi H' zs h=>by rw[gN h,bj];exact eJ (vP _ _) (by rw[dv];exact Nat.min_le_left _ _)) ?_ ?_
 ·rintro i v H2 zs hv sm h;obtain⟨row,ra,kH,rfl,dJ⟩:=oo h3 hv;have hm:=dY kH;refine test row ra H2 hm sm (sm.bq dJ) _ λH3 s3=>?_;have et:(aN.take (i+1)).filter g=(aN.take i).filter g++[row].filter g:=by
   rw[gZ,kH];exact pI ..
  cases hg:g row with
  |true=>
   refine gQ (step row ra H3 hm (sm.trans s3) ((sm.trans s3).bq dJ) H3 (.refl _) _ λu H4 s4 hu=>⟨⟨[_],rfl,rfl⟩,sm.trans (s3.trans s4),?_⟩);show br K H4 _ ((((aN.take (i+1)).filter g).map f).map cw);rw[et,List.filter_cons,hg,ae rfl,pJ,cY,cY];exact(h.mono (s3.trans s4)).append (.cons (ke hu) .nil)
  |false=>
   refine fi ⟨⟨[_],rfl,rfl⟩,sm.trans s3,?_⟩;show br K H3 _ ((((aN.take (i+1)).filter g).map f).map cw);rw[et,List.filter_cons,hg,af (by decide),pJ,iK];exact h.mono s3
 ·rintro H2 ZS sm hZ lz i8;rw[lB (by lia)]at hZ;exact done H2 ZS sm hZ lz i8
theorem ZZ{D:Ends}{p:Int}{a b:Addr}{l m:Nat}{aN:LL}{r':Nat}{bY:LL}{e:Nat}{H:Hp}(pp:p∈cX)(hf:dM K H a l m aN)(fH:dM K H b m r' bY)(b1:l≤100)(b2:m≤100)(b4:r'≤100)(he:e≤200)(z1:aN.length≤400)(z2:bY.length≤400)(hR:ck p (l+m+e) aN)(gs:ck p (m+r'+e) bY)
  (q:∀v H',aL H H'→dM K H' v l r' (nH p l m r' aN bY)→D.rt (.ref v) H'):Dw K D [some (.int p),some (.ref a),some (.ref b),none,none] H:=by
 have oA:(1000:Nat)≤sizeLine:=by decide
 have p0:0<p:=by have:=fI p pp;lia
 have hF:=zM p0 hR gs;have RO:=jr pp hF;have cO:=sS hF;obtain⟨t,RS,h1,h2,h3⟩:=id hf;obtain⟨t',Dq,qf,wZ,Dr⟩:=id fH;unfold Dw;refine iE (j:=1) rfl h1 rfl H (.refl _) _ ?_;refine⟨_,rfl,_,rfl,_,rfl,_,rfl,p,a,b,l,m,aN,r',bY,e,rfl,pp,hf,fH,b1,b2,b4,he,z1,z2,hR,gs,λlf H1 ZS s1 zN hZ=>?_⟩;refine⟨p,lf,true,ZS,pq p l m r' aN bY,m+(l+r')+e,rfl,pp,.of zN,hZ,by unfold pq;rw[cx,bj,bj];lia,by lia,hF,λt2 H2 DS s2 iU zE=>?_⟩;refine⟨t2,rfl,⟨_,iU⟩,?_⟩;have sA:=s1.trans s2;refine ZY (g:=oD m) (f:=λrow=>row.drop m) (cp:=[some (.int (m:Int))]) iU zE (by lia) (λrow ra H3 iF s3 dJ R Z0=>?_) (λrow ra H3 iF s3 dJ=>?_) ?_
 ·have hl:=(RO.rws row iF).1;refine jw (K:=K) (ms:=row.take m) (i9 rfl dJ) lP (iq (e9 rfl)) (rF (by lia)) H3 (.refl _) _ λu H4 s4 hu=>?_;exact⟨u,row.take m,rfl,hu,_,rfl,Z0 H4 s4⟩
 ·have hl:=(RO.rws row iF).1;exact jw (K:=K) (i9 rfl dJ) (iq (e9 rfl)) lP (sX (by lia))
 intro H3 YS s3 hY lb tq;have sB:aL H2 (upd H3 lb (.lst YS)):=s3.trans (.upd tq);have tD:(upd H3 lb (.lst YS)) lb=some (.lst YS):=aX;have qg:=hY.mono (aL.upd tq (o:=.lst YS));generalize upd H3 lb (.lst YS)=H4 at sB tD qg ⊢;have sC:=sA.trans sB;refine iE (j:=0) rfl (sC.bq h1) rfl H4 (.refl _) _ ?_;refine iE (j:=1) rfl (sC.bq qf) rfl H4 (.refl _) _ ?_;refine⟨_,rfl,lb,YS,rfl,.inl ⟨.of tD,λtt Dx=>⟨(by show 3≤sizeLine;lia),λv hv=>?_⟩⟩⟩;have sv:=(aL.upd (o:=.tup YS) Dx).trans (aL.upd hv (o:=.tup [.int (l:Int),.int (r':Int),.ref tt]));exact q v _ (sC.trans sv) ⟨tt,YS,.of aX,(aL.upd hv).bq (.of aX),qg.mono sv⟩
theorem IW{f fD fC:Addr}{fd i7 rC:FuncData}(F:cG K "form_of_then" "form_of_then" CN f fd)(T:Txt mg)
  (GD:bz P w K mg base bx 3 fD i7 ["p","rows"] (rq K)) (kD:Kp K fD) (bD:Binds K i7 ["p","rows"] []) (mD:Mg mg "reduced" fD)
  (GC:bz P w K mg base bx 1 fC rC ["p","one","other"] (IP K)) (kC:Kp K fC) (bC:Binds K rC ["p","one","other"] []) (mC:Mg mg "facing" fC):bz P w K mg base bx 4 f fd ["p","one","other"] (IS K):=by
 refine F.ok IT (λvs H Q E h=>?_) (λbI A outer s H vs Q E hr h=>?_)
 ·obtain⟨p,a,b,l,r,aN,r',bY,e,rfl,_⟩:=h;rfl
 ·obtain⟨p,a,b,l,m,aN,r',bY,e,rfl,pp,hf,fH,b1,b2,b4,he,z1,z2,hR,gs,q⟩:=h;have jv:dP 1 _:=hr.mono (by decide);refine⟨Dw K,?_,?_⟩
  ·unfold Dw;refine bg ?_ ?_
   ·exact cm (i:=3) IT.nd rfl (Or.inr rfl) (bc (cC K rfl) (pv 1) aO (λ_ _=>rfl))
   refine bg ?_ ?_
   ·refine nY (N:=["row","between"]) (own:=1) (caps:=[3]) (i:=4) (te:=IV K) (tt:=IU K) rfl IT.nd rfl rfl ?_ ?_ ?_ ?_ ?_
    ·exact lJ K rfl (cT GD hr rfl mD kD bD .nil cU (aJ (pv 0) (aJ (cT GC jv rfl mC kC bC .nil cU (aJ (pv 0) (aJ (pv 1) (aJ (pv 2) aQ)))) aQ)))
    ·exact(show dk ZW (bo CN) ["row","between"] 1 [3] _ from .mk' (by decide +kernel))
    ·exact λ_ _ _ _ _=>cF (i:=0) ZP rfl (.inl rfl)
    ·intro _ _ _ _ _;unfold IU;exact wg (LW (Fj (iN (XY K rfl rfl) rfl T.any Xh (aJ (gk (gK K rfl) (pv 0) iO (fb (pv 1))) aQ))))
    ·intro _ _ _ _ _;unfold IV;exact gk (gK K rfl) (pv 0) (fb (pv 1)) iO
   refine bQ ?_;refine cI (te:=eS (aZ (dD K 1 0) (aZ (dD K 2 1) (aZ (lD (w4 K) (aZ (aW 4) bG)) bG)))) ?_;refine cE ?_;refine aJ ?_ ?_ ?_
   ·exact bc (cC K rfl) (pv 1) aO (λ_ _=>rfl)
   ·refine aJ ?_ ?_ ?_
    ·exact bc (cC K rfl) (pv 2) aO (λ_ _=>rfl)
    ·refine aJ ?_ aQ ?_
     ·exact mi (o9 K rfl) rfl T.tuple pb (aJ (pv 4) aQ)
     ·rfl
    ·rfl
   ·rfl
  ·exact ZZ pp hf fH b1 b2 b4 he z1 z2 hR gs q
end
section
variable{P:Program}{w:World}{K:Frag}{mg:Str→Option Value}{base:Heap}
inductive qh(K:Frag)(p:Int)(x:Str)(ps:List V)(H:Hp)(Q:VK):Prop where
 |old (h:Di K p x ps H Q):qh K p x ps H Q
 |cJ (a b:Addr) (l r:Nat) (aN:LL) (l' r':Nat) (bY:LL) (e:Nat) (hx:x="beside") (hp:ps=[.ref a,.ref b]) (hf:dM K H a l r aN) (fH:dM K H b l' r' bY) (b1:l≤100) (b2:r≤100) (b3:l'≤100) (b4:r'≤100) (he:e≤200) (z1:aN.length≤400) (z2:bY.length≤400) (hR:ck p (l+r+e) aN) (gs:ck p (l'+r'+e) bY)
   (q:∀v H',aL H H'→dM K H' v (l+l') (r+r') (dI p (nG l r l' r' aN bY))→Q (.ref v) H'):qh K p x ps H Q
 |bf (a b:Addr) (l m:Nat) (aN:LL) (r':Nat) (bY:LL) (e:Nat) (hx:x="then") (hp:ps=[.ref a,.ref b]) (hf:dM K H a l m aN) (fH:dM K H b m r' bY) (b1:l≤100) (b2:m≤100) (b4:r'≤100) (he:e≤200) (z1:aN.length≤400) (z2:bY.length≤400) (hR:ck p (l+m+e) aN) (gs:ck p (m+r'+e) bY)
   (q:∀v H',aL H H'→dM K H' v l r' (nH p l m r' aN bY)→Q (.ref v) H'):qh K p x ps H Q
def Dy(K:Frag):Sp:=λvs H Q _=>∃(p:Int)(x:Str)(pa:Addr)(ps:List V),vs=[.int p,.str x,.ref pa]∧p∈cX∧H pa=some (.lst ps)∧qh K p x ps H Q
abbrev xa(K:Frag)(i:Nat)(j:Int):TE:=cA (pU K) (aW i) (tC (.int j))
abbrev Dz(x:Str):TT:=jm (cA qS (aW 1) (tC (.str x)))
def Pr(K:Frag):TE:=iY (IE K) [] E0 (aZ (aW 0) (aZ (xa K 2 0) bG))
def Pu(K:Frag):TE:=iY (IK K) [] E0 (aZ (aW 0) (aZ (xa K 2 0) (aZ (xa K 2 1) bG)))
def Pw(K:Frag):TE:=iY (IS K) [] E0 (aZ (aW 0) (aZ (xa K 2 0) (aZ (xa K 2 1) bG)))
def IX(K:Frag):TE:=eS (aZ (tC (.int 1)) (aZ (tC (.int 1)) (aZ (eS (aZ (eS (aZ (tC (.int 1)) (aZ (xa K 2 0) bG))) bG)) bG)))
def IY(K:Frag)(aB:Addr):TE:=ja K (iY (IC K) [] E0 (aZ (eS (aZ (aW 1) bG)) bG)) (eS (aZ (Cz aB (fK K aB) (tC (.ref aB)) (aW 1)) bG))
def DA(K:Frag)(aB:Addr):TS:=cy (dW (Dz "back") (eh (Pr K)) gi) (cy (dW (Dz "beside") (eh (Pu K)) gi) (cy (dW (Dz "then") (eh (Pw K)) gi) (cy (dW (Dz "times") (eh (IX K)) gi) (eh (IY K aB)))))
theorem Z1:("beside":Str) ≠ "back":=by decide +kernel
theorem Z2:("then":Str) ≠ "back":=by decide +kernel
theorem Z3:("then":Str) ≠ "beside":=by decide +kernel
theorem Z4{D:Ends}{aS aB:Addr}{p:Int}{x:Str}{pa:Addr}{ps:List V}{H:Hp}(B:nE K mg aS aB)(pp:p∈cX)(gT:H pa=some (.lst ps))(A:qh K p x ps H D.rt):DA K aB D [some (.int p),some (.str x),some (.ref pa)] H:=by
 unfold DA;cases A with
 |cJ a b l r aN l' r' bY e hx hp hf fH b1 b2 b3 b4 he z1 z2 hR gs q=>
  subst hx hp;refine⟨_,rfl,rfl,_,rfl,mG Z1 ⟨_,rfl,rfl,_,rfl,uO ?_⟩⟩;exact⟨_,rfl,_,rfl,pa,_,0,_,rfl,rfl,.of gT,bE (j:=0) rfl,_,rfl,pa,_,1,_,rfl,rfl,.of gT,bE (j:=1) rfl,p,a,b,l,r,aN,l',r',bY,e,rfl,pp,hf,fH,b1,b2,b3,b4,he,z1,z2,hR,gs,q⟩
 |bf a b l m aN r' bY e hx hp hf fH b1 b2 b4 he z1 z2 hR gs q=>
  subst hx hp;refine⟨_,rfl,rfl,_,rfl,mG Z2 ⟨_,rfl,rfl,_,rfl,mG Z3 ⟨_,rfl,rfl,_,rfl,uO ?_⟩⟩⟩;exact⟨_,rfl,_,rfl,pa,_,0,_,rfl,rfl,.of gT,bE (j:=0) rfl,_,rfl,pa,_,1,_,rfl,rfl,.of gT,bE (j:=1) rfl,p,a,b,l,m,aN,r',bY,e,rfl,pp,hf,fH,b1,b2,b4,he,z1,z2,hR,gs,q⟩
 |old A=>
  cases A with
  |back a l r e aN hx hp hf hl kG he hz hR q=>
   subst hx hp;refine⟨_,rfl,rfl,_,rfl,uO ?_⟩;exact⟨_,rfl,_,rfl,pa,_,0,_,rfl,rfl,.of gT,bE (j:=0) rfl,p,a,l,r,e,aN,rfl,pp,hf,hl,kG,he,hz,hR,q⟩
  |times n hx hp q=>
   subst hx hp;refine⟨_,rfl,rfl,_,rfl,mG Zq ⟨_,rfl,rfl,_,rfl,mG Zr ⟨_,rfl,rfl,_,rfl,mG Zs ⟨_,rfl,rfl,_,rfl,uO ?_⟩⟩⟩⟩;refine⟨_,rfl,pa,_,0,_,rfl,rfl,.of gT,bE (j:=0) rfl,(by show 2≤sizeLine;decide),λt1 g1=>⟨(by show 1≤sizeLine;decide),λt2 g2=>⟨(by show 3≤sizeLine;decide),λt3 g3=>?_⟩⟩⟩;exact q t3 _ ((aL.upd g1).trans ((aL.upd g2).trans (.upd g3))) ⟨t2,[.ref t1],.of aX,(aL.upd g3).bq (.of aX),.cons (ke (r:=[1,n]) ((aL.upd g3).bq ((aL.upd g2).bq (.of aX)))) .nil⟩
  |box l r aN hx q=>
   obtain⟨n1,n2,n3,n4⟩:=Zo _ hx;refine⟨_,rfl,rfl,_,rfl,mG n1 ⟨_,rfl,rfl,_,rfl,mG n2 ⟨_,rfl,rfl,_,rfl,mG n3 ⟨_,rfl,rfl,_,rfl,mG n4 ?_⟩⟩⟩⟩;obtain⟨_,t,e,ht⟩:=B.at_ hx;refine⟨_,rfl,(by show 1≤sizeLine;decide),λt1 g1=>⟨t1,x,l,r,aN,rfl,.of aX,hx,λv H1 s1 hv=>?_⟩⟩;refine⟨_,rfl,x,_,rfl,rfl,e,(by show 1≤sizeLine;decide),λt2 g2=>⟨v,t2,_,_,rfl,rfl,(aL.upd g2).bq hv,.of aX,(by show 2+1≤sizeLine;decide),λt3 H3 s3 wW=>?_⟩⟩;obtain⟨RS,k1,k2⟩:=ht H3;exact q t3 H3 ((aL.upd g1).trans (s1.trans ((aL.upd g2).trans s3))) ⟨t,RS,wW,k1,k2⟩
theorem IZ{aS aB f fB fS fT fW:Addr}{fd zO rB lM tG:FuncData}(F:cG K "form" "form" HR f fd)(B:nE K mg aS aB)
  (GB:bz P w K mg base bx 4 fB zO ["p","one"] (IE K)) (kB:Kp K fB) (bB:Binds K zO ["p","one"] []) (mB:Mg mg "form_of_back" fB)
  (GS:bz P w K mg base bx 4 fS rB ["p","one","other"] (IK K)) (kS:Kp K fS) (bS:Binds K rB ["p","one","other"] []) (mS:Mg mg "form_of_beside" fS)
  (GT:bz P w K mg base bx 4 fT lM ["p","one","other"] (IS K)) (kT:Kp K fT) (bT:Binds K lM ["p","one","other"] []) (mT:Mg mg "form_of_then" fT)
  (GW:bz P w K mg base bx 5 fW tG ["words"] (IC K)) (kW:Kp K fW) (bW:Binds K tG ["words"] []) (mW:Mg mg "wires" fW):bz P w K mg base bx 6 f fd ["p","word","parts"] (Dy K):=by
 refine F.ok Zt (λvs H Q E h=>?_) (λbI A outer s H vs Q E hr h=>?_)
 ·obtain⟨p,x,pa,ps,rfl,_⟩:=h;rfl
 ·obtain⟨p,x,pa,ps,rfl,pp,gT,D⟩:=h;have Ja:dP 4 _:=hr.mono (by decide);refine⟨DA K aB,?_,?_⟩
  ·unfold DA;refine bg ?_ ?_
   ·refine ee ?_ ?_ eK
    ·exact dg hI (pv 1) dH (de _)
    ·refine bQ ?_;refine cI (te:=Pr K) ?_;exact cT GB Ja rfl mB kB bB .nil cU (aJ (pv 0) (aJ (bc (bV K rfl) (pv 2) aO (λ_ _=>rfl)) aQ))
   refine bg ?_ ?_
   ·refine ee ?_ ?_ eK
    ·exact dg hI (pv 1) dH (de _)
    ·refine bQ ?_;refine cI (te:=Pu K) ?_;exact cT GS Ja rfl mS kS bS .nil cU (aJ (pv 0) (aJ (bc (bV K rfl) (pv 2) aO (λ_ _=>rfl)) (aJ (bc (bV K rfl) (pv 2) aO (λ_ _=>rfl)) aQ)))
   refine bg ?_ ?_
   ·refine ee ?_ ?_ eK
    ·exact dg hI (pv 1) dH (de _)
    ·refine bQ ?_;refine cI (te:=Pw K) ?_;exact cT GT Ja rfl mT kT bT .nil cU (aJ (pv 0) (aJ (bc (bV K rfl) (pv 2) aO (λ_ _=>rfl)) (aJ (bc (bV K rfl) (pv 2) aO (λ_ _=>rfl)) aQ)))
   refine bg ?_ ?_
   ·refine ee ?_ ?_ eK
    ·exact dg hI (pv 1) dH (de _)
    ·refine bQ ?_;refine cI (te:=IX K) ?_;unfold IX;refine cE ?_;refine aJ aO ?_ ?_
     ·refine aJ aO ?_ ?_
      ·refine aJ ?_ aQ ?_
       ·refine cE ?_;refine aJ ?_ aQ ?_
        ·refine cE ?_;refine aJ aO ?_ ?_
         ·refine aJ ?_ aQ ?_
          ·exact bc (bV K rfl) (pv 2) aO (λ_ _=>rfl)
          ·rfl
         ·exact zF
        ·exact Pe
       ·exact Pe
      ·exact zF
     ·exact zF
   refine bQ ?_;refine cI (te:=IY K aB) ?_;unfold IY;refine aY (ft K rfl) ?_ ?_
   ·exact cT GW hr rfl mW kW bW .nil cU (aJ (cE (aJ (pv 1) aQ)) aQ)
   ·refine cE ?_;refine aJ ?_ aQ ?_
    ·exact HH B.Zh (qK (v:=.ref _) rfl B.Zg rfl) (pv 1) (λ_ _=>rfl)
    ·rfl
  ·exact Z4 B pp gT D
end
inductive Drw where
 |box (x:Str) (l r:Nat) (aN:LL)
 |times (n:Int)
 |back (d:Drw)
 |cJ (a b:Drw)
 |bf (a b:Drw)
namespace Drw
noncomputable def aR:Drw→List V
 |box x _ _ _=>[.str x]
 |times n=>[.str "times",.int n]
 |back d=>.str "back"::d.aR
 |cJ a b=>.str "beside"::(a.aR++b.aR)
 |bf a b=>.str "then"::(a.aR++b.aR)
noncomputable def mH:Drw→Nat×Nat
 |box _ l r _=>(l,r)
 |times _=>(1,1)
 |back d=>(d.mH.2,d.mH.1)
 |cJ a b=>(a.mH.1+b.mH.1,a.mH.2+b.mH.2)
 |bf a b=>(a.mH.1,b.mH.2)
noncomputable abbrev aI(d:Drw):Nat:=d.mH.1
noncomputable abbrev aM(d:Drw):Nat:=d.mH.2
def wf(p:Int):Drw→Prop
 |box x l r aN=>(x,l,r,aN)∈e8
 |times n=>0≤n∧n<p
 |back d=>d.wf p
 |cJ a b=>a.wf p∧b.wf p
 |bf a b=>a.wf p∧b.wf p∧a.aM=b.aI
noncomputable def aN(p:Int):Drw→LL
 |box _ _ _ aN=>aN
 |times n=>[[1,n]]
 |back d=>dI p ((d.aN p).map (iD d.aI d.aM))
 |cJ a b=>dI p (nG a.aI a.aM b.aI b.aM (a.aN p) (b.aN p))
 |bf a b=>nH p a.aI a.aM b.aM (a.aN p) (b.aN p)
theorem pos(d:Drw):1≤d.aR.length:=by cases d<;>simp[aR]
end Drw
theorem uT:∀e∈e8,e.2.1≤2∧e.2.2.1≤2∧e.2.2.2.length≤2∧∀r∈e.2.2.2,r.length=e.2.1+e.2.2.1∧∀x∈r,0≤x∧x<2:=by decide +kernel
namespace Drw
theorem p9{p:Int}:∀{d:Drw},d.wf p→d.aI≤d.aR.length+1∧d.aM≤d.aR.length+1
 |box x l r aN,h=>by
  obtain⟨h1,h2,_⟩:=uT _ h;exact⟨h1,h2⟩
 |times n,_=>by simp[aI,aM,mH,aR]
 |back d,h=>by
  have:=p9 (d:=d) h
  simp only[aI,aM,mH,aR,dB]at this ⊢;lia
 |cJ a b,h=>by
  have h1:=p9 (d:=a) h.1;have h2:=p9 (d:=b) h.2;simp only[aI,aM,mH,aR,dB,cx]at h1 h2 ⊢;lia
 |bf a b,h=>by
  have h1:=p9 (d:=a) h.1;have h2:=p9 (d:=b) h.2.1;simp only[aI,aM,mH,aR,dB,cx]at h1 h2 ⊢;lia
def sm:Drw→Prop
 |back d=>d.sm
 |cJ a b=>a.sm∧b.sm∧a.aI+b.aI≤100∧a.aM+b.aM≤100
 |bf a b=>a.sm∧b.sm
 |_=>True
theorem good{p:Int}(pp:p∈cX):∀{d:Drw},d.wf p→d.sm→d.aI≤100∧d.aM≤100∧(d.aN p).length≤400∧ck p (d.aI+d.aM) (d.aN p)
 |box x l r aN,h,_=>by
  obtain⟨p2,_⟩:=fI p pp;obtain⟨h1,h2,h3,h4⟩:=uT _ h;refine⟨eJ h1 (by decide),eJ h2 (by decide),eJ h3 (by decide),λr hr=>⟨(h4 r hr).1,λx hx=>?_⟩⟩
  have:=(h4 r hr).2 x hx
  lia
 |times n,h,_=>by
  obtain⟨p2,_⟩:=fI p pp;refine⟨by show 1≤100;decide,by show 1≤100;decide,by show 1≤400;decide,λr hr=>?_⟩;rw[cQ.mp hr];refine⟨rfl,λx hx=>?_⟩;rcases(cS.mp hx)with z|z
  ·subst z;lia
  ·rw[cQ.mp z];exact h
 |back d,h,hl=>by
  obtain⟨a1,a2,a3,a4⟩:=good pp (d:=d) h hl;have hS:ck p (d.aM+d.aI) ((d.aN p).map (iD d.aI d.aM)):=λx hx=>by
   obtain⟨y,hy,e⟩:=dq.mp hx;rw[← e];exact zD (x:=0) (a4 y hy)
  have:=sS hS
  exact⟨a2,a1,eJ this (by lia),(jr pp hS).rws⟩
 |cJ a b,h,hl=>by
  obtain⟨p2,_⟩:=fI p pp;obtain⟨a1,a2,a3,a4⟩:=good pp (d:=a) h.1 hl.1;obtain⟨b1,b2,b3,b4⟩:=good pp (d:=b) h.2 hl.2.1;have hS:=zJ (x:=0) (by lia) a4 b4;have hz:=sS hS;have h3:=hl.2.2.1;have h4:=hl.2.2.2;exact⟨h3,h4,eJ hz (by lia),(jr pp hS).rws⟩
 |bf a b,h,hl=>by
  obtain⟨a1,a2,a3,a4⟩:=good pp (d:=a) h.1 hl.1;obtain⟨b1,b2,b3,b4⟩:=good pp (d:=b) h.2.1 hl.2;have b4:ck p (a.aM+b.aM) (b.aN p):=by rw[h.2.2];exact b4
  have hz:=Pp (x:=0) pp a4 b4;exact⟨a1,b2,eJ hz (by lia),Po (x:=0) pp a4 b4⟩
end Drw
inductive Itm where
 |num (n:Int)
 |bu (d:Drw)
namespace Itm
noncomputable def aR:Itm→List V
 |num n=>[.int n]
 |bu d=>d.aR
noncomputable def head:Itm→V
 |num n=>.int n
 |bu (.box x _ _ _)=>.str x
 |bu (.times _)=>.str "times"
 |bu (.back _)=>.str "back"
 |bu (.cJ _ _)=>.str "beside"
 |bu (.bf _ _)=>.str "then"
noncomputable def kids:Itm→List Itm
 |num _=>[]
 |bu (.box _ _ _ _)=>[]
 |bu (.times n)=>[num n]
 |bu (.back d)=>[bu d]
 |bu (.cJ a b)=>[bu a,bu b]
 |bu (.bf a b)=>[bu a,bu b]
theorem DB(t:Itm):t.aR=t.head::t.kids.flatMap aR:=by
 cases t with
 |num n=>rfl
 |bu d=>cases d<;>simp[aR,head,kids,Drw.aR]
theorem pos(t:Itm):1≤t.aR.length:=by rw[DB];simp
def wf(p:Int):Itm→Prop
 |num _=>True
 |bu d=>d.wf p∧d.sm
theorem Z5{p:Int}{t:Itm}(h:t.wf p):∀u∈t.kids,u.wf p:=by
 cases t with
 |num n=>intro u hu;cases hu
 |bu d=>
  obtain⟨h1,h2⟩:=h;cases d with
  |box=>intro u hu;cases hu
  |times n=>intro u hu;rw[cQ.mp hu];exact True.intro
  |back d=>
   intro u hu;rw[cQ.mp hu];exact⟨h1,h2⟩
  |cJ a b=>
   intro u hu;rcases(cS.mp hu)with z|z
   ·rw[z];exact⟨h1.1,h2.1⟩
   ·rw[cQ.mp z];exact⟨h1.2,h2.2.1⟩
  |bf a b=>
   intro u hu;rcases(cS.mp hu)with z|z
   ·rw[z];exact⟨h1.1,h2.1⟩
   ·rw[cQ.mp z];exact⟨h1.2.1,h2.2⟩
end Itm
noncomputable def dz:List Itm→Nat→List Itm
 |ts,0=>ts
 | [],_+1=>[]
 |t::ts,i+1=>dz (t.kids++ts) i
theorem DC(i:Nat):dz [] i=[]:=by cases i<;>rfl
theorem uU:∀(i:Nat)(ts:List Itm),(dz ts i).flatMap Itm.aR=(ts.flatMap Itm.aR).drop i
 |0,ts=>rfl
 |i+1,[]=>rfl
 |i+1,t::ts=>by
  show(dz (t.kids++ts) i).flatMap Itm.aR=_;rw[uU i,List.flatMap_append,xY,Itm.DB,List.cons_append,List.drop_succ_cons]
theorem Px:∀(i:Nat)(ts:List Itm),dz ts (i+1)=dz (dz ts i) 1
 |0,ts=>rfl
 |i+1,[]=>by rw[DC,DC];rfl
 |i+1,t::ts=>by
  show dz (t.kids++ts) (i+1)=dz (dz (t.kids++ts) i) 1;exact Px i _
theorem Py{p:Int}:∀(i:Nat){ts:List Itm},(∀t∈ts,t.wf p)→∀t∈dz ts i,t.wf p
 |0,ts,h=>h
 |i+1,[],h=>by intro t ht;rw[DC]at ht;cases ht
 |i+1,t::ts,h=>Py i (ts:=t.kids++ts) λu hu=>by
  rcases(dm.mp hu)with z|z
  ·exact Itm.Z5 (h t cP) u z
  ·exact h u (dU _ z)
theorem qi{ts:List Itm}{i:Nat}(h:i<(ts.flatMap Itm.aR).length):∃t r,dz ts i=t::r∧(ts.flatMap Itm.aR)[i]?=some t.head∧dz ts (i+1)=t.kids++r:=by
 have e:=uU i ts;cases hs:dz ts i with
 |nil=>
  rw[hs]at e
  have:=ai List.length e
  simp only[List.flatMap_nil,List.length_nil,fE]at this;lia
 |cons t r=>
  refine⟨t,r,rfl,?_,by rw[Px,hs];rfl⟩;rw[hs,xY,Itm.DB,List.cons_append]at e;have z:((ts.flatMap Itm.aR).drop i)[0]?=some t.head:=by rw[← e];rfl
  rwa[t8,Nat.add_zero]at z
theorem Jb:∀ts:List Itm,ts.length≤(ts.flatMap Itm.aR).length
 | []=>kj _
 |t::ts=>by
  have:=Jb ts
  have:=t.pos
  rw[xY,cx,dB];lia
theorem DD{ts:List Itm}:dz ts (ts.flatMap Itm.aR).length=[]:=by
 have e:=Jb (dz ts (ts.flatMap Itm.aR).length);rw[uU,List.drop_length]at e;exact List.eq_nil_of_length_eq_zero (Nat.le_zero.mp e)
theorem Jc{ts:List Itm}{i:Nat}:(dz ts i).length≤(ts.flatMap Itm.aR).length:=by
 have e:=Jb (dz ts i);rw[uU,fE]at e;lia
end S21
namespace S21
open PySem L2 Bw
variable{D L bY:LL}{a row:List Int}{b:Drw}{f:Addr}{fd:FuncData}{j l l' m n r r' x x':Nat}{ls:List Nat}{p:Int}{s:Nat→Option (Int×Nat)}{u v:Fn}
theorem Jd:∀e∈e8,mE e.1=0:=O9
theorem Je:mE "beside"=2:=by decide +kernel
theorem Jf:mE "then"=2:=by decide +kernel
theorem Z6:∀e∈e8,fq (.str e.1) (.str "late")=false:=by decide +kernel
theorem DE:fq (.str "back") (.str "late")=false∧fq (.str "beside") (.str "late")=false∧fq (.str "then") (.str "late")=false∧fq (.str "times") (.str "late")=false:=by decide +kernel
theorem Z7(n:Int):fq (.int n) (.str "late")=false:=rfl
theorem Drw.xb{p:Int}:∀{d:Drw},d.wf p→∀v∈d.aR,o6 v=true∧fq v (.str "late")=false
 | .box x l r aN,h=>λv hv=>by
  rw[cQ.mp hv];exact⟨rfl,Z6 _ h⟩
 | .times n,_=>λv hv=>by
  rcases(cS.mp hv)with z|z
  ·rw[z];exact⟨rfl,DE.2.2.2⟩
  ·rw[cQ.mp z];exact⟨rfl,Z7 n⟩
 | .back d,h=>λv hv=>by
  rcases(cS.mp hv)with z|z
  ·rw[z];exact⟨rfl,DE.1⟩
  ·exact Drw.xb (d:=d) h v z
 | .cJ a b,h=>λv hv=>by
  rcases(cS.mp hv)with z|z
  ·rw[z];exact⟨rfl,DE.2.1⟩
  ·rcases(dm.mp z)with z|z
   ·exact Drw.xb (d:=a) h.1 v z
   ·exact Drw.xb (d:=b) h.2 v z
 | .bf a b,h=>λv hv=>by
  rcases(cS.mp hv)with z|z
  ·rw[z];exact⟨rfl,DE.2.2.1⟩
  ·rcases(dm.mp z)with z|z
   ·exact Drw.xb (d:=a) h.1 v z
   ·exact Drw.xb (d:=b) h.2.1 v z
def zP(K:Frag)(p:Int)(H:Hp):Itm→V→Prop
 | .num n,v=>v=.int n
 | .bu d,v=>∃a,v=.ref a∧dM K H a d.aI d.aM (d.aN p)
inductive jb(K:Frag)(p:Int)(H:Hp):List Itm→List V→Prop where
 |nil:jb K p H [] []
 |cons {t:Itm} {ts:List Itm} {v:V} {vs:List V} (h:zP K p H t v) (r:jb K p H ts vs):jb K p H (t::ts) (v::vs)
section
variable{K:Frag}{p:Int}{H H':Hp}
theorem zP.tup{t:Itm}{v:V}(h:zP K p H t v)(s:fw H H'):zP K p H' t v:=by
 cases t with
 |num n=>exact h
 |bu d=>
  obtain⟨a,e,hf⟩:=h;exact⟨a,e,hf.tup s⟩
theorem jb.tup{ts:List Itm}{vs:List V}(h:jb K p H ts vs)(s:fw H H'):jb K p H' ts vs:=by
 induction h with
 |nil=>exact .nil
 |cons h r ih=>exact .cons (h.tup s) ih
theorem jb.len{ts:List Itm}{vs:List V}(h:jb K p H ts vs):vs.length=ts.length:=by
 induction h with
 |nil=>rfl
 |cons h r ih=>rw[dB,dB,ih]
theorem jb.split:∀{ts us:List Itm}{vs:List V},jb K p H (ts++us) vs→∃xs ys,vs=xs++ys∧jb K p H ts xs∧jb K p H us ys
 | [],us,vs,h=>⟨[],vs,rfl,.nil,h⟩
 |t::ts,us,_,.cons h r=>by
  obtain⟨xs,ys,e,h1,h2⟩:=jb.split (ts:=ts) r;exact⟨_::xs,ys,by rw[e];rfl,.cons h h1,h2⟩
end
def Pz(K:Frag)(Pt:Addr):Sp:=λvs H Q _=>∃(p:Int)(aw:Addr)(d:Drw),vs=[.int p,.ref aw]∧p∈cX∧d.wf p∧d.sm∧d.aR.length≤900000∧bh K H aw d.aR∧fe H Pt (iV oC) uP∧
 ∀td aU v H',aL (del Pt H) H'→fe H' Pt (iV oC) uP→H' td=some (.dK aU)→eV aU (Sum.inl 0)=some (.ref v)→dM K H' v d.aI d.aM (d.aN p)→Q (.ref td) H'
theorem Z8{c Pt fL fA fM:Addr}{ow kE gO:FuncData}(F:cG K "forms" "forms" kz f fd)(gI:fd.code=.ref c)(C:CodeHd base c Pt)(BB:rm mg base)
  (GL:bz P w K mg base bx 1 fL ow ["words"] (Pg K)) (kL:Kp K fL) (bL:Binds K ow ["words"] []) (mL:Mg mg "refuse_late" fL)
  (GA:rn P w K mg base 8 fA kE ["words","made"] (Ip 7 P w K mg base)) (kA:Kp K fA) (bA:Binds K kE ["words","made"] []) (mA:Mg mg "all_folded" fA)
  (GM:bz P w K mg base bx 6 fM gO ["p","word","parts"] (Dy K)) (kM:Kp K fM) (bM:Binds K gO ["p","word","parts"] []) (mM:Mg mg "form" fM) :
  bz P w K mg base bx 9 f fd ["p","words"] (Pz K Pt):=by
 refine F.Oy ZA (λvs H Q E h=>?_) (λbI A outer s H vs Q E Jg hr h=>?_)
 ·obtain⟨p,aw,d,rfl,_⟩:=h;rfl
 ·obtain⟨p,aw,d,rfl,pp,hd,jx,rH,hw,uV,q⟩:=h;have vU:bI=.ref c:=Jg.symm.trans gI;subst vU;have jv:dP 1 _:=hr.mono (by decide);refine⟨_,bg (md (cT GL jv rfl mL kL bL .nil cU (aJ (pv 1) aQ))) (bQ (cI (zd GA hr rfl mA kA bA (aJ (pv 1) (aJ (Oj (c:=c) (Pt:=Pt) (cl:=zI s.heap.objs.size) rfl C BB Zy) aQ))))),?_⟩;obtain⟨Z9,hP⟩:=uV.tab;have DF:=Drw.xb hd;refine⟨_,rfl,aw,_,rfl,hw,pG.mpr λv hv=>(DF v hv).1,List.any_eq_false.mpr λv hv=>by rw[(DF v hv).2];decide,?_⟩;refine⟨_,rfl,uV,λfl HL Cq Jh Ji Jj aH sI I=>?_⟩;have sL:=y9.same Jh;have oT:∃u,RelV (.int p) u∧sI.heap.IsCell (zH s.heap.objs.size) (some u)∧HL (zH s.heap.objs.size)=none:=by
   obtain⟨mm,hn,hl⟩:=I.loc;obtain⟨u,r,l⟩:=hl 0 "p" (.int p) rfl rfl (.inr (.inl rfl));rcases l with⟨hU,_⟩|⟨_,c',jk,oT⟩
   ·exact absurd (show(bo kz).names.lookup ("p":Str)=some .local from hU) (by decide +kernel)
   ·have jO:(cellsFrom (s.heap.objs.size+1) (bo kz).names []).lookup ("p":Str)=some c':=jk;rw[Pj]at jO;cases jO;exact⟨u,r,oT,I.nU _ _ jk⟩
  have ew:([Itm.bu d]).flatMap Itm.aR=d.aR:=by simp[Itm.aR]
  have rJ:∀t∈[Itm.bu d],t.wf p:=λt ht=>by rw[cQ.mp ht];exact⟨hd,jx⟩
  refine⟨aw,fl,d.aR,λvs H' Q=>∃(i:Int)(x:Str)(pa:Addr)(ps:List V),vs=[.int i,.str x,.ref pa]∧H' pa=some (.lst ps)∧qh K p x ps H' Q,λi vs H=>jb K p H (dz [.bu d] i) vs.reverse,rfl,?_⟩;refine⟨sL.bq (bh.del hP hw),rH,?_,?_,λi vs H1 H2 h tp=>h.tup tp,λi vs H1 h=>?_,λi hi=>?_,λi n vs H1 h g=>?_,λi x vs H1 h g=>?_,?_,λtd aU vs v H' s' h1 h2 h3=>?_⟩
  ·refine O4 (k:=6) (names:=["p"]) (caps:=[.int p]) (Zz I.ok.inj) Jj (λ_ _ _ us hu=>match us,hu with | [_,_,_],_=>rfl) (λj y hj=>?_) rfl (λvs H' Q ⟨i,x,pa,ps,e,_⟩=>by rw[e];rfl) (λc' A' aaa s' H' vs Q' kG eI Jk=>?_)
   ·match j,hj with
    |0,hj=>
     have e : "p"=y:=cN hj;subst e;obtain⟨u,r,h4,h5⟩:=oT;exact⟨_,_,u,rfl,rfl,r,h4,h5⟩
    |j+1,hj=>simp at hj
   ·obtain⟨i,x,pa,ps,rfl,gT,hF⟩:=Jk;refine⟨_,cT GM kG rfl mM kM bM .nil cU (aJ (pv 3) (aJ (pv 1) (aJ (pv 2) aQ))),?_⟩;exact⟨_,rfl,_,rfl,_,rfl,p,x,pa,ps,rfl,pp,gT,hF⟩
  ·show jb K p HL (dz [.bu d] d.aR.length) _;have e:=DD (ts:=[.bu d]);rw[ew]at e;rw[e];exact .nil
  ·have e:=h.len;have z:=Jc (ts:=[.bu d]) (i:=i);rw[xZ]at e;rw[ew]at z;lia
  ·obtain⟨t,r,e1,e2,e3⟩:=qi (ts:=[.bu d]) (i:=i) (by rw[ew];exact hi);rw[ew]at e2;rw[e2];cases t with
   |num n=>exact .inr ⟨n,rfl⟩
   |bu d'=>cases d'<;>exact .inl ⟨_,rfl⟩
  ·obtain⟨t,r,e1,e2,e3⟩:=qi (ts:=[.bu d]) (i:=i) (by rw[ew];exact(dO.mp h).1);rw[ew,h]at e2;cases t with
   |num m=>
    have e2:n=m:=V.int.inj (cN e2);subst e2;have g:jb K p H1 (dz [.bu d] (i+1)) vs.reverse:=g;rw[e3]at g;show jb K p H1 (dz [.bu d] i) (vs++[V.int n]).reverse;rw[e1,pM];exact .cons rfl g
   |bu d'=>cases d'<;>cases e2
  ·obtain⟨t,r,e1,e2,e3⟩:=qi (ts:=[.bu d]) (i:=i) (by rw[ew];exact(dO.mp h).1);rw[ew,h]at e2;have rK:t.wf p:=Py i rJ t (by rw[e1];exact cP);have g:jb K p H1 (dz [.bu d] (i+1)) vs.reverse:=g;rw[e3]at g;obtain⟨xs,ys,ev,g1,g2⟩:=g.split;have zQ:vs=ys.reverse++xs.reverse:=by rw[← pM,← ev,Be]
   refine⟨ys.reverse,xs,zQ,?_,?_⟩
   ·have el:=g1.len;rw[el];cases t with
    |num m=>cases e2
    |bu d'=>
     cases d' with
     |box x' l' r' bY=>
      have e2:x=x':=V.str.inj (cN e2);subst e2;exact(Jd _ rK.1).symm
     |times n=>have e2:x=_:=V.str.inj (cN e2);subst e2;exact IJ.symm
     |back d'=>have e2:x=_:=V.str.inj (cN e2);subst e2;exact II.symm
     |cJ a b=>have e2:x=_:=V.str.inj (cN e2);subst e2;exact Je.symm
     |bf a b=>have e2:x=_:=V.str.inj (cN e2);subst e2;exact Jf.symm
   ·intro pa H2 Q' tp hp hq;refine⟨_,_,pa,_,rfl,hp,?_⟩;have g1:=g1.tup tp;have g2:=g2.tup tp;have fin:∀v H3,aL H2 H3→zP K p H3 t v→Q' v H3:=λv H3 s3 hv=>hq v H3 s3 (by
     show jb K p H3 (dz [.bu d] i) _;rw[e1,pM,Be];exact .cons hv (g2.tup s3.tup))
    cases t with
    |num m=>cases e2
    |bu d'=>
     obtain⟨ir,cL⟩:=rK;cases d' with
     |box x' l' r' bY=>
      have e2:x=x':=V.str.inj (cN e2);subst e2;exact .old (.box _ _ _ ir λv H3 s3 hv=>fin _ H3 s3 ⟨v,rfl,hv⟩)
     |times n=>
      have e2:x=_:=V.str.inj (cN e2);subst e2;cases g1 with
      |cons h1 r1=>
       cases r1;have h1:_=V.int n:=h1;subst h1;exact .old (.times n rfl rfl λv H3 s3 hv=>fin _ H3 s3 ⟨v,rfl,hv⟩)
     |back d'=>
      have e2:x=_:=V.str.inj (cN e2);subst e2;cases g1 with
      |cons h1 r1=>
       cases r1;obtain⟨a,rfl,hf⟩:=h1;obtain⟨b1,b2,b3,b4⟩:=Drw.good pp (d:=d') ir cL;exact .old (.back a _ _ 0 _ rfl rfl hf b1 b2 (by lia) (by lia) b4 λv H3 s3 hv=>fin _ H3 s3 ⟨v,rfl,hv⟩)
     |cJ a b=>
      have e2:x=_:=V.str.inj (cN e2);subst e2;cases g1 with
      |cons h1 r1=>
       cases r1 with
       |cons h2 r2=>
        cases r2;obtain⟨a1,rfl,hf⟩:=h1;obtain⟨a2,rfl,mI⟩:=h2;obtain⟨b1,b2,b3,b4⟩:=Drw.good pp (d:=a) ir.1 cL.1;obtain⟨c1,c2,c3,c4⟩:=Drw.good pp (d:=b) ir.2 cL.2.1;exact .cJ a1 a2 _ _ _ _ _ _ 0 rfl rfl hf mI b1 b2 c1 c2 (by lia) b3 c3 b4 c4 λv H3 s3 hv=>fin _ H3 s3 ⟨v,rfl,hv⟩
     |bf a b=>
      have e2:x=_:=V.str.inj (cN e2);subst e2;cases g1 with
      |cons h1 r1=>
       cases r1 with
       |cons h2 r2=>
        cases r2;obtain⟨a1,rfl,hf⟩:=h1;obtain⟨a2,rfl,mI⟩:=h2;obtain⟨b1,b2,b3,b4⟩:=Drw.good pp (d:=a) ir.1 cL.1;obtain⟨c1,c2,c3,c4⟩:=Drw.good pp (d:=b) ir.2.1 cL.2;rw[← ir.2.2]at mI c4;exact .bf a1 a2 _ _ _ _ _ 0 rfl rfl hf mI b1 b2 c2 (by lia) b3 c3 b4 c4 λv H3 s3 hv=>fin _ H3 s3 ⟨v,rfl,hv⟩
  ·cases d<;>exact⟨_,rfl⟩
  ·have h3:jb K p H' [.bu d] (vs++[v]).reverse:=h3;rw[pM]at h3;cases h3 with
   |cons hv r=>
    obtain⟨a,rfl,hf⟩:=hv;exact q td aU a H' (sL.trans s') (Ji.mono s') h1 h2 hf
def PB(K:Frag)(Pt:Addr):Sp:=λvs H Q _=>∃(p:Int)(aw:Addr)(d:Drw),vs=[.int p,.ref aw]∧p∈cX∧d.wf p∧d.sm∧d.aR.length≤900000∧bh K H aw d.aR∧fe H Pt (iV oC) uP∧
 ∀v RS H',aL (del Pt H) H'→fe H' Pt (iV oC) uP→bh K H' v RS→br K H' RS ((d.aN p).map cw)→Q (.ref v) H'
theorem aab{Pt fF:Addr}{pj:FuncData}(F:cG K "plain" "plain" HP f fd)
  (GF:bz P w K mg base bx 9 fF pj ["p","words"] (Pz K Pt)) (kF:Kp K fF) (bF:Binds K pj ["p","words"] []) (mF:Mg mg "forms" fF):bz P w K mg base bx 10 f fd ["p","words"] (PB K Pt):=by
 refine F.ok ZC (λvs H Q E h=>?_) (λbI A outer s H vs Q E hr h=>?_)
 ·obtain⟨p,aw,d,rfl,_⟩:=h;rfl
 ·obtain⟨p,aw,d,rfl,pp,hd,jx,rH,hw,uV,q⟩:=h;refine⟨_,bQ (cI (bc (cC K rfl) (Cm (Gg hr) (cT GF hr rfl mF kF bF .nil cU (aJ (pv 0) (aJ (pv 1) aQ))) aO (λ_ _=>rfl)) aO (λ_ _=>rfl))),?_⟩;refine⟨_,rfl,_,rfl,p,aw,d,rfl,pp,hd,jx,rH,hw,uV,λtd aU v H' s' hL C6 hv hF=>?_⟩;obtain⟨tt,RS,h1,h2,h3⟩:=hF;exact⟨td,_,rfl,hv▸rh.k (k:=Sum.inl 0) C6,v,_,2,_,rfl,rfl,h1,bE (j:=2) rfl,q tt RS H' s' hL h2 h3⟩
noncomputable def bt(s:Nat→Option (Int×Nat))(f:Fn):Fn:=λj=>match s j with
 |some (a,i)=>a*f i
 |none=>0
theorem PD(h:eF p u v):eF p (bt s u) (bt s v):=λj=>by
 unfold bt;cases s j with
 |none=>exact⟨0,by simp⟩
 |some a=>
  have:p∣a.1*(u a.2-v a.2):=xT (h a.2)
  show p∣a.1*u a.2-a.1*v a.2;rwa[Int.mul_sub]at this
theorem aac{R R':Fn→Prop}(h:∀r,R r→Sp p R' (bt s r))(hv:Sp p R v):Sp p R' (bt s v):=by
 induction hv with
 |zero=>exact Sp.zero.of_eq λj=>by unfold bt;cases s j<;>simp
 | @add v r c _ hr ih=>
  refine(ih.plus c (h r hr)).of_eq λj=>?_;unfold bt;cases s j with
  |none=>simp
  |some a=>
   show a.1*v a.2+c*(a.1*r a.2)=a.1*(v a.2+c*r a.2);rw[Int.mul_add,← Int.mul_assoc,← Int.mul_assoc,nR c]
 |cR _ e ih=>exact .cR ih (PD e)
noncomputable def lQ(w:Fn)(m:Nat):LL→List Nat→Fn
 |r::D,l::ls=>λj=>lQ w m D ls j+(if m≤l then w l else 0)*fn r j
 |_,_=>λ_=>0
theorem PF{r:List Int}(h:∀j,j<l→r.getD j 0=0)(hm:m≤l):oD m r=true:=by
 unfold oD;rw[Bool.not_eq_true',List.any_eq_false];intro x hx;obtain⟨i,hi,rfl⟩:=l5.mp hx;rw[dv]at hi
 have:=h i (by lia)
 rw[List.getElem_take];rw[cz,cn (by lia)]at this;have e:r[i]=0:=this;simp[e]
theorem PH{p:Int}{w:Fn}{m:Nat}:∀(D:LL)(ls:List Nat),(∀(i:Nat)(r:List Int)(l:Nat),D[i]?=some r→ls[i]?=some l→∀j,j<l→r.getD j 0=0)→Sp p (RS (D.filter (oD m))) (lQ w m D ls)
 | [],_,_=>.zero
 |_::_,[],_=>.zero
 |r::D,l::ls,h=>by
  have ih:=PH (p:=p) (w:=w) (m:=m) D ls λi r' l' h1 h2=>h (i+1) r' l' (by simpa using h1) (by simpa using h2);have sub:Sp p (RS ((r::D).filter (oD m))) (lQ w m D ls):=ih.trans λf ⟨q,hq,e⟩=>.mem ⟨q,by
   rw[List.filter_cons];split
   ·exact dU _ hq
   ·exact hq,e⟩
  unfold lQ;by_cases hm:m≤l
  ·simp only[hm,if_true];refine Sp.add (w l) sub ⟨r,?_,rfl⟩;rw[List.filter_cons,PF (h 0 r l rfl rfl) hm,ae rfl];exact cP
  ·simp only[hm,if_false,Int.zero_mul,Int.add_zero];exact sub
theorem PJ{w:Fn}{m j:Nat}:∀(D:LL)(ls:List Nat),(∀(i:Nat)(r:List Int),D[i]?=some r→r.getD j 0=0)→lQ w m D ls j=0
 | [],_,_=>rfl
 |_::_,[],_=>rfl
 |r::D,l::ls,h=>by
  show lQ w m D ls j+_*r.getD j 0=0;rw[PJ D ls λi r' hr=>h (i+1) r' (by simpa using hr),h 0 r rfl];simp
theorem aad{w:Fn}{k:Nat}:∀(D:LL)(ls:List Nat),D.length=ls.length→ls[k]?=some j→(∀(i:Nat)(r:List Int),D[i]?=some r→r.getD j 0=if i=k then 1 else 0)→lQ w m D ls j=if m≤j then w j else 0:=by
 induction k with
 |zero=>
  intro D ls hl hk h
  match D,ls,hl,hk with
  | [],[],_,hk=>simp at hk
  |r::D,l::ls,_,hk=>
   cases hk;show lQ w m D ls j+(if m≤j then w j else 0)*r.getD j 0=_
   rw[PJ D ls λi r' hr=>by simpa using h (i+1) r' (by simpa using hr),h 0 r rfl];simp
 |succ k ih=>
  intro D ls hl hk h
  match D,ls,hl,hk with
  | [],[],_,hk=>simp at hk
  |r::D,l::ls,hl,hk=>
   show lQ w m D ls j+_*r.getD j 0=_;rw[ih D ls (by simpa using hl) (by simpa using hk) λi r' hr=>by simpa using h (i+1) r' (by simpa using hr),h 0 r rfl];simp
theorem aae{w:Fn}(E:fu n n D ls)(h:Sp p (RS D) w)(hz:∀j,j<m→p∣w j):Sp p (RS (D.filter (oD m))) w:=by
 have s1:Sp p (RS (D.filter (oD m))) (lQ w m D ls):=PH D ls λi r l h1 h2=>(E.one i r l h1 h2).2;have s2:Sp p (RS D) (lQ w m D ls):=s1.trans λf ⟨q,hq,e⟩=>.mem ⟨q,(jZ.mp hq).1,e⟩;have s3:Sp p (RS D) (λj=>w j + -1*lQ w m D ls j):=h.plus (-1) s2;have z:=E.lead.zero (E.sp s3) λl r hl hr=>by
  obtain⟨i,h1,h2⟩:=wD hr;have e:=aad (w:=w) (m:=m) (k:=i) D ls E.len.symm h2 λi' r' kG=>by
   by_cases ei:i'=i
   ·subst ei;rw[ae rfl];exact(E.one i' r' l kG h2).1
   ·rw[af ei];exact E.alone i i' r' l (λz=>ei z.symm) kG h2
  show p∣w l + -1*lQ w m D ls l;rw[e];by_cases hm:m≤l
  ·rw[ae hm];exact⟨0,by lia⟩
  ·rw[af hm]
   have:=hz l (by lia)
   simpa using this
 refine .cR s1 λj=>?_
 have:=nh.mpr (z j)
 rwa[show -(w j + -1*lQ w m D ls j)=lQ w m D ls j-w j by lia]at this
theorem xf{b:List Int}:(a++b).getD j 0=if j<a.length then a.getD j 0 else b.getD (j-a.length) 0:=by
 by_cases h:j<a.length
 ·rw[ae h,cz,iA h,cz]
 ·rw[af h,cz,iL (by lia),cz]
theorem zR{k:Nat}:(a.take k).getD j 0=if j<k then a.getD j 0 else 0:=by
 rw[cz,List.getElem?_take];by_cases h:j<k
 ·rw[ae h,ae h,cz]
 ·rw[af h,af h];rfl
theorem qj{k:Nat}:(a.drop k).getD j 0=a.getD (k+j) 0:=by
 rw[cz,t8,cz]
theorem DG{k:Nat}:(List.replicate k (0:Int)).getD j 0=0:=by
 rw[cz,vL];split<;>rfl
noncomputable def kK(l r:Nat)(j:Nat):Option (Int×Nat):=if j<r then some (1,l+j)else if j<r+l then some (1,j-r)else some (1,j)
noncomputable def jy(l r l' r':Nat)(j:Nat):Option (Int×Nat):=if j<l then some (1,j)else if j<l+l' then none else if j<l+l'+r then some (1,j-l')else if j<l+l'+r+r' then none else some (1,j-l' - r')
noncomputable def jz(l r l':Nat)(j:Nat):Option (Int×Nat):=if j<l then none else if j<l+l' then some (1,j-l)else if j<l+l'+r then none else some (1,j-l-r)
noncomputable def iG(l m r':Nat)(j:Nat):Option (Int×Nat):=if j<m then some (1,l+j)else if j<m+l then some (1,j-m)else if j<m+l+r' then none else some (1,j-r')
noncomputable def iH(l m:Nat)(j:Nat):Option (Int×Nat):=if j<m then some (-1,j)else if j<m+l then none else some (1,j-l)
noncomputable def xg(m:Nat)(j:Nat):Option (Int×Nat):=some (1,m+j)
theorem aaf(h:row.length=l+r+x)(j:Nat):fn (iD l r row) j=bt (kK l r) (fn row) j:=by
 unfold fn iD bt kK;have e1:((row.drop l).take r).length=r:=by rw[dv,fE];lia
 have e2:(row.take l).length=l:=by rw[dv];lia
 rw[xf,e1,xf,e2,zR,zR,qj,qj];by_cases h1:j<r
 ·simp only[h1,if_true,fV]
 ·by_cases h2:j<r+l
  ·simp only[h1,h2,if_true,if_false,show j-r<l by lia,fV]
  ·simp only[h1,h2,if_false,show ¬j-r<l by lia,fV,show l+r+(j-r-l)=j by lia]
theorem PK(h:row.length=l+r+x)(j:Nat):fn (sZ l r l' r' row) j=bt (jy l r l' r') (fn row) j:=by
 unfold fn sZ bt jy;have e1:(row.take l).length=l:=by rw[dv];lia
 have e2:((row.drop l).take r).length=r:=by rw[dv,fE];lia
 simp only[xf,cx,gG,e1,e2,zR,qj,DG];by_cases h1:j<l
 ·simp only[h1,if_true,show j<l+l' by lia,show j<l+l'+r by lia,show j<l+l'+r+r' by lia,fV]
 ·by_cases h2:j<l+l'
  ·simp only[h1,h2,if_true,if_false,show j<l+l'+r by lia,show j<l+l'+r+r' by lia]
  ·by_cases h3:j<l+l'+r
   ·simp only[h1,h2,h3,if_true,if_false,show j<l+l'+r+r' by lia,show j-(l+l')<r by lia,fV,show l+(j-(l+l'))=j-l' by lia]
   ·by_cases h4:j<l+l'+r+r'
    ·simp only[h1,h2,h3,h4,if_true,if_false]
    ·simp only[h1,h2,h3,h4,if_false,fV,show l+r+(j-(l+l'+r+r'))=j-l' - r' by lia]
theorem PL(h:row.length=l'+x)(j:Nat):fn (tj l r l' row) j=bt (jz l r l') (fn row) j:=by
 unfold fn tj bt jz;have e1:(row.take l').length=l':=by rw[dv];lia
 simp only[xf,cx,gG,e1,zR,qj,DG];by_cases h1:j<l
 ·simp only[h1,if_true,show j<l+l' by lia,show j<l+l'+r by lia]
 ·by_cases h2:j<l+l'
  ·simp only[h1,h2,if_true,if_false,show j<l+l'+r by lia,show j-l<l' by lia,fV]
  ·by_cases h3:j<l+l'+r
   ·simp only[h1,h2,h3,if_true,if_false]
   ·simp only[h1,h2,h3,if_false,fV,show l'+(j-(l+l'+r))=j-l-r by lia]
theorem PM(h:row.length=l+m+x)(j:Nat):fn (tE l m r' row) j=bt (iG l m r') (fn row) j:=by
 unfold fn tE bt iG;have e1:(row.take l).length=l:=by rw[dv];lia
 have e2:((row.drop l).take m).length=m:=by rw[dv,fE];lia
 simp only[xf,cx,gG,e1,e2,zR,qj,DG];by_cases h1:j<m
 ·simp only[h1,if_true,show j<m+l by lia,show j<m+l+r' by lia,fV]
 ·by_cases h2:j<m+l
  ·simp only[h1,h2,if_true,if_false,show j<m+l+r' by lia,show j-m<l by lia,fV]
  ·by_cases h3:j<m+l+r'
   ·simp only[h1,h2,h3,if_true,if_false]
   ·simp only[h1,h2,h3,if_false,fV,show l+m+(j-(m+l+r'))=j-r' by lia]
theorem aag(j:Nat):fn (row.drop m) j=bt (xg m) (fn row) j:=by
 unfold fn bt xg;rw[qj];simp
theorem PN(h:row.length=m+x):eF p (fn (tF p l m row)) (bt (iH l m) (fn row)):=λj=>by
 unfold fn tF bt iH;have e1:(((row.take m).map λn=>(-n)%p)).length=m:=by rw[bj,dv];lia
 simp only[xf,cx,gG,e1,qj,DG];by_cases h1:j<m
 ·have e2:((row.take m).map λn=>(-n)%p).getD j 0=(-(row.getD j 0))%p:=by
   have hj:j<(row.take m).length:=by rw[dv];lia
   rw[cz,du,cn hj,cz,cn (by lia:j<row.length),List.getElem_take];rfl
  simp only[h1,if_true,show j<m+l by lia,e2]
  have:=oh p (-(row.getD j 0))
  rwa[show -(row.getD j 0)=-1*row.getD j 0 by lia]at this ⊢
 ·by_cases h2:j<m+l
  ·simp only[h1,h2,if_true,if_false];exact⟨0,by lia⟩
  ·simp only[h1,h2,if_false,fV,show m+(j-(m+l))=j-l by lia];exact⟨0,by lia⟩
theorem aah{c:Int}(j:Nat):bt s (λi=>u i+c*v i) j=bt s u j+c*bt s v j:=by
 unfold bt;cases s j with
 |none=>simp
 |some a=>
  show a.1*(u a.2+c*v a.2)=a.1*u a.2+c*(a.1*v a.2);rw[Int.mul_add,← Int.mul_assoc,← Int.mul_assoc,nR c]
theorem pw{g:List Int→List Int}(hg:∀r∈L,eF p (fn (g r)) (bt s (fn r))){f:Fn}:Sp p (RS (L.map g)) f↔∃u,Sp p (RS L) u∧eF p (bt s u) f:=by
 constructor
 ·intro h;induction h with
  |zero=>exact⟨_,.zero,λj=>⟨0,by unfold bt;cases s j<;>simp⟩⟩
  | @add v r c _ hr ih=>
   obtain⟨u,hu,e⟩:=ih;obtain⟨q,hq,rfl⟩:=hr;obtain⟨r0,C1,rfl⟩:=dq.mp hq;refine⟨_,hu.add c ⟨r0,C1,rfl⟩,λj=>?_⟩;rw[aah];have h1:=e j;have h2:p∣c*(fn (g r0) j-bt s (fn r0) j):=xT (hg r0 C1 j);have h3:=jI h1 h2;rwa[show bt s u j-v j-c*(fn (g r0) j-bt s (fn r0) j)=bt s u j+c*bt s (fn r0) j-(v j+c*fn (g r0) j) by rw[Int.mul_sub];lia]at h3
  |cR _ e ih=>
   obtain⟨u,hu,e'⟩:=ih;exact⟨u,hu,e'.trans e⟩
 ·rintro⟨u,hu,e⟩;refine .cR (aac (s:=s) (R':=RS (L.map g)) (λr ⟨q,hq,er⟩=>?_) hu) e;rw[er];exact .cR (sQ (xV hq)) (hg q hq)
theorem Jl{L':LL}{f:Fn}:Sp p (RS (L++L')) f↔∃u v,Sp p (RS L) u∧Sp p (RS L') v∧eF p (λj=>u j+v j) f:=by
 constructor
 ·intro h;induction h with
  |zero=>exact⟨_,_,.zero,.zero,λj=>⟨0,by simp⟩⟩
  | @add v r c _ hr ih=>
   obtain⟨u,v',hu,hv,e⟩:=ih;obtain⟨q,hq,rfl⟩:=hr;rcases(dm.mp hq)with z|z
   ·refine⟨_,v',hu.add c ⟨q,z,rfl⟩,hv,λj=>?_⟩
    have:=e j
    dsimp only at this ⊢;rwa[show u j+c*fn q j+v' j-(v j+c*fn q j)=u j+v' j-v j by lia]
   ·refine⟨u,_,hu,hv.add c ⟨q,z,rfl⟩,λj=>?_⟩
    have:=e j
    dsimp only at this ⊢;rwa[show u j+(v' j+c*fn q j)-(v j+c*fn q j)=u j+v' j-v j by lia]
  |cR _ e ih=>
   obtain⟨u,v',hu,hv,e'⟩:=ih;exact⟨u,v',hu,hv,e'.trans e⟩
 ·rintro⟨u,v,hu,hv,e⟩;have h1:Sp p (RS (L++L')) u:=qd (λr hr=>sQ (nc _ hr)) hu;have h2:Sp p (RS (L++L')) v:=qd (λr hr=>sQ (iX _ hr)) hv;exact .cR ((h1.plus 1 h2).of_eq λj=>by rw[fV]) e
theorem DH(pp:p∈cX)(h:ck p n L){f:Fn}:Sp p (RS (dI p L)) f↔Sp p (RS L) f:=⟨qd (jr pp h).sub,qd (jr pp h).sup⟩
section
variable{p:Int}{f:Fn}
theorem mK(h:∀j,u j=v j):eF p u v:=λj=>⟨0,by rw[h j];lia⟩
theorem PQ(f:Fn)(j:Nat):bt (kK l r) (bt (kK r l) f) j=f j:=by
 unfold bt kK;by_cases h1:j<r
 ·simp only[h1,if_true,show ¬l+j<l by lia,if_false,show l+j<l+r by lia,fV,show l+j-l=j by lia]
 ·by_cases h2:j<r+l
  ·simp only[h1,h2,if_true,if_false,show j-r<l by lia,fV,show r+(j-r)=j by lia]
  ·simp only[h1,h2,if_false,show ¬j<l by lia,show ¬j<l+r by lia,fV]
theorem aai{aN:LL}(h:ck p (l+r+x) aN):Sp p (RS (aN.map (iD l r))) f↔Sp p (RS aN) (bt (kK r l) f):=by
 rw[pw (s:=kK l r) (λq hq=>mK (aaf (x:=x) (h q hq).1))];constructor
 ·rintro⟨u,hu,e⟩;refine .cR hu ?_;exact(mK λj=>(PQ (l:=r) (r:=l) u j).symm).trans (PD e)
 ·intro h;exact⟨_,h,mK (PQ f)⟩
theorem aaj{aN:LL}(h:ck p (l+r+x) aN)(h':ck p (l'+r'+x') bY) :
  Sp p (RS (nG l r l' r' aN bY)) f↔∃u v,Sp p (RS aN) u∧Sp p (RS bY) v∧eF p (λj=>bt (jy l r l' r') u j+bt (jz l r l') v j) f:=by
 unfold nG;rw[Jl];constructor
 ·rintro⟨u,v,hu,hv,e⟩;obtain⟨u0,Jm,eu⟩:=(pw (s:=jy l r l' r') (λq hq=>mK (PK (x:=x) (h q hq).1))).mp hu;obtain⟨v0,Jn,ev⟩:=(pw (s:=jz l r l') (λq hq=>mK (PL (x:=r'+x') (by rw[(h' q hq).1];lia)))).mp hv;refine⟨u0,v0,Jm,Jn,λj=>?_⟩
  have:=pH (pH (eu j) (ev j)) (e j)
  dsimp only at this ⊢;rwa[show bt (jy l r l' r') u0 j-u j+(bt (jz l r l') v0 j-v j)+(u j+v j-f j)=bt (jy l r l' r') u0 j+bt (jz l r l') v0 j-f j by lia]at this
 ·rintro⟨u,v,hu,hv,e⟩;exact⟨_,_,(pw (s:=jy l r l' r') (λq hq=>mK (PK (x:=x) (h q hq).1))).mpr ⟨u,hu,.refl _ _⟩,(pw (s:=jz l r l') (λq hq=>mK (PL (x:=r'+x') (by rw[(h' q hq).1];lia)))).mpr ⟨v,hv,.refl _ _⟩,e⟩
theorem PR{aN:LL}(h:ck p (l+m+x) aN)(h':ck p (m+r'+x') bY) :
  Sp p (RS (pq p l m r' aN bY)) f↔∃u v,Sp p (RS aN) u∧Sp p (RS bY) v∧eF p (λj=>bt (iG l m r') u j+bt (iH l m) v j) f:=by
 unfold pq;rw[Jl];constructor
 ·rintro⟨u,v,hu,hv,e⟩;obtain⟨u0,Jm,eu⟩:=(pw (s:=iG l m r') (λq hq=>mK (PM (x:=x) (h q hq).1))).mp hu;obtain⟨v0,Jn,ev⟩:=(pw (s:=iH l m) (λq hq=>PN (x:=r'+x') (by rw[(h' q hq).1];lia))).mp hv;refine⟨u0,v0,Jm,Jn,λj=>?_⟩
  have:=pH (pH (eu j) (ev j)) (e j)
  dsimp only at this ⊢;rwa[show bt (iG l m r') u0 j-u j+(bt (iH l m) v0 j-v j)+(u j+v j-f j)=bt (iG l m r') u0 j+bt (iH l m) v0 j-f j by lia]at this
 ·rintro⟨u,v,hu,hv,e⟩;exact⟨_,_,(pw (s:=iG l m r') (λq hq=>mK (PM (x:=x) (h q hq).1))).mpr ⟨u,hu,.refl _ _⟩,(pw (s:=iH l m) (λq hq=>PN (x:=r'+x') (by rw[(h' q hq).1];lia))).mpr ⟨v,hv,.refl _ _⟩,e⟩
theorem PU{r:List Int}(h:oD m r=true)(hj:j<m):r.getD j 0=0:=by
 unfold oD at h;rw[Bool.not_eq_true',List.any_eq_false]at h;by_cases hl:j<r.length
 ·have hm:r[j]∈r.take m:=l5.mpr ⟨j,by rw[dv];lia,List.getElem_take ..⟩
  have:=h _ hm
  rw[cz,cn hl];simpa using this
 ·rw[cz,jj (by lia)];rfl
theorem Jo{w:Fn}(hL:∀r∈L,r.getD j 0=0)(h:Sp p (RS L) w):p∣w j:=by
 induction h with
 |zero=>exact⟨0,by simp⟩
 | @add v r c _ hr ih=>
  obtain⟨q,hq,rfl⟩:=hr;show p∣v j+c*q.getD j 0;rw[hL q hq];simpa using ih
 |cR _ e ih=>
  have:=jI ih (e j)
  rename_i u v _
  rwa[show v j-(v j-u j)=u j by lia]at this
theorem PV(v:Fn)(h:j<m):bt (iH l m) v j=-v j:=by
 unfold bt iH;simp only[h,if_true];lia
theorem PX(u:Fn)(h:j<m):bt (iG l m r') u j=u (l+j):=by
 unfold bt iG;simp only[h,if_true,fV]
theorem aak{N:Nat}{aN:LL}(pp:p∈cX)(h:ck p (l+m+x) aN)(h':ck p (m+r'+x') bY)(hN:ck p N (pq p l m r' aN bY)) :
  Sp p (RS (nH p l m r' aN bY)) f↔∃u v,Sp p (RS aN) u∧Sp p (RS bY) v∧(∀j,j<m→p∣u (l+j)-v j)∧eF p (λj=>bt (iG l m r') u (m+j)+bt (iH l m) v (m+j)) f:=by
 have RO:=jr pp hN;obtain⟨ls,E⟩:=RO.jn;unfold nH;rw[pw (s:=xg m) (λq hq=>mK (λj=>aag j))];constructor
 ·rintro⟨w,hw,e⟩;have hz:∀j,j<m→p∣w j:=λj hj=>Jo (λr hr=>PU (jZ.mp hr).2 hj) hw;have hw':Sp p (RS (pq p l m r' aN bY)) w:=(DH pp hN).mp (qd (λr hr=>sQ (jZ.mp hr).1) hw);obtain⟨u,v,hu,hv,ew⟩:=(PR h h').mp hw';refine⟨u,v,hu,hv,λj hj=>?_,λj=>?_⟩
  ·have h1:=ew j;dsimp only at h1;rw[PV v hj,PX u hj]at h1
   have:=pH h1 (hz j hj)
   rwa[show u (l+j) + -v j-w j+w j=u (l+j)-v j by lia]at this
  ·have h1:=ew (m+j);have h2:=e j;have h3:bt (xg m) w j=w (m+j):=by unfold bt xg;simp
   rw[h3]at h2
   have:=pH h1 h2
   dsimp only at this ⊢;rwa[show bt (iG l m r') u (m+j)+bt (iH l m) v (m+j)-w (m+j)+(w (m+j)-f j)=bt (iG l m r') u (m+j)+bt (iH l m) v (m+j)-f j by lia]at this
 ·rintro⟨u,v,hu,hv,hm,e⟩;refine⟨λj=>bt (iG l m r') u j+bt (iH l m) v j,?_,?_⟩
  ·refine aae E ((DH pp hN).mpr ((PR h h').mpr ⟨u,v,hu,hv,.refl _ _⟩)) λj hj=>?_;show p∣bt (iG l m r') u j+bt (iH l m) v j;rw[PV v hj,PX u hj]
   have:=hm j hj
   rwa[show u (l+j) + -v j=u (l+j)-v j by lia]
  ·refine(mK λj=>?_).trans e;unfold bt xg;simp
end
def Drw.cK(p:Int):Drw→Prop
 | .box x l r aN=>(x,l,r,aN)∈e8∨(x=Str.ofString "late"∧l=1∧r=1)
 | .times n=>0≤n∧n<p
 | .back d=>d.cK p
 | .cJ a b=>a.cK p∧b.cK p
 | .bf a b=>a.cK p∧b.cK p∧a.aM=b.aI
noncomputable def Drw.aK:Drw→Nat
 | .box x _ _ _=>if x=Str.ofString "late" then 1 else 0
 | .times _=>0
 | .back d=>d.aK
 | .cJ a b=>a.aK+b.aK
 | .bf a b=>a.aK+b.aK
noncomputable def eW(n i:Nat):List Int:=List.replicate i 0++([1]++List.replicate (n-i-1) 0)
noncomputable def Drw.eB(p:Int)(w:Nat):Nat→Drw→LL
 |c,.box x _ _ aN=>if x=Str.ofString "late" then[[1,0]++eW (2*w) (w+c),[0,1]++eW (2*w) c]else aN.map (·++List.replicate (2*w) 0)
 |_,.times n=>[[1,n]++List.replicate (2*w) 0]
 |c,.back d=>dI p ((Drw.eB p w c d).map (iD d.aI d.aM))
 |c,.cJ a b=>dI p (nG a.aI a.aM b.aI b.aM (Drw.eB p w c a) (Drw.eB p w (c+a.aK) b))
 |c,.bf a b=>nH p a.aI a.aM b.aM (Drw.eB p w c a) (Drw.eB p w (c+a.aK) b)
theorem Jp(p2:2≤p){i:Nat}(h:i<n):Rw p n (eW n i):=by
 refine⟨?_,λx hx=>?_⟩
 ·unfold eW;rw[cx,cx,gG,gG];show i+(1+_)=n;lia
 ·unfold eW at hx;rcases(dm.mp hx)with h|h
  ·rw[List.eq_of_mem_replicate h];lia
  ·rcases(dm.mp h)with h|h
   ·rw[cQ.mp h];lia
   ·rw[List.eq_of_mem_replicate h];lia
theorem DI{b:List Int}(h:Rw p n a)(k:Rw p m b):Rw p (n+m) (a++b):=⟨by rw[cx,h.1,k.1],λx hx=>by
 rcases(dm.mp hx)with z|z
 ·exact h.2 x z
 ·exact k.2 x z⟩
theorem PY(p2:2≤p)(n:Nat):Rw p n (List.replicate n 0):=⟨gG,λx hx=>by rw[List.eq_of_mem_replicate hx];lia⟩
theorem tH:∀e∈e8,e.1≠Str.ofString "late":=by decide +kernel
theorem Drw.jA{p:Int}(pp:p∈cX){w:Nat}(hw:w≤40):∀{d:Drw}{c:Nat},d.cK p→d.sm→c+d.aK≤w→d.aI≤100∧d.aM≤100∧(d.eB p w c).length≤400∧ck p (d.aI+d.aM+2*w) (d.eB p w c)
 | .box x l r aN,c,h,_,hc=>by
  obtain⟨p2,_⟩:=fI p pp;rcases h with h|⟨rfl,rfl,rfl⟩
  ·have nb:=tH _ h;obtain⟨h1,h2,h3,h4⟩:=uT _ h;refine⟨eJ h1 (by decide),eJ h2 (by decide),?_,λq hq=>?_⟩
   ·unfold Drw.eB;rw[af nb,bj];exact eJ h3 (by decide)
   ·unfold Drw.eB at hq;rw[af nb]at hq;obtain⟨y,hy,rfl⟩:=dq.mp hq;exact DI ⟨(h4 y hy).1,λz hz=>by have:=(h4 y hy).2 z hz;lia⟩ (PY p2 _)
  ·have hc:c+1≤w:=hc;refine⟨by show 1≤100;decide,by show 1≤100;decide,?_,λq hq=>?_⟩
   ·unfold Drw.eB;rw[ae rfl];show 2≤400;decide
   ·unfold Drw.eB at hq;rw[ae rfl]at hq;rcases(cS.mp hq)with rfl|hq
    ·exact DI (n:=2) ⟨rfl,λz hz=>by rcases(cS.mp hz)with rfl|hz;lia;rw[cQ.mp hz];lia⟩ (Jp p2 (by lia))
    ·rw[cQ.mp hq];exact DI (n:=2) ⟨rfl,λz hz=>by rcases(cS.mp hz)with rfl|hz;lia;rw[cQ.mp hz];lia⟩ (Jp p2 (by lia))
 | .times n,c,h,_,_=>by
  obtain⟨p2,_⟩:=fI p pp;have h:0≤n∧n<p:=h;refine⟨by show 1≤100;decide,by show 1≤100;decide,by show 1≤400;decide,λq hq=>?_⟩;rw[cQ.mp hq];exact DI (n:=2) ⟨rfl,λz hz=>by rcases(cS.mp hz)with rfl|hz;lia;rw[cQ.mp hz];exact h⟩ (PY p2 _)
 | .back d,c,h,hl,hc=>by
  obtain⟨a1,a2,a3,a4⟩:=Drw.jA pp hw (d:=d) (c:=c) h hl hc;have hS:ck p (d.aM+d.aI+2*w) ((d.eB p w c).map (iD d.aI d.aM)):=λx hx=>by
   obtain⟨y,hy,e⟩:=dq.mp hx;rw[← e];exact zD (a4 y hy)
  have:=sS hS
  exact⟨a2,a1,eJ this (by lia),(jr pp hS).rws⟩
 | .cJ a b,c,h,hl,hc=>by
  obtain⟨p2,_⟩:=fI p pp;have hc:c+(a.aK+b.aK)≤w:=hc;obtain⟨a1,a2,a3,a4⟩:=Drw.jA pp hw (d:=a) (c:=c) h.1 hl.1 (by lia);obtain⟨b1,b2,b3,b4⟩:=Drw.jA pp hw (d:=b) (c:=c+a.aK) h.2 hl.2.1 (by lia);have hS:=zJ (by lia) a4 b4;have hz:=sS hS;have h3:=hl.2.2.1;have h4:=hl.2.2.2;exact⟨h3,h4,eJ hz (by lia),(jr pp hS).rws⟩
 | .bf a b,c,h,hl,hc=>by
  have hc:c+(a.aK+b.aK)≤w:=hc;obtain⟨a1,a2,a3,a4⟩:=Drw.jA pp hw (d:=a) (c:=c) h.1 hl.1 (by lia);obtain⟨b1,b2,b3,b4⟩:=Drw.jA pp hw (d:=b) (c:=c+a.aK) h.2.1 hl.2 (by lia);have b4:ck p (a.aM+b.aM+2*w) (b.eB p w (c+a.aK)):=by rw[h.2.2];exact b4
  have hz:=Pp pp a4 b4;exact⟨a1,b2,eJ hz (by lia),Po pp a4 b4⟩
def kh(p:Int)(w:Nat):Nat→Drw→Fn→Prop
 |c,.box x l r aN,f=>Sp p (RS ((Drw.box x l r aN).eB p w c)) f
 |c,.times n,f=>Sp p (RS ((Drw.times n).eB p w c)) f
 |c,.back d,f=>kh p w c d (bt (kK d.aM d.aI) f)
 |c,.cJ a b,f=>∃u v,kh p w c a u∧kh p w (c+a.aK) b v∧eF p (λj=>bt (jy a.aI a.aM b.aI b.aM) u j+bt (jz a.aI a.aM b.aI) v j) f
 |c,.bf a b,f=>∃u v,kh p w c a u∧kh p w (c+a.aK) b v∧(∀j,j<a.aM→p∣u (a.aI+j)-v j)∧eF p (λj=>bt (iG a.aI a.aM b.aM) u (a.aM+j)+bt (iH a.aI a.aM) v (a.aM+j)) f
theorem qk{p:Int}(pp:p∈cX){w:Nat}(hw:w≤40):∀{d:Drw}{c:Nat},d.cK p→d.sm→c+d.aK≤w→∀f,Sp p (RS (d.eB p w c)) f↔kh p w c d f
 | .box x l r aN,c,_,_,_=>λf=>Iff.rfl
 | .times n,c,_,_,_=>λf=>Iff.rfl
 | .back d,c,h,hl,hc=>λf=>by
  obtain⟨_,_,_,hR⟩:=Drw.jA pp hw (d:=d) (c:=c) h hl hc;have hS:ck p (d.aM+d.aI+2*w) ((d.eB p w c).map (iD d.aI d.aM)):=λx hx=>by
   obtain⟨y,hy,e⟩:=dq.mp hx;rw[← e];exact zD (hR y hy)
  show Sp p (RS (dI p _)) f↔kh p w c d _;rw[DH pp hS,aai hR,qk pp hw (d:=d) h hl hc]
 | .cJ a b,c,h,hl,hc=>λf=>by
  obtain⟨p2,_⟩:=fI p pp;have hc:c+(a.aK+b.aK)≤w:=hc;have c1:c+a.aK≤w:=by lia
  have c2:c+a.aK+b.aK≤w:=by lia
  obtain⟨_,_,_,hA⟩:=Drw.jA pp hw (d:=a) (c:=c) h.1 hl.1 c1;obtain⟨_,_,_,hB⟩:=Drw.jA pp hw (d:=b) (c:=c+a.aK) h.2 hl.2.1 c2;show Sp p (RS (dI p _)) f↔∃u v,kh p w c a u∧kh p w (c+a.aK) b v∧_;rw[DH pp (zJ (by lia) hA hB),aaj hA hB];constructor
  ·rintro⟨u,v,hu,hv,e⟩;exact⟨u,v,(qk pp hw h.1 hl.1 c1 u).mp hu,(qk pp hw h.2 hl.2.1 c2 v).mp hv,e⟩
  ·rintro⟨u,v,hu,hv,e⟩;exact⟨u,v,(qk pp hw h.1 hl.1 c1 u).mpr hu,(qk pp hw h.2 hl.2.1 c2 v).mpr hv,e⟩
 | .bf a b,c,h,hl,hc=>λf=>by
  obtain⟨p2,_⟩:=fI p pp;have hc:c+(a.aK+b.aK)≤w:=hc;have c1:c+a.aK≤w:=by lia
  have c2:c+a.aK+b.aK≤w:=by lia
  obtain⟨_,_,_,hA⟩:=Drw.jA pp hw (d:=a) (c:=c) h.1 hl.1 c1;obtain⟨_,_,_,hB⟩:=Drw.jA pp hw (d:=b) (c:=c+a.aK) h.2.1 hl.2 c2;have DJ:ck p (a.aM+b.aM+2*w) (b.eB p w (c+a.aK)):=by rw[h.2.2];exact hB
  show Sp p (RS (nH p _ _ _ _ _)) f↔∃u v,kh p w c a u∧kh p w (c+a.aK) b v∧_;rw[aak pp hA DJ (zM (by lia) hA DJ)];constructor
  ·rintro⟨u,v,hu,hv,e⟩;exact⟨u,v,(qk pp hw h.1 hl.1 c1 u).mp hu,(qk pp hw h.2.1 hl.2 c2 v).mp hv,e⟩
  ·rintro⟨u,v,hu,hv,e⟩;exact⟨u,v,(qk pp hw h.1 hl.1 c1 u).mpr hu,(qk pp hw h.2.1 hl.2 c2 v).mpr hv,e⟩
def Ok(p:Int)(d:Drw):Prop:=d.wf p∧d.sm
theorem Ok.back{p:Int}{d:Drw}(o:Ok p (.back d)):Ok p d:=⟨o.1,o.2⟩
theorem Ok.PZ{a:Drw}(o:Ok p (.cJ a b)):Ok p a:=⟨o.1.1,o.2.1⟩
theorem Ok.P0{a:Drw}(o:Ok p (.cJ a b)):Ok p b:=⟨o.1.2,o.2.2.1⟩
theorem Ok.P4{a:Drw}(o:Ok p (.bf a b)):Ok p a:=⟨o.1.1,o.2.1⟩
theorem Ok.P5{a:Drw}(o:Ok p (.bf a b)):Ok p b:=⟨o.1.2.1,o.2.2⟩
theorem Jq{α:Type}{f:α→Bool}:∀{D:List α}{k:Nat},(∀(i:Nat)(r:α),D[i]?=some r→(f r=true↔k≤i))→D.filter f=D.drop k
 | [],_,_=>by simp
 |r::D,0,h=>by
  have h0:=(h 0 r rfl).mpr (kj _);rw[List.filter_cons,ae h0,Jq (D:=D) (k:=0) λi q hq=>?_,List.drop_zero,List.drop_zero]
  have:=h (i+1) q hq
  exact⟨λ_=>kj _,λ_=>this.mpr (kj _)⟩
 |r::D,k+1,h=>by
  have h0:¬f r=true:=λz=>absurd ((h 0 r rfl).mp z) (by lia);rw[List.filter_cons,af h0,Jq (D:=D) (k:=k) λi q hq=>?_,List.drop_succ_cons];rw[h (i+1) q hq];lia
theorem P6{m:Nat}:∀{ls:List Nat},ls.Pairwise (· < ·)→∃k,∀(i l:Nat),ls[i]?=some l→(m≤l↔k≤i)
 | [],_=>⟨0,λi l h=>by simp at h⟩
 |a::ls,h=>by
  rw[Bd]at h;obtain⟨k,hk⟩:=P6 (m:=m) h.2;by_cases c:m≤a
  ·refine⟨0,λi l hl=>⟨λ_=>kj _,λ_=>?_⟩⟩;cases i with
   |zero=>cases hl;exact c
   |succ i=>have:=h.1 l (dY (show ls[i]?=some l from hl));lia
  ·refine⟨k+1,λi l hl=>?_⟩;cases i with
   |zero=>cases hl;lia
   |succ i=>rw[hk i l hl];lia
theorem aal(E:fu n n D ls)(N:Nat)(hN:N+m=n):∃rg,fu N N ((D.filter (oD m)).map λr=>r.drop m) rg:=by
 obtain⟨k,hk⟩:=P6 (m:=m) E.up;have at_:∀(i:Nat)(r:List Int),D[i]?=some r→∃l,ls[i]?=some l:=λi r hr=>by
  have:=(dO.mp hr).1
  exact⟨ls[i]'(by rw[E.len];exact this),cn _⟩
 have ef:D.filter (oD m)=D.drop k:=Jq λi r hr=>by
  obtain⟨l,hl⟩:=at_ i r hr;obtain⟨h1,h0⟩:=E.one i r l hr hl;rw[← hk i l hl];constructor
  ·intro z;by_cases c:m≤l
   ·exact c
   ·have:=PU z (j:=l) (by lia)
    lia
  ·intro c;exact PF h0 c
 rw[ef];have eD:∀(i:Nat)(q:List Int),((D.drop k).map λr=>r.drop m)[i]?=some q→∃r,D[k+i]?=some r∧q=r.drop m:=λi q hq=>by
  rw[du,t8]at hq;cases e:D[k+i]? with
  |none=>rw[e]at hq;cases hq
  |some r=>rw[e]at hq;cases hq;exact⟨r,rfl,rfl⟩
 have eL:∀(i l:Nat),((ls.drop k).map λl=>l-m)[i]?=some l→ls[k+i]?=some (l+m):=λi l hl=>by
  rw[du,t8]at hl;cases e:ls[k+i]? with
  |none=>rw[e]at hl;cases hl
  |some l'=>
   rw[e]at hl
   have:=(hk _ _ e).mpr (by lia)
   have hl:l' - m=l:=cN hl;rw[show l+m=l' by lia]
 refine⟨(ls.drop k).map λl=>l-m,by simp[E.len],?_,λl hl=>?_,λi q l hq hl=>?_,λi i' q l cB hq hl=>?_⟩
 ·rw[List.pairwise_map];refine List.Pairwise.imp_of_mem ?_ (E.up.drop (i:=k));intro a b ha hb hab;obtain⟨i,hi⟩:=List.getElem?_of_mem ha;rw[t8]at hi
  have:=(hk _ _ hi).mpr (by lia)
  lia
 ·obtain⟨i,hi⟩:=List.getElem?_of_mem hl
  have:=E.lt _ (dY (eL i l hi))
  lia
 ·obtain⟨r,hr,rfl⟩:=eD i q hq;obtain⟨h1,h0⟩:=E.one _ r _ hr (eL i l hl);refine⟨by rw[qj,Nat.add_comm];exact h1,λj hj=>?_⟩;rw[qj];exact h0 _ (by lia)
 ·obtain⟨r,hr,rfl⟩:=eD i' q hq;rw[qj,Nat.add_comm];exact E.alone _ _ r _ (by lia) hr (eL i l hl)
noncomputable def Jr(n:Nat)(D:LL)(ls:List Nat):Bool:=ls.length==D.length&&decide (ls.Pairwise (· < ·))&&ls.all (λl=>decide (l<n)) &&
 (List.range D.length).all λi=>(List.range D.length).all λj=>if i=j then(D.getD j []).getD (ls.getD i 0) 0==1&&(List.range (ls.getD i 0)).all (λt=>(D.getD j []).getD t 0==0)else(D.getD j []).getD (ls.getD i 0) 0==0
theorem getD_some{α:Type}{L:List α}{i:Nat}{x d:α}(h:L[i]?=some x):L.getD i d=x:=by rw[cz,h];rfl
theorem aam(h:Jr n D ls=true):fu n n D ls:=by
 unfold Jr at h;simp only[fg,beq_iff_eq,aF,pG,nN]at h;obtain⟨⟨⟨g1,g2⟩,g3⟩,h4⟩:=h;refine⟨g1,g2,g3,λi r l hr hl=>?_,λi i' r l cB hr hl=>?_⟩
 ·have hi:=(dO.mp hr).1
  have:=h4 i hi i hi
  rw[ae rfl,getD_some hr,getD_some hl]at this;simp only[fg,beq_iff_eq,pG,nN]at this;exact this
 ·have hi:=(dO.mp hl).1;have jq:=(dO.mp hr).1
  have:=h4 i (by lia) i' jq
  rw[af cB,getD_some hr,getD_some hl]at this;simpa using this
theorem aan:∀e∈e8,Jr (e.2.1+e.2.2.1) e.2.2.2 (Cd e.2.2.2)=true:=by decide +kernel
theorem Drw.jn{p:Int}(pp:p∈cX):∀{d:Drw},Ok p d→∃ls,fu (d.aI+d.aM) (d.aI+d.aM) (d.aN p) ls
 | .box x l r aN,o=>⟨_,aam (aan _ o.1)⟩
 | .times n,_=>⟨[0],by
  refine⟨rfl,by simp,λl hl=>by rw[cQ.mp hl];show 0<1+1;decide,λi r l hr hl=>?_,λi i' r l cB hr hl=>?_⟩
  ·cases i with
   |zero=>cases hr;cases hl;exact⟨rfl,λj hj=>absurd hj (by lia)⟩
   |succ i=>cases hl
  ·cases i with
   |zero=>
    cases i' with
    |zero=>exact absurd rfl cB
    |succ i'=>cases hr
   |succ i=>cases hl⟩
 | .back d,o=>by
  obtain⟨_,_,_,hR⟩:=Drw.good pp o.back.1 o.back.2;have hS:ck p (d.aM+d.aI) ((d.aN p).map (iD d.aI d.aM)):=λx hx=>by
   obtain⟨y,hy,e⟩:=dq.mp hx;rw[← e];exact zD (x:=0) (hR y hy)
  exact(jr pp hS).jn
 | .cJ a b,o=>by
  obtain⟨p2,_⟩:=fI p pp;obtain⟨_,_,_,hA⟩:=Drw.good pp o.PZ.1 o.PZ.2;obtain⟨_,_,_,hB⟩:=Drw.good pp o.P0.1 o.P0.2;have hS:=zJ (x:=0) (by lia) hA hB;obtain⟨ls,E⟩:=(jr pp hS).jn;have e:(Drw.cJ a b).aI+(Drw.cJ a b).aM=a.aI+b.aI+(a.aM+b.aM):=rfl;refine⟨ls,?_⟩;rw[e];exact E
 | .bf a b,o=>by
  obtain⟨p2,_⟩:=fI p pp;obtain⟨_,_,_,hA⟩:=Drw.good pp o.P4.1 o.P4.2;obtain⟨_,_,_,hB⟩:=Drw.good pp o.P5.1 o.P5.2;have DJ:ck p (a.aM+b.aM) (b.aN p):=by rw[show a.aM=b.aI from o.1.2.2];exact hB
  obtain⟨ls,E⟩:=(jr pp (zM (x:=0) (by lia) hA DJ)).jn;exact aal E _ (by show a.aI+b.aM+a.aM=_;lia)
theorem Drw.one(pp:p∈cX){d:Drw}(o:Ok p d):dI p (d.aN p)=d.aN p:=by
 obtain⟨_,_,_,hR⟩:=Drw.good pp o.1 o.2;obtain⟨ls,E⟩:=Drw.jn pp o;have R:=jr pp hR;obtain⟨ms,EM⟩:=R.jn;exact(E.unique pp EM hR R.rws (λr hr=>R.sup r hr) (λr hr=>R.sub r hr)).symm
noncomputable def uW(K:Frag)(aS:Addr):Bool:=(match PyProof.Rows.KTD.datumAt (Str.ofString "times") (fK K aS)with|some (.ref t)=>uM K t [1,1] | _=>false) &&
 (PyProof.Rows.KTD.datumAt (Str.ofString "back") (fK K aS)).isNone&&(PyProof.Rows.KTD.datumAt (Str.ofString "beside") (fK K aS)).isNone&&(PyProof.Rows.KTD.datumAt (Str.ofString "then") (fK K aS)).isNone&&(match PyProof.Rows.KTD.datumAt (Str.ofString "late") (fK K aS)with|some (.ref t)=>uM K t [1,1] | _=>false)
theorem P7{K:Frag}{aS:Addr}(h:uW K aS=true):(∃t,PyProof.Rows.KTD.datumAt (Str.ofString "times") (fK K aS)=some (.ref t)∧∀H,bh K H t [.int 1,.int 1])∧
  PyProof.Rows.KTD.datumAt (Str.ofString "back") (fK K aS)=none∧PyProof.Rows.KTD.datumAt (Str.ofString "beside") (fK K aS)=none∧PyProof.Rows.KTD.datumAt (Str.ofString "then") (fK K aS)=none∧∃t,PyProof.Rows.KTD.datumAt (Str.ofString "late") (fK K aS)=some (.ref t)∧∀H,bh K H t [.int 1,.int 1]:=by
 unfold uW at h;simp only[fg,Option.isNone_iff_eq_none]at h;obtain⟨⟨⟨⟨h1,h2⟩,h3⟩,h4⟩,h5⟩:=h;refine⟨?_,h2,h3,h4,?_⟩
 ·split at h1
  ·rename_i t e
   exact⟨t,e,λH=>Dd h1 H⟩
  ·exact nomatch h1
 ·split at h5
  ·rename_i t e
   exact⟨t,e,λH=>Dd h5 H⟩
  ·exact nomatch h5
def nI(K:Frag)(H:Hp)(a:Addr)(l r:Nat):Prop:=bh K H a [.int (l:Int),.int (r:Int),.cg]
inductive aao(K:Frag)(x:Str)(ps:List V)(H:Hp)(Q:VK):Prop where
 |box (l r:Nat) (aN:LL) (h:(x,l,r,aN)∈e8) (q:ic K H [.int (l:Int),.int (r:Int),.cg] Q)
 |times (h:x="times") (q:ic K H [.int 1,.int 1,.cg] Q)
 |rL (h:x="late") (q:ic K H [.int 1,.int 1,.cg] Q)
 |back (a:Addr) (l r:Nat) (h:x="back") (hp:ps=[.ref a]) (ha:nI K H a l r) (q:ic K H [.int (r:Int),.int (l:Int),.cg] Q)
 |cJ (a b:Addr) (l r l' r':Nat) (h:x="beside") (hp:ps=[.ref a,.ref b]) (ha:nI K H a l r) (hb:nI K H b l' r') (q:ic K H [.int ((l+l':Nat):Int),.int ((r+r':Nat):Int),.cg] Q)
 |bf (a b:Addr) (l m r:Nat) (h:x="then") (hp:ps=[.ref a,.ref b]) (ha:nI K H a l m) (hb:nI K H b m r) (q:ic K H [.int (l:Int),.int (r:Int),.cg] Q)
theorem aap:(["part"]:List Str).Nodup:=by decide +kernel
def aaq(K:Frag)(H:Hp)(ps:List V):Prop:=∀(i:Nat)(v:V),ps[i]?=some v→∃(a:Addr)(l r:Nat),v=.ref a∧nI K H a l r
def P8(K:Frag):Sp:=λvs H Q _=>∃(pa:Addr)(ps:List V),vs=[.ref pa]∧H pa=some (.lst ps)∧ps.length≤10∧aaq K H ps∧∀H',aL H H'→Q .cg H'
theorem P9:dj ["parts","unmet"] ["parts"] (bo CL):=dQ rfl rfl rfl (by decide +kernel) rfl
theorem aar(F:cG K "first_unmet" "first_unmet" CL f fd):bz P w K mg base bx 1 f fd ["parts"] (P8 K):=by
 refine F.ok P9 (λvs H Q E h=>?_) (λbI A outer s H vs Q E hr h=>?_)
 ·obtain⟨pa,ps,rfl,_⟩:=h;rfl
 ·obtain⟨pa,ps,rfl,hp,hl,hm,q⟩:=h;have z:(10:Nat)≤sizeLine:=by decide
  refine⟨_,bg (nY (i:=1) (N:=["part"]) (own:=1) (caps:=[]) rfl P9.nd rfl rfl (lI K rfl (pv 0)) (show dk ["parts","unmet"] (bo CL) ["part"] 1 [] _ from .mk' (by decide +kernel)) (λ_ _ _ _ _=>cF (i:=0) aap rfl (.inl rfl)) (λ_ _ _ _ _=>wg (dg UG (bc (cC K rfl) (pv 0) aO (λ_ _=>rfl)) uf (de _))) (λ_ _ _ _ _=>bc (cC K rfl) (pv 0) aO (λ_ _=>rfl))) (bQ (cI (Fm (FH (pv 1) (λ_=>rfl)) (bc (bV K rfl) (pv 1) aO (λ_ _=>rfl)) uf))),?_⟩
  refine⟨_,rfl,pa,rfl,⟨_,.of hp⟩,pZ (cp:=[]) (λi H' zs=>zs=[]) (.of hp) (by lia) rfl (λi H' zs e=>by rw[e];exact kj _) ?_ ?_⟩
  ·rintro i x H1 zs hx sm rfl;obtain⟨a,l,r,rfl,ha⟩:=hm i x hx;exact⟨_,rfl,a,_,2,.cg,rfl,rfl,sm.bq ha,bE (j:=2) rfl,rfl,_,rfl,wL (λh=>absurd rfl h) (λ_=>⟨⟨[_],rfl,rfl⟩,sm,rfl⟩)⟩
  ·rintro H1 zs sm rfl lu hlu;refine⟨_,rfl,_,.inl ⟨[],.of aX,rfl⟩,fi ?_⟩;exact q _ (sm.trans (.upd hlu))
def Qa(K:Frag):Sp:=λvs H Q _=>∃(x:Str)(pa:Addr)(ps:List V),vs=[.str x,.ref pa]∧H pa=some (.lst ps)∧
 ((∃(a:Addr)(l r:Nat),x="back"∧ps=[.ref a]∧nI K H a l r∧ic K H [.int (r:Int),.int (l:Int)] Q)∨(∃(a b:Addr)(l r l' r':Nat),x="beside"∧ps=[.ref a,.ref b]∧nI K H a l r∧nI K H b l' r'∧ic K H [.int ((l+l':Nat):Int),.int ((r+r':Nat):Int)] Q)∨(∃(a b:Addr)(l m m' r:Nat),x="then"∧ps=[.ref a,.ref b]∧nI K H a l m∧nI K H b m' r∧ic K H [.int (l:Int),.int (r:Int)] Q))
theorem aas:dj ["word","parts"] ["word","parts"] (bo HN):=dQ rfl rfl rfl (by decide +kernel) rfl
theorem aat(F:cG K "joined_sides" "joined_sides" HN f fd):bz P w K mg base bx 1 f fd ["word","parts"] (Qa K):=by
 refine F.ok aas (λvs H Q E h=>?_) (λbI A outer s H vs Q E hr h=>?_)
 ·obtain⟨x,pa,ps,rfl,_⟩:=h;rfl
 ·obtain⟨x,pa,ps,rfl,hp,h⟩:=h;refine⟨_,bg (ee (dg hI (pv 0) dH (de _)) (bQ (cI (cE (aJ (bc (cC K rfl) (bc (bV K rfl) (pv 1) aO (λ_ _=>rfl)) aO (λ_ _=>rfl)) (aJ (bc (cC K rfl) (bc (bV K rfl) (pv 1) aO (λ_ _=>rfl)) aO (λ_ _=>rfl)) aQ))))) eK) (bg (ee (dg hI (pv 0) dH (de _)) (bQ (cI (cE (aJ (aY dt (bc (cC K rfl) (bc (bV K rfl) (pv 1) aO (λ_ _=>rfl)) aO (λ_ _=>rfl)) (bc (cC K rfl) (bc (bV K rfl) (pv 1) aO (λ_ _=>rfl)) aO (λ_ _=>rfl))) (aJ (aY dt (bc (cC K rfl) (bc (bV K rfl) (pv 1) aO (λ_ _=>rfl)) aO (λ_ _=>rfl)) (bc (cC K rfl) (bc (bV K rfl) (pv 1) aO (λ_ _=>rfl)) aO (λ_ _=>rfl))) aQ))))) eK) (bQ (cI (cE (aJ (bc (cC K rfl) (bc (bV K rfl) (pv 1) aO (λ_ _=>rfl)) aO (λ_ _=>rfl)) (aJ (bc (cC K rfl) (bc (bV K rfl) (pv 1) aO (λ_ _=>rfl)) aO (λ_ _=>rfl)) aQ)))))),?_⟩;have z2:2≤sizeLine:=by decide
  rcases h with⟨a,l,r,rfl,rfl,ha,q⟩|⟨a,b,l,r,l',r',rfl,rfl,ha,hb,q⟩|⟨a,b,l,m,m',r,rfl,rfl,ha,hb,q⟩
  ·refine⟨_,rfl,rfl,_,rfl,?_⟩;rw[aD rfl];exact gQ ⟨_,rfl,pa,_,0,.ref a,rfl,rfl,.of hp,bE (j:=0) rfl,a,_,1,.int (r:Int),rfl,rfl,ha,bE (j:=1) rfl,_,rfl,pa,_,0,.ref a,rfl,rfl,.of hp,bE (j:=0) rfl,a,_,0,.int (l:Int),rfl,rfl,ha,bE (j:=0) rfl,z2,λt ht=>q.new ht⟩
  ·refine⟨_,rfl,rfl,_,rfl,?_⟩;rw[aa (by decide)];refine fi ⟨_,rfl,rfl,_,rfl,?_⟩;rw[aD rfl];rw[Int.natCast_add,Int.natCast_add]at q;exact gQ ⟨_,rfl,pa,_,0,.ref a,rfl,rfl,.of hp,bE (j:=0) rfl,a,_,0,.int (l:Int),rfl,rfl,ha,bE (j:=0) rfl,_,rfl,pa,_,1,.ref b,rfl,rfl,.of hp,bE (j:=1) rfl,b,_,0,.int (l':Int),rfl,rfl,hb,bE (j:=0) rfl,_,_,rfl,rfl,
    _,rfl,pa,_,0,.ref a,rfl,rfl,.of hp,bE (j:=0) rfl,a,_,1,.int (r:Int),rfl,rfl,ha,bE (j:=1) rfl,_,rfl,pa,_,1,.ref b,rfl,rfl,.of hp,bE (j:=1) rfl,b,_,1,.int (r':Int),rfl,rfl,hb,bE (j:=1) rfl,_,_,rfl,rfl,z2,λt ht=>q.new ht⟩
  ·refine⟨_,rfl,rfl,_,rfl,?_⟩;rw[aa (by decide)];refine fi ⟨_,rfl,rfl,_,rfl,?_⟩;rw[aa (by decide)];exact fi ⟨_,rfl,pa,_,0,.ref a,rfl,rfl,.of hp,bE (j:=0) rfl,a,_,0,.int (l:Int),rfl,rfl,ha,bE (j:=0) rfl,_,rfl,pa,_,1,.ref b,rfl,rfl,.of hp,bE (j:=1) rfl,b,_,1,.int (r:Int),rfl,rfl,hb,bE (j:=1) rfl,z2,λt ht=>q.new ht⟩
end S21
namespace PySem.SeqAt
open MeetsSeq AutoSeq1 SeqRoads2
end PySem.SeqAt
namespace L2
open PySem PySem.Spec PyProof.Rows Bw PySem.SeqAt
end L2
namespace L2
open PySem PySem.Spec PyProof.Rows
section
variable{X:Cx}
def Qb(x:V)(H:Hp):Prop:=∃p xs,x=.ref p∧H p=some (.tup xs)
theorem aau{aH:List (Addr×Obj)}{σ:St}{H:Hp}{s:Shared}{x:V}{v:Value}(I:Inv X aH σ H s)(r:RelV x v)(h:Qb x H) :
  s.TypeIs v "tuple"∧∀a,v=.ref a→∃ob,s.heap.get? a=some ob∧ob.dict=none:=by
 obtain⟨p,xs,rfl,hp⟩:=h;cases r;obtain⟨_,its,_,o,e,c,d,n,_⟩:=(show eC X.prog X.w H s.heap p (.tup xs) from I.bH p _ hp)
 exact⟨⟨o,e,c⟩,λa z=>by cases z;exact⟨o,e,d⟩⟩
def rM(r:V→List V→Hp→VK→Prop)(to:TE)(t:TA):TE:=λσ H Q=>to σ H λx H1=>Qb x H1∧t σ H1 λxs H2=>r x xs H2 Q
variable{o e:Expr}{es:List Expr}{to:TE}{t:TA}{name:Str}{jN eO:Pos}{id:String}{r:V→List V→Hp→VK→Prop}
theorem zS(slot:Slot "tuple" name id)(yB:typeOf (.builtin id)=pure (.type "method_descriptor"))(hm:BH X id r)(ho:PE X o to)(ha:PA X (e::es) t)
  (ur:attributeBase o name X.env (eval o X.env)=eval o X.env:=by rfl)
  (yC:((backTo eO (starEach (e::es) X.env)).all (λx=>!x.1)&&(backToKw eO (keywordEach [] X.env)).all (λx=>x.1.isSome)
   && decide ((e::es).length+([]:List Keyword).length+(if([]:List Keyword).isEmpty then 0 else 1)<30))=true:=by rfl)
  (uv:(jN.endLine==eO.line)=true:=by rfl) (hs:starEach (e::es) X.env=(false,eval e X.env)::starEach es X.env:=by rfl) (FX:(backTo eO (starEach es X.env)).any (·.1)=false:=by rfl) :
  PE X (.Call (.Attribute o name jN) (e::es) [] eO) (rM r to t):=by
 intro aH s σ H Q I h;refine wpAny_Call_method_late ur yC uv rfl (bf (ho aH s σ H _ I h) λv s1 ⟨x,H1,I1,r1,ty,q1⟩=>?_);obtain⟨h1,h2⟩:=aau I1 r1 ty;refine⟨"tuple",id,PySem.F.plainAttrs_tuple,slot,yB,h1,h2,?_⟩;have hA:=ha eO aH s1 σ H1 _ I1 q1;rw[hs]at hA ⊢;refine Calls.callWith_builtin (by show(false||(backTo eO (starEach es X.env)).any (·.1))=false;rw[FX]<;>rfl) (Calls.evalArgs_plain ?_)
 exact bf hA λus s2 ⟨vs,H2,I2,r2,q2⟩=>hm aH s2 σ H2 x vs v us Q I2 r1 r2 q2
noncomputable def DK(z:Str):Value→Bool
 | .str y _=>y==z
 |_=>false
noncomputable def nJ:V→Bool
 | .str _=>true
 | .int _=>true
 |_=>false
noncomputable def dh(z:Str)(xs:List V):Nat:=xs.countP λv=>fq v (.str z)
theorem Qc{z:Str}:∀{ys:List V}{us:List Value},Vals ys us→ys.all nJ=true→us.countP (DK z)=dh z ys
 | [],_,.nil,_=>rfl
 |y::ys,_,.cons r rr,h=>by
  obtain⟨h1,h2⟩:=Bool.and_eq_true_iff.mp h;have ih:=Qc (z:=z) rr h2;unfold dh at ih ⊢;rw[List.countP_cons,List.countP_cons,ih];cases y with
  |str y=>obtain⟨t,rfl⟩:=r;rfl
  |int y=>obtain⟨t,rfl⟩:=r;rfl
  |_=>cases h1
theorem Qd{A:Around}{s:Shared}{z:Str}{t:Tok}:∀{ys:List V}{us:List Value},Vals ys us→ys.all nJ=true→∀u∈us,SeqAt.EqAt A s u (.str z t) (DK z u)
 | [],_,.nil,_,u,h=>nomatch h
 |y::ys,_,.cons r rr,h,u,hm=>by
  obtain⟨h1,h2⟩:=Bool.and_eq_true_iff.mp h;rcases(cS.mp hm)with rfl|hm
  ·cases y with
   |str y=>obtain⟨t',rfl⟩:=r;exact SeqAt.EqAt.str_str y t' z t
   |int y=>obtain⟨t',rfl⟩:=r;exact SeqAt.EqAt.int_str y t' z t
   |_=>cases h1
  ·exact Qd rr h2 u hm
def rN:V→List V→Hp→VK→Prop:=λx xs H Q=>∃(p:Addr)(ys:List V)(z:Str),x=.ref p∧xs=[.str z]∧H p=some (.tup ys)∧ys.all nJ=true∧Q (.int (dh z ys:Nat)) H
theorem zT:BH X "tuple.count" rN:=by
 intro aH s σ H x xs v us Q I rx rs h;obtain⟨p,ys,z,rfl,rfl,hp,hy,q⟩:=h;cases rx;obtain⟨u,rfl,tu,rfl⟩:=Vals.one rs;obtain⟨_,its,rv,o,e,c,d,n,hd⟩:=(show eC X.prog X.w H s.heap p (.tup ys) from I.bH p _ hp)
 obtain⟨cls,dict,data,slots⟩:=o;cases c;cases hd;refine aC F.slot_tuple_count ⟨_,e,rfl⟩ F.entry_tuple_count (F.args_tuple_count_2 _ _) (PySem.SeqAt.tuple_countAt p its.toArray n dict slots (.str z tu) (DK z)) ⟨e,λy hm=>Qd rv hy y (by simpa using hm),?_⟩;refine⟨.int (dh z ys:Nat),H,I.tok _,⟨s.toks,?_⟩,q⟩;show Value.int ((its.toArray.toList.countP (DK z):Nat):Int) s.toks=_;rw[show its.toArray.toList=its from rfl,Qc rv hy]
end
end L2
namespace S21
open PySem L2 Bw
variable{a:Int}{b bp c j l n:Nat}{f g u v y:Fn}{fd:FuncData}{r:List Int}
noncomputable def tI(n:Nat):LL:=(List.range n).map (eW n)
theorem Qe(k:Nat)(x:Int):(List.replicate k [V.int x]).flatten=(List.replicate k x).map V.int:=by
 induction k with
 |zero=>rfl
 |succ k ih=>rw[pE,pE,vN,ih];rfl
def zU(K:Frag):Sp:=λvs H Q _=>∃(n:Nat)(i:Int),vs=[.int i]∧i=n∧n≤900∧∀l LS H',aL H H'→H' l=some (.lst LS)→br K H' LS ((tI n).map cw)→Q (.ref l) H'
theorem npc:(["place","count"]:List Str).Nodup:=by decide +kernel
theorem aav:dj ["count"] ["count"] (bo CC):=dQ rfl rfl rfl (by decide +kernel) rfl
theorem Js{f:Addr}(F:cG K "ones" "ones" CC f fd)(T:Txt mg):bz P w K mg base bx 1 f fd ["count"] (zU K):=by
 refine F.ok aav (λvs H Q E h=>?_) (λbI A outer s H vs Q E hr h=>?_)
 ·obtain⟨n,i,rfl,_⟩:=h;rfl
 ·obtain⟨n,i,rfl,rfl,hn,q⟩:=h;have oA:(1000:Nat)≤sizeLine:=by decide
  refine⟨_,bQ (cI (fY (N:=["place","count"]) (own:=1) (caps:=[0]) rfl (j6 rfl T.range (aJ (pv 0) aQ)) (show dk ["count"] (bo CC) ["place","count"] 1 [0] _ from .mk' (by decide +kernel)) (λ_ _ _ _ _=>cF (i:=0) npc rfl (.inl rfl)) (λ_ _ _ _ _=>eU) (λ_ _ _ _ _=>aY (ft K rfl) (aY (ft K rfl) (aY (og K rfl) (cE (aJ aO aQ)) (pv 0)) (cE (aJ aO aQ))) (aY (og K rfl) (cE (aJ aO aQ)) (aY nk (aY nk (pv 1) (pv 0)) aO))))),?_⟩
  refine⟨_,rfl,(n:Int),rfl,by lia,by lia,p7 (n:=n) (lo:=0) (cp:=[some (.int (n:Int))]) (λi H' zs=>br K H' zs (((List.range i).map (eW n)).map cw)) (by lia) .nil (λi H' zs h=>by rw[gN h,bj,oM];exact cf _) ?_ ?_⟩
  ·rintro i H1 zs hi sm h;rw[lA];refine iC ⟨by decide,λt1 h1=>⟨_,rfl,t1,(i:Int),_,rfl,rfl,.of aX,by simp,by lia,by lia,(by show 1*((i:Nat):Int).toNat≤sizeLine;lia),λt2 H2 s2 iU=>?_⟩⟩;rw[Int.toNat_natCast,Qe]at iU;refine⟨by decide,λt3 h3=>⟨t2,t3,_,_,rfl,rfl,(aL.upd h3).bq iU,.of aX,?_,λt4 H4 s4 wY=>?_⟩⟩
   ·rw[bj,gG];show i+1≤sizeLine;lia
   refine⟨by decide,λt5 h5=>⟨_,rfl,_,rfl,_,_,rfl,rfl,_,_,rfl,rfl,t5,(n:Int)-(i:Int)-1,_,rfl,rfl,.of aX,by simp,by lia,by lia,(by show 1*((n:Int)-(i:Int)-1).toNat≤sizeLine;lia),λt6 H6 s6 zV=>?_⟩⟩;have e:((n:Int)-(i:Int)-1).toNat=n-i-1:=by lia
   rw[e,Qe]at zV;refine⟨t4,t6,_,_,rfl,rfl,((aL.upd h5).trans s6).bq wY,zV,?_,λt7 H7 s7 Jt=>?_⟩
   ·simp only[cx,bj,gG,dB,List.length_nil];lia
   have pk:=((aL.upd h1).trans s2).trans ((aL.upd h3).trans (s4.trans ((aL.upd h5).trans (s6.trans s7))));refine⟨⟨[_],rfl,rfl⟩,sm.trans pk,?_⟩;have hu:bh K H7 t7 ((eW n i).map V.int):=by
    unfold eW;rw[← gH,cY,cY];exact Jt
   rw[oP,cY,cY];exact(h.mono pk).append (.cons (ke hu) .nil)
  ·rintro H1 zs sm h lq mQ;exact q lq zs _ (sm.trans (.upd mQ)) aX (h.mono (.upd mQ))
def Ju(K:Frag):Sp:=λvs H Q _=>∃(a:Addr)(ns:List Int)(k:Int),vs=[.ref a,.int k]∧dw K H a (ns.map V.int)∧ns.length≤63∧0≤k∧k≤100000∧∀d:Int,0≤d→d<2147483629→Q (.int d) H
theorem rO:dj ["script","k","many","cell","turn","mixed"] ["script","k"] (bo HS):=dQ rfl rfl rfl (by decide +kernel) rfl
theorem Jv{ns:List Int}(h:j<ns.length):(ns.map V.int)[j]?=some (.int (ns.getD j 0)):=by
 rw[du,cn h,cz,cn h];rfl
def Qf(a:Addr)(k m:Int)(H:Hp):St→Hp→Prop:=λσ H'=>H'=H∧∃(c:Int)(s4 s5:Option V),σ=[some (.ref a),some (.int k),some (.int m),some (.int c),s4,s5]
theorem Qg{f:Addr}(F:cG K "_law_draw" "_law_draw" HS f fd)(T:Txt mg):bz P w K mg base bx 1 f fd ["script","k"] (Ju K):=by
 refine F.ok rO (λvs H Q E h=>?_) (λbI A outer s H vs Q E hr h=>?_)
 ·obtain⟨a,ns,k,rfl,_⟩:=h;rfl
 ·obtain⟨a,ns,k,rfl,hq,hz,k0,k1,q⟩:=h;have ex:(ns.map V.int).length=ns.length:=bj _;refine⟨_,bg (cm (i:=2) rO.nd rfl (.inl rfl) (iN (UJ rfl) rfl T.max YH (aJ aO (aJ (aY nk (iN (ko K rfl) rfl T.len kq (aJ (pv 0) aQ)) aO) aQ)))) (bg (cm (i:=3) rO.nd rfl (.inl rfl) aO) (bg (ee (dg FF (iN (ko K rfl) rfl T.len kq (aJ (pv 0) aQ)) aO (de _)) (bQ (cm (i:=3) rO.nd rfl (.inl rfl) (bc (bV K rfl) (pv 0) (aY gj (aY dt aO (pv 1)) (iN (ko K rfl) rfl T.len kq (aJ (pv 0) aQ))) (λ_ _=>rfl)))) eK) (bg (ee (PW.pt (oU (dg FF (iN (ko K rfl) rfl T.len kq (aJ (pv 0) aQ)) aO (de _)) (ug (dg hI (aY gj (bc (bV K rfl) (pv 0) aO (λ_ _=>rfl)) aO) aO (de _))))) (bg (cm (i:=3) rO.nd rfl (.inl rfl) (bc (bV K rfl) (pv 0) (aY dt aO (aY gj (pv 1) (pv 2))) (λ_ _=>rfl))) (bg (mf nS rfl (j6 rfl T.range (aJ (iN (UK rfl) rfl T.min YI (aJ (aY yn (pv 1) (pv 2)) (aJ aO aQ))) aQ)) (cF (i:=4) rO.nd rfl (.inl rfl)) (bQ (cm (i:=3) rO.nd rfl (.inl rfl) (aY yn (pv 3) aO)))) (bQ (cI (aY gj (pv 3) aO))))) eK) (bg (cm (i:=5) rO.nd rfl (.inl rfl) (aY gj (aY nq (aY dt (aY dt (aY gj (pv 3) aO) aO) (aY nq aO (aY yn (pv 1) (pv 2)))) aO) aO)) (bg (cm (i:=5) rO.nd rfl (.inl rfl) (aY gj (aY nq (pv 5) (pv 5)) aO)) (bQ (cI (aY gj (aY nq (pv 5) aO) aO)))))))),?_⟩;refine⟨_,rfl,a,_,rfl,.inl hq,_,_,rfl,rfl,1,_,rfl,?_⟩;have hm:(1:Int)≤(if(((ns.map V.int).length:Int)-1)>1 then(((ns.map V.int).length:Int)-1)else 1)∧(if(((ns.map V.int).length:Int)-1)>1 then(((ns.map V.int).length:Int)-1)else 1)≤63∧(1<ns.length→(if(((ns.map V.int).length:Int)-1)>1 then(((ns.map V.int).length:Int)-1)else 1)=(ns.length:Int)-1):=by
   rw[ex];split<;>lia
  dsimp only[cq];generalize (if(((ns.map V.int).length:Int)-1)>1 then(((ns.map V.int).length:Int)-1)else 1)=m at hm ⊢
  obtain⟨m0,m1,m2⟩:=hm;refine CS (λσ H'=>H'=H∧σ=[some (.ref a),some (.int k),some (.int m),some (.int 0),none,none]) (λN hN=>hN _ _ ⟨rfl,rfl⟩) (λσ0 H0 h0=>?_);obtain⟨rfl,rfl⟩:=h0;refine CS (Qf a k m H0) (λN hN=>?_) (λσ1 H1 hJ=>?_)
  ·refine⟨_,rfl,a,_,rfl,.inl hq,_,_,rfl,rfl,_,rfl,pX (λhc=>?_) (λ_=>hN _ _ ⟨rfl,_,_,_,rfl⟩)⟩;have Il:0<ns.length:=by have:=aG hc;rw[ex]at this;lia
   have Qh:(0:Int)<((ns.map V.int).length:Int):=by rw[ex];lia
   have i0:0≤(1+k)%((ns.map V.int).length:Int):=lY _ (by lia);have i1:(1+k)%((ns.map V.int).length:Int)<((ns.map V.int).length:Int):=lZ _ Qh;obtain⟨j,ej,hj⟩:∃j:Nat,(1+k)%((ns.map V.int).length:Int)=(j:Int)∧j<ns.length:=⟨((1+k)%((ns.map V.int).length:Int)).toNat,by lia,by lia⟩;refine⟨_,rfl,_,rfl,_,_,rfl,rfl,_,rfl,a,_,rfl,.inl hq,_,_,rfl,rfl,Qh,a,_,(j:Int),_,rfl,ai V.int ej,hq,bE (Jv hj),hN _ _ ⟨rfl,_,_,_,rfl⟩⟩
  obtain⟨rfl,c,s4,s5,rfl⟩:=hJ;refine CS (Qf a k m H1) (λN hN=>?_) (λσ2 H2 hJ=>?_)
  ·refine⟨_,rfl,a,_,rfl,.inl hq,_,_,rfl,rfl,_,rfl,pX (λhc=>?_) (λ_=>fi (hN _ _ ⟨rfl,_,_,_,rfl⟩))⟩;have Il:1<ns.length:=by have:=aG hc;rw[ex]at this;lia
   have em:=m2 Il;refine⟨_,rfl,a,_,0,_,rfl,rfl,hq,bE (j:=0) (Jv (by lia)),_,_,rfl,rfl,(by show(0:Int)<2;decide),rfl,_,rfl,pX (λ_=>?_) (λ_=>hN _ _ ⟨rfl,_,_,_,rfl⟩)⟩;have i0:0≤k%m:=lY _ (by lia);have i1:k%m<m:=lZ _ (by lia);refine⟨_,rfl,_,rfl,_,rfl,_,_,rfl,rfl,(by show(0:Int)<m;lia),_,_,rfl,rfl,a,_,((1+k%m).toNat:Int),_,rfl,ai V.int (by lia),hq,bE (Jv (by lia)),?_⟩;have d0:0≤k/m:=Int.ediv_nonneg k0 (by lia);refine⟨_,rfl,_,rfl,_,_,rfl,rfl,⟨by show(0:Int)<m;lia,by show m<1073741824;lia⟩,_,60,rfl,?_⟩;have hmn:0≤(if(60:Int)<k/m then 60 else k/m)∧(if(60:Int)<k/m then 60 else k/m)≤60:=by split<;>lia
   obtain⟨r,kG⟩:∃r:Int,(if(60:Int)<k/m then 60 else k/m)=r:=⟨_,rfl⟩
   rw[kG]at hmn;refine⟨r,ai (λz=>[V.int z]) kG,by lia,by lia,sk (n:=r.toNat) (λi σ H'=>H'=H1∧∃c' st,σ=[some (.ref a),some (.int k),some (.int m),some (.int c'),st,s5]) ⟨rfl,ns.getD (1+k%m).toNat 0,s4,rfl⟩ ?_ ?_⟩
   ·rintro i σ H' hi ⟨rfl,c',st,rfl⟩;exact⟨_,rfl,_,_,rfl,rfl,⟨by decide,by decide⟩,rfl,_,_,rfl⟩
   ·rintro σ H' ⟨rfl,c',st,rfl⟩;refine⟨_,rfl,_,_,rfl,rfl,(by show(0:Int)<1000003;decide),q _ (lY _ (by decide)) ?_⟩
    have:=lZ c' (show(0:Int)<1000003 by decide)
    lia
  obtain⟨rfl,c,s4,s5,rfl⟩:=hJ;refine⟨_,rfl,_,_,rfl,rfl,(by show(0:Int)<2147483629;decide),_,_,rfl,rfl,_,rfl,_,rfl,_,_,rfl,rfl,⟨by show(0:Int)<m;lia,by show m<1073741824;lia⟩,_,_,rfl,rfl,.inl ⟨by decide,by decide⟩,_,_,rfl,rfl,_,_,rfl,rfl,.inr ⟨by decide,by decide⟩,_,_,rfl,rfl,(by show(0:Int)<2147483629;decide),?_⟩;have y0:0≤(c%2147483629+11+75577*(k/m))*62233%2147483629:=lY _ (by decide);have y1:(c%2147483629+11+75577*(k/m))*62233%2147483629<2147483629:=lZ _ (by decide);dsimp only;generalize (c%2147483629+11+75577*(k/m))*62233%2147483629=y at y0 y1 ⊢;refine⟨_,rfl,_,rfl,_,_,rfl,rfl,.inl ⟨by lia,by lia⟩,_,_,rfl,rfl,(by show(0:Int)<2147483587;decide),?_⟩;dsimp only;generalize y*y%2147483587=y2;refine⟨_,rfl,_,_,rfl,rfl,.inr ⟨by decide,by decide⟩,_,_,rfl,rfl,(by show(0:Int)<2147483579;decide),q _ (lY _ (by decide)) ?_⟩
  have:=lZ (y2*40487) (show(0:Int)<2147483579 by decide)
  lia
noncomputable def L6:List Int:=[2,3,5,7,11,97]
theorem aaw:∀j:Nat,j<6→∃q,L6[j]?=some q∧q∈cX:=by decide +kernel
def Qi(K:Frag):Sp:=λvs H Q _=>∃(a:Addr)(ns:List Int),vs=[.ref a]∧dw K H a (ns.map V.int)∧ns.length≤63∧∀p H',p∈cX→aL H H'→Q (.int p) H'
theorem aax:dj ["script"] ["script"] (bo HU):=dQ rfl rfl rfl (by decide +kernel) rfl
theorem aay{f fD:Addr}{i7:FuncData}(F:cG K "_law_prime" "_law_prime" HU f fd)
  (GD:bz P w K mg base bx 1 fD i7 ["script","k"] (Ju K)) (kD:Kp K fD) (bD:Binds K i7 ["script","k"] []) (mD:Mg mg "_law_draw" fD):bz P w K mg base bx 2 f fd ["script"] (Qi K):=by
 refine F.ok aax (λvs H Q E h=>?_) (λbI A outer s H vs Q E hr h=>?_)
 ·obtain⟨a,ns,rfl,_⟩:=h;rfl
 ·obtain⟨a,ns,rfl,hq,hz,q⟩:=h;refine⟨_,bQ (cI (bc (bV K rfl) (cZ (aJ aO (aJ aO (aJ aO (aJ aO (aJ aO (aJ aO aQ))))))) (aY gj (cT GD hr rfl mD kD bD .nil cU (aJ (pv 0) (aJ aO aQ))) aO) (λ_ _=>rfl))),?_⟩;refine⟨(by show 6≤sizeLine;decide),λl hl=>⟨_,rfl,a,ns,0,rfl,(aL.upd hl).seq hq,hz,by decide,by decide,λd d0 d1=>?_⟩⟩;have e0:0≤d%6:=lY _ (by decide);have e1:d%6<6:=lZ _ (by decide);obtain⟨pr,h1,h2⟩:=aaw (d%6).toNat (by lia);refine⟨_,_,rfl,rfl,(by show(0:Int)<6;decide),l,L6.map V.int,((d%6).toNat:Int),.int pr,rfl,ai V.int (by lia),.of aX,bE ?_,q _ _ h2 (.upd hl)⟩;rw[du,h1];rfl
noncomputable def DM(n k:Nat):List Int:=List.replicate k 0++[1]++List.replicate (n-k-1) 0
def Jw(K:Frag):Sp:=λvs H Q _=>∃(n k:Nat)(i j:Int),vs=[.int i,.int j]∧i=n∧j=k∧k<n∧n≤900∧ic K H ((DM n k).map V.int) Q
theorem aaz:dj ["length","at"] ["length","at"] (bo Ib):=dQ rfl rfl rfl (by decide +kernel) rfl
theorem Qj(n:Nat):(List.replicate n [V.int 0]).flatten=(List.replicate n (0:Int)).map V.int:=by rw[Ic,List.map_replicate]
theorem aaA{f:Addr}(F:cG K "_law_unit" "_law_unit" Ib f fd):bz P w K mg base bx 1 f fd ["length","at"] (Jw K):=by
 refine F.ok aaz (λvs H Q E h=>?_) (λbI A outer s H vs Q E hr h=>?_)
 ·obtain⟨n,k,i,j,rfl,_⟩:=h;rfl
 ·obtain⟨n,k,i,j,rfl,rfl,rfl,hk,hn,q⟩:=h;have oA:(1000:Nat)≤sizeLine:=by decide
  refine⟨_,bQ (cI (aY (ft K rfl) (aY (ft K rfl) (aY (og K rfl) (cE (aJ aO aQ)) (pv 1)) (cE (aJ aO aQ))) (aY (og K rfl) (cE (aJ aO aQ)) (aY nk (aY nk (pv 0) (pv 1)) aO)))),?_⟩;refine⟨by decide,λt1 h1=>⟨_,rfl,t1,(k:Int),_,rfl,rfl,.of aX,by simp,by lia,by lia,(by show 1*((k:Nat):Int).toNat≤sizeLine;lia),λt2 H2 s2 iU=>?_⟩⟩;rw[Int.toNat_natCast,Qj]at iU;refine⟨by decide,λt3 h3=>⟨t2,t3,_,_,rfl,rfl,(aL.upd h3).bq iU,.of aX,?_,λt4 H4 s4 wY=>?_⟩⟩
  ·rw[bj,gG];show k+1≤sizeLine;lia
  refine⟨by decide,λt5 h5=>⟨_,rfl,_,rfl,_,_,rfl,rfl,_,_,rfl,rfl,t5,(n:Int)-(k:Int)-1,_,rfl,rfl,.of aX,by simp,by lia,by lia,(by show 1*((n:Int)-(k:Int)-1).toNat≤sizeLine;lia),λt6 H6 s6 zV=>?_⟩⟩;have e:((n:Int)-(k:Int)-1).toNat=n-k-1:=by lia
  rw[e,Qj]at zV;refine⟨t4,t6,_,_,rfl,rfl,((aL.upd h5).trans s6).bq wY,zV,?_,λt7 H7 s7 Jt=>?_⟩
  ·simp only[cx,bj,gG,dB,List.length_nil];lia
  refine q t7 H7 (((aL.upd h1).trans s2).trans ((aL.upd h3).trans (s4.trans ((aL.upd h5).trans (s6.trans s7))))) ?_;unfold DM;rw[cY,cY];exact Jt
abbrev C3:=Str×Int×Int
noncomputable def Qk:Expr→Option C3
 | .Tuple [.Constant (.str x) _ _,.Constant (.int l) _ _,.Constant (.int r) _ _] _ _=>some (x,l,r)
 |_=>none
noncomputable def Jx:List Expr→Option (List C3)
 | []=>some []
 |e::es=>match Qk e,Jx es with
  |some c,some cs=>some (c::cs)
  |_,_=>none
def tT3(c:C3):TE:=eS (aZ (tC (.str c.1)) (aZ (tC (.int c.2.1)) (aZ (tC (.int c.2.2)) bG)))
def zW:List C3→TA
 | []=>bG
 |c::cs=>aZ (tT3 c) (zW cs)
theorem Jy{X:Cx}:∀{es:List Expr}{cs:List C3},Jx es=some cs→PA X es (zW cs)
 | [],cs,h=>by cases h;exact aQ
 |e::es,cs,h=>by
  unfold Jx at h;split at h
  case h_2=>exact nomatch h
  case h_1 c cs' h1 h2=>
   cases h;unfold Qk at h1;split at h1
   case h_2=>exact nomatch h1
   case h_1=>
    cases h1;exact aJ (cE (aJ dH (aJ aO (aJ aO aQ)))) (Jy h2)
def rP(K:Frag)(H:Hp)(vs:List V)(cs:List C3):Prop:=vs.length=cs.length∧∀(i:Nat)(v:V)(c:C3),vs[i]?=some v→cs[i]?=some c→∃a,v=.ref a∧bh K H a [.str c.1,.int c.2.1,.int c.2.2]
theorem rP.mono{K:Frag}{H H':Hp}{vs:List V}{cs:List C3}(h:rP K H vs cs)(s:aL H H'):rP K H' vs cs:=⟨h.1,λi v c e1 e2=>let ⟨a,e,q⟩:=h.2 i v c e1 e2;⟨a,e,s.bq q⟩⟩
theorem rP.append{K:Frag}{H:Hp}{vs ws:List V}{cs es:List C3}(h:rP K H vs cs)(k:rP K H ws es):rP K H (vs++ws) (cs++es):=⟨by rw[cx,cx,h.1,k.1],λi v d e1 e2=>by
 by_cases hi:i<vs.length
 ·rw[iA hi]at e1;rw[iA (by rw[← h.1];exact hi)]at e2;exact h.2 i v d e1 e2
 ·rw[iL (by lia)]at e1;rw[iL (by rw[← h.1];lia),← h.1]at e2;exact k.2 _ v d e1 e2⟩
theorem Jz{K:Frag}{σ:St}:∀{cs:List C3}{H:Hp}{Q:List V→Hp→Prop},(∀vs H',aL H H'→rP K H' vs cs→Q vs H')→zW cs σ H Q
 | [],H,Q,q=>q [] H (.refl _) ⟨rfl,λi v c e=>by simp at e⟩
 |c::cs,H,Q,q=>by
  refine⟨by show 3≤sizeLine;decide,λa ha=>?_⟩;refine Jz (K:=K) (cs:=cs) λvs H' s h=>q (.ref a::vs) H' ((aL.upd ha).trans s) ⟨by rw[dB,dB,h.1],λi v d e1 e2=>?_⟩;cases i with
  |zero=>cases e1;cases e2;exact⟨a,rfl,s.bq (.of aX)⟩
  |succ i=>exact h.2 i v d e1 e2
section
variable{p:Int}{f:Fn}
theorem jt:Sp p (RS []) f↔∀j,p∣f j:=by
 constructor
 ·intro h j;exact Jo (λr hr=>absurd hr (by simp)) h
 ·intro h;refine .cR .zero λj=>?_
  have:=nh.mpr (h j)
  show p∣0-f j;rwa[show(0:Int)-f j=-f j by lia]
theorem mx{L:LL}:Sp p (RS (r::L)) f↔∃c:Int,Sp p (RS L) (λj=>f j-c*fn r j):=by
 constructor
 ·intro h;obtain⟨u,v,hu,hv,e⟩:=(Jl (L:=[r]) (L':=L)).mp h;have h1:∃c:Int,eF p (λj=>c*fn r j) u:=by
   clear e hv h;induction hu with
   |zero=>exact⟨0,λj=>⟨0,by simp⟩⟩
   | @add v q c _ hq ih=>
    obtain⟨c0,h0⟩:=ih;obtain⟨q,hq,rfl⟩:=hq;rw[cQ.mp hq];refine⟨c0+c,λj=>?_⟩
    have:=h0 j
    dsimp only at this ⊢;rwa[show(c0+c)*fn r j-(v j+c*fn r j)=c0*fn r j-v j by rw[Int.add_mul];lia]
   |cR _ e ih=>
    obtain⟨c0,h0⟩:=ih;exact⟨c0,h0.trans e⟩
  obtain⟨c,hc⟩:=h1;refine⟨c,.cR hv λj=>?_⟩
  have:=pH (e j) (hc j)
  dsimp only at this ⊢;rwa[show u j+v j-f j+(c*fn r j-u j)=v j-(f j-c*fn r j) by lia]at this
 ·rintro⟨c,h⟩;have h1:Sp p (RS (r::L)) (λj=>f j-c*fn r j):=qd (λq hq=>sQ (dU _ hq)) h;exact(h1.add c ⟨r,cP,rfl⟩).of_eq λj=>by lia
def Nil(p:Int)(f:Fn)(n:Nat):Prop:=∀j,n≤j→p∣f j
theorem zX:Sp p (RS [[1,1]]) f↔p∣f 1-f 0∧Nil p f 2:=by
 rw[mx];constructor
 ·rintro⟨c,h⟩;have h:=jt.mp h;have h0:=h 0;have h1:=h 1;simp only[fn,Bf,Bg]at h0 h1;refine⟨?_,λj hj=>?_⟩
  ·have:=jI h1 h0
   rwa[show f 1-c*1-(f 0-c*1)=f 1-f 0 by lia]at this
  ·have:=h j
   have e:fn [1,1] j=0:=by unfold fn;rw[cz,jj (by simpa using hj)];rfl
   rw[e]at this;simpa using this
 ·rintro⟨h,hn⟩;refine⟨f 0,jt.mpr λj=>?_⟩
  match j with
  |0=>simp[fn]
  |1=>simpa[fn]using h
  |j+2=>simpa[fn]using hn (j+2) (by lia)
theorem aaB{n:Int}:Sp p (RS [[1,n]]) f↔p∣f 1-n*f 0∧Nil p f 2:=by
 rw[mx];constructor
 ·rintro⟨c,h⟩;have h:=jt.mp h;have h0:=h 0;have h1:=h 1;simp only[fn,Bf,Bg]at h0 h1;refine⟨?_,λj hj=>?_⟩
  ·have:=jI h1 (xT (b:=n) h0)
   rwa[show f 1-c*n-n*(f 0-c*1)=f 1-n*f 0 by rw[Int.mul_sub,Int.mul_one,nR n c];lia]at this
  ·have:=h j
   have e:fn [1,n] j=0:=by unfold fn;rw[cz,jj (by simpa using hj)];rfl
   rw[e]at this;simpa using this
 ·rintro⟨h,hn⟩;refine⟨f 0,jt.mpr λj=>?_⟩
  match j with
  |0=>simp[fn]
  |1=>simpa[fn,nR]using h
  |j+2=>simpa[fn]using hn (j+2) (by lia)
theorem Ql:Sp p (RS [[1]]) f↔Nil p f 1:=by
 rw[mx];constructor
 ·rintro⟨c,h⟩ j hj
  have:=jt.mp h j
  have e:fn [1] j=0:=by unfold fn;rw[cz,jj (by simpa using hj)];rfl
  rw[e]at this;simpa using this
 ·intro hn;refine⟨f 0,jt.mpr λj=>?_⟩
  match j with
  |0=>simp[fn]
  |j+1=>simpa[fn]using hn (j+1) (by lia)
theorem JA:Sp p (RS [[1,1,1]]) f↔p∣f 1-f 0∧p∣f 2-f 0∧Nil p f 3:=by
 rw[mx];constructor
 ·rintro⟨c,h⟩;have h:=jt.mp h;have h0:=h 0;have h1:=h 1;have h2:=h 2;simp only[fn,Bf,Bg]at h0 h1 h2;refine⟨?_,?_,λj hj=>?_⟩
  ·have:=jI h1 h0
   rwa[show f 1-c*1-(f 0-c*1)=f 1-f 0 by lia]at this
  ·have:=jI h2 h0
   rwa[show f 2-c*1-(f 0-c*1)=f 2-f 0 by lia]at this
  ·have:=h j
   have e:fn [1,1,1] j=0:=by unfold fn;rw[cz,jj (by simpa using hj)];rfl
   rw[e]at this;simpa using this
 ·rintro⟨h1,h2,hn⟩;refine⟨f 0,jt.mpr λj=>?_⟩
  match j with
  |0=>simp[fn]
  |1=>simpa[fn]using h1
  |2=>simpa[fn]using h2
  |j+3=>simpa[fn]using hn (j+3) (by lia)
theorem JB:Sp p (RS [[1,0,1],[0,1,1]]) f↔p∣f 2-(f 0+f 1)∧Nil p f 3:=by
 rw[mx];constructor
 ·rintro⟨c,h⟩;obtain⟨d,h⟩:=mx.mp h;have h:=jt.mp h;have h0:=h 0;have h1:=h 1;have h2:=h 2;simp only[fn,Bf,Bg]at h0 h1 h2;refine⟨?_,λj hj=>?_⟩
  ·have:=jI (jI h2 h0) h1
   rwa[show f 2-c*1-d*1-(f 0-c*1-d*0)-(f 1-c*0-d*1)=f 2-(f 0+f 1) by lia]at this
  ·have:=h j
   have e1:fn [1,0,1] j=0:=by unfold fn;rw[cz,jj (by simpa using hj)];rfl
   have e2:fn [0,1,1] j=0:=by unfold fn;rw[cz,jj (by simpa using hj)];rfl
   rw[e1,e2]at this;simpa using this
 ·rintro⟨h,hn⟩;refine⟨f 0,mx.mpr ⟨f 1,jt.mpr λj=>?_⟩⟩
  match j with
  |0=>simp[fn]
  |1=>simp[fn]
  |2=>
   simp only[fn,Bf,Bg];rwa[show f 2-f 0*1-f 1*1=f 2-(f 0+f 1) by lia]
  |j+3=>simpa[fn]using hn (j+3) (by lia)
theorem JC:Sp p (RS [[1,0,0,1],[0,1,1,0]]) f↔p∣f 3-f 0∧p∣f 2-f 1∧Nil p f 4:=by
 rw[mx];constructor
 ·rintro⟨c,h⟩;obtain⟨d,h⟩:=mx.mp h;have h:=jt.mp h;have h0:=h 0;have h1:=h 1;have h2:=h 2;have h3:=h 3;simp only[fn,Bf,Bg]at h0 h1 h2 h3;refine⟨?_,?_,λj hj=>?_⟩
  ·have:=jI h3 h0
   rwa[show f 3-c*1-d*0-(f 0-c*1-d*0)=f 3-f 0 by lia]at this
  ·have:=jI h2 h1
   rwa[show f 2-c*0-d*1-(f 1-c*0-d*1)=f 2-f 1 by lia]at this
  ·have:=h j
   have e1:fn [1,0,0,1] j=0:=by unfold fn;rw[cz,jj (by simpa using hj)];rfl
   have e2:fn [0,1,1,0] j=0:=by unfold fn;rw[cz,jj (by simpa using hj)];rfl
   rw[e1,e2]at this;simpa using this
 ·rintro⟨h3,h2,hn⟩;refine⟨f 0,mx.mpr ⟨f 1,jt.mpr λj=>?_⟩⟩
  match j with
  |0=>simp[fn]
  |1=>simp[fn]
  |2=>simpa[fn]using h2
  |3=>simpa[fn]using h3
  |j+4=>simpa[fn]using hn (j+4) (by lia)
end
noncomputable def sh(n:Nat)(f:Fn):Fn:=λj=>f (n+j)
def TR(p:Int):Drw→Fn→Fn→Fn→Fn→Prop
 | .box n l r aN,x,k,y,a=>if n=Str.ofString "late" then p∣y 0-k 0∧p∣a 0-x 0 else Sp p (RS aN) (λj=>if j<l then x j else if j<l+r then y (j-l)else 0)
 | .times n,x,_,y,_=>p∣y 0-n*x 0
 | .back d,x,k,y,a=>TR p d y k x a
 | .cJ d e,x,k,y,a=>TR p d x k y a∧TR p e (sh d.aI x) (sh d.aK k) (sh d.aM y) (sh d.aK a)
 | .bf d e,x,k,y,a=>∃m,TR p d x k m a∧TR p e m (sh d.aK k) y (sh d.aK a)
section
variable{p:Int}
theorem uX{e b:Int}(h:p∣a)(k:p∣b)(E:e=a+b):p∣e:=by rw[E];exact pH h k
theorem iZ{e b:Int}(h:p∣a)(k:p∣b)(E:e=a-b):p∣e:=by rw[E];exact jI h k
theorem cH{b:Int}(E:a=b):p∣a-b:=⟨0,by rw[E];lia⟩
theorem uY{b:Int}(h:p∣a-b):p∣b-a:=by
 have:=nh.mpr h
 rwa[show -(a-b)=b-a by lia]at this
def Cg(p:Int)(n:Nat)(f g:Fn):Prop:=∀j,j<n→p∣f j-g j
theorem Cg.refl(n:Nat)(f:Fn):Cg p n f f:=λj _=>cH rfl
theorem Cg.symm(h:Cg p n f g):Cg p n g f:=λj hj=>uY (h j hj)
theorem Cg.sh{n m:Nat}{f g:Fn}(h:Cg p (n+m) f g):Cg p m (S21.sh n f) (S21.sh n g):=λj hj=>h (n+j) (by lia)
theorem Cg.le{m:Nat}(h:Cg p n f g)(hm:m≤n):Cg p m f g:=λj hj=>h j (by lia)
theorem TR.cR:∀{d:Drw}{x x' k k' y y' a a':Fn},d.cK p→Cg p d.aI x x'→Cg p d.aK k k'→Cg p d.aM y y'→Cg p d.aK a a'→TR p d x k y a→TR p d x' k' y' a'
 | .box n l r aN,x,x',k,k',y,y',a,a',hd,hx,hk,hy,ha,h=>by
  rcases hd with hd|⟨rfl,rfl,rfl⟩
  ·unfold TR at h ⊢;rw[af (tH _ hd)]at h ⊢;refine .cR h λj=>?_;by_cases h1:j<l
   ·rw[ae h1,ae h1];exact hx j h1
   ·rw[af h1,af h1];by_cases h2:j<l+r
    ·rw[ae h2,ae h2];exact hy (j-l) (by show j-l<r;lia)
    ·rw[af h2,af h2];exact cH rfl
  ·unfold TR at h ⊢;rw[ae rfl]at h ⊢;have hx:=hx 0 (by show 0<1;decide);have hk:=hk 0 (by show 0<1;decide);have hy:=hy 0 (by show 0<1;decide);have ha:=ha 0 (by show 0<1;decide);exact⟨uX (iZ h.1 hy rfl) hk (by lia),uX (iZ h.2 ha rfl) hx (by lia)⟩
 | .times n,x,x',k,k',y,y',a,a',hd,hx,hk,hy,ha,h=>by
  have hx:=hx 0 (by show 0<1;decide);have hy:=hy 0 (by show 0<1;decide);have h:p∣y 0-n*x 0:=h;show p∣y' 0-n*x' 0;have hx:=xT (b:=n) hx;exact uX (iZ h hy rfl) hx (by rw[Int.mul_sub];lia)
 | .back d,x,x',k,k',y,y',a,a',hd,hx,hk,hy,ha,h=>TR.cR (d:=d) hd hy hk hx ha h
 | .cJ d e,x,x',k,k',y,y',a,a',hd,hx,hk,hy,ha,h=>⟨TR.cR (d:=d) hd.1 (hx.le (nQ ..)) (hk.le (nQ ..)) (hy.le (nQ ..)) (ha.le (nQ ..)) h.1,TR.cR (d:=e) hd.2 (Cg.sh hx) (Cg.sh hk) (Cg.sh hy) (Cg.sh ha) h.2⟩
 | .bf d e,x,x',k,k',y,y',a,a',hd,hx,hk,hy,ha,h=>by
  obtain⟨m,h1,h2⟩:=h;exact⟨m,TR.cR (d:=d) hd.1 hx (hk.le (nQ ..)) (.refl _ _) (ha.le (nQ ..)) h1,TR.cR (d:=e) hd.2.1 (.refl _ _) (Cg.sh hk) hy (Cg.sh ha) h2⟩
theorem Qm{la ra lb rb:Nat}:eF p (λj=>bt (jy la ra lb rb) u j+bt (jz la ra lb) v j) f ↔
  (∀j,j<la→p∣u j-f j)∧(∀j,j<lb→p∣v j-f (la+j))∧(∀j,j<ra→p∣u (la+j)-f (la+lb+j))∧(∀j,j<rb→p∣v (lb+j)-f (la+lb+(ra+j)))∧∀s,p∣u (la+ra+s)+v (lb+rb+s)-f (la+lb+(ra+rb)+s):=by
 have e1:∀j,j<la→bt (jy la ra lb rb) u j+bt (jz la ra lb) v j=u j:=λj hj=>by
  unfold bt jy jz;simp only[hj,if_true];lia
 have e2:∀j,j<lb→bt (jy la ra lb rb) u (la+j)+bt (jz la ra lb) v (la+j)=v j:=λj hj=>by
  unfold bt jy jz;simp only[show ¬la+j<la by lia,show la+j<la+lb by lia,if_true,if_false,show la+j-la=j by lia];lia
 have e3:∀j,j<ra→bt (jy la ra lb rb) u (la+lb+j)+bt (jz la ra lb) v (la+lb+j)=u (la+j):=λj hj=>by
  unfold bt jy jz;simp only[show ¬la+lb+j<la by lia,show ¬la+lb+j<la+lb by lia,show la+lb+j<la+lb+ra by lia,if_true,if_false,show la+lb+j-lb=la+j by lia];lia
 have e4:∀j,j<rb→bt (jy la ra lb rb) u (la+lb+(ra+j))+bt (jz la ra lb) v (la+lb+(ra+j))=v (lb+j):=λj hj=>by
  unfold bt jy jz;simp only[show ¬la+lb+(ra+j)<la by lia,show ¬la+lb+(ra+j)<la+lb by lia,show ¬la+lb+(ra+j)<la+lb+ra by lia,show la+lb+(ra+j)<la+lb+ra+rb by lia,if_true,if_false,show la+lb+(ra+j)-la-ra=lb+j by lia];lia
 have e5:∀s,bt (jy la ra lb rb) u (la+lb+(ra+rb)+s)+bt (jz la ra lb) v (la+lb+(ra+rb)+s)=u (la+ra+s)+v (lb+rb+s):=λs=>by
  unfold bt jy jz;simp only[show ¬la+lb+(ra+rb)+s<la by lia,show ¬la+lb+(ra+rb)+s<la+lb by lia,show ¬la+lb+(ra+rb)+s<la+lb+ra by lia,show ¬la+lb+(ra+rb)+s<la+lb+ra+rb by lia,if_false,show la+lb+(ra+rb)+s-la-ra=lb+rb+s by lia,show la+lb+(ra+rb)+s-lb-rb=la+ra+s by lia];lia
 constructor
 ·intro h;refine⟨λj hj=>?_,λj hj=>?_,λj hj=>?_,λj hj=>?_,λs=>?_⟩
  ·have:=h j;dsimp only at this;rwa[e1 j hj]at this
  ·have:=h (la+j);dsimp only at this;rwa[e2 j hj]at this
  ·have:=h (la+lb+j);dsimp only at this;rwa[e3 j hj]at this
  ·have:=h (la+lb+(ra+j));dsimp only at this;rwa[e4 j hj]at this
  ·have:=h (la+lb+(ra+rb)+s);dsimp only at this;rwa[e5 s]at this
 ·rintro⟨h1,h2,h3,h4,h5⟩ j;dsimp only;by_cases k1:j<la
  ·rw[e1 j k1];exact h1 j k1
  by_cases k2:j<la+lb
  ·obtain⟨i,rfl⟩:∃i,j=la+i:=⟨j-la,by lia⟩;rw[e2 i (by lia)];exact h2 i (by lia)
  by_cases k3:j<la+lb+ra
  ·obtain⟨i,rfl⟩:∃i,j=la+lb+i:=⟨j-(la+lb),by lia⟩;rw[e3 i (by lia)];exact h3 i (by lia)
  by_cases k4:j<la+lb+(ra+rb)
  ·obtain⟨i,rfl⟩:∃i,j=la+lb+(ra+i):=⟨j-(la+lb+ra),by lia⟩;rw[e4 i (by lia)];exact h4 i (by lia)
  ·obtain⟨i,rfl⟩:∃i,j=la+lb+(ra+rb)+i:=⟨j-(la+lb+(ra+rb)),by lia⟩;rw[e5 i];exact h5 i
theorem Qn{m r':Nat}:eF p (λj=>bt (iG l m r') u (m+j)+bt (iH l m) v (m+j)) f ↔
  (∀j,j<l→p∣u j-f j)∧(∀j,j<r'→p∣v (m+j)-f (l+j))∧∀s,p∣u (l+m+s)+v (m+r'+s)-f (l+r'+s):=by
 have e1:∀j,j<l→bt (iG l m r') u (m+j)+bt (iH l m) v (m+j)=u j:=λj hj=>by
  unfold bt iG iH;simp only[show ¬m+j<m by lia,show m+j<m+l by lia,if_true,if_false,show m+j-m=j by lia];lia
 have e2:∀j,j<r'→bt (iG l m r') u (m+(l+j))+bt (iH l m) v (m+(l+j))=v (m+j):=λj hj=>by
  unfold bt iG iH;simp only[show ¬m+(l+j)<m by lia,show ¬m+(l+j)<m+l by lia,show m+(l+j)<m+l+r' by lia,if_true,if_false,show m+(l+j)-l=m+j by lia];lia
 have e3:∀s,bt (iG l m r') u (m+(l+r'+s))+bt (iH l m) v (m+(l+r'+s))=u (l+m+s)+v (m+r'+s):=λs=>by
  unfold bt iG iH;simp only[show ¬m+(l+r'+s)<m by lia,show ¬m+(l+r'+s)<m+l by lia,show ¬m+(l+r'+s)<m+l+r' by lia,if_false,show m+(l+r'+s)-l=m+r'+s by lia,show m+(l+r'+s)-r'=l+m+s by lia];lia
 constructor
 ·intro h;refine⟨λj hj=>?_,λj hj=>?_,λs=>?_⟩
  ·have:=h j;dsimp only at this;rwa[e1 j hj]at this
  ·have:=h (l+j);dsimp only at this;rwa[e2 j hj]at this
  ·have:=h (l+r'+s);dsimp only at this;rwa[e3 s]at this
 ·rintro⟨h1,h2,h3⟩ j;dsimp only;by_cases k1:j<l
  ·rw[e1 j k1];exact h1 j k1
  by_cases k2:j<l+r'
  ·obtain⟨i,rfl⟩:∃i,j=l+i:=⟨j-l,by lia⟩;rw[e2 i (by lia)];exact h2 i (by lia)
  ·obtain⟨i,rfl⟩:∃i,j=l+r'+i:=⟨j-(l+r'),by lia⟩;rw[e3 i];exact h3 i
end
section
variable{p:Int}
def Out(p:Int)(b w c n:Nat)(f:Fn):Prop:=∀s,¬(c≤s∧s<c+n)→¬(w+c≤s∧s<w+c+n)→p∣f (b+s)
def jB(w c n s:Nat):Prop:=(c≤s∧s<c+n)∨(w+c≤s∧s<w+c+n)
instance (w c n s:Nat):Decidable (jB w c n s):=by unfold jB;infer_instance
theorem Qo(row:List Int)(k j:Nat):fn (row++List.replicate k 0) j=fn row j:=by
 unfold fn;rw[cz,cz];by_cases h:j<row.length
 ·rw[iA h]
 ·rw[iL (by lia),jj (l:=row) (by lia),vL];split<;>rfl
theorem Qp{aN:LL}{k:Nat}:Sp p (RS (aN.map (·++List.replicate k 0))) f↔Sp p (RS aN) f:=by
 constructor
 ·refine qd λr hr=>?_;obtain⟨y,hy,rfl⟩:=dq.mp hr;exact(sQ hy).of_eq λj=>(Qo y k j).symm
 ·refine qd λr hr=>?_;exact(sQ (dq.mpr ⟨r,hr,rfl⟩)).of_eq λj=>Qo r k j
theorem aaC{aN:LL}{r:Nat}(hl:∀q∈aN,q.length=l+r):Sp p (RS aN) f↔Sp p (RS aN) (λj=>if j<l then f j else if j<l+r then sh l f (j-l)else 0)∧∀s,p∣f (l+r+s):=by
 have e:∀(_:∀s,p∣f (l+r+s)),eF p f (λj=>if j<l then f j else if j<l+r then sh l f (j-l)else 0):=λh j=>by
  dsimp only;by_cases h1:j<l
  ·rw[ae h1];exact cH rfl
  ·rw[af h1];by_cases h2:j<l+r
   ·rw[ae h2];unfold sh;rw[show l+(j-l)=j by lia];exact cH rfl
   ·rw[af h2]
    have:=h (j-(l+r))
    rw[show l+r+(j-(l+r))=j by lia]at this;rwa[show f j-0=f j by lia]
 constructor
 ·intro h;have z:∀s,p∣f (l+r+s):=λs=>Jo (λq hq=>by rw[cz,jj (by rw[hl q hq];lia)];rfl) h;exact⟨.cR h (e z),z⟩
 ·rintro⟨h,z⟩;exact .cR h (e z).symm
theorem Qq{i:Nat}(h:i<n):fn (eW n i) j=if j=i then 1 else 0:=by
 unfold fn eW;rw[cz];by_cases h1:j<i
 ·rw[iA (by simpa using h1),vL,ae h1,af (by lia)];rfl
 ·rw[iL (by simpa using h1),gG];by_cases h2:j=i
  ·subst h2;rw[Nat.sub_self,ae rfl];rfl
  ·rw[af h2];obtain⟨k,hk⟩:∃k,j-i=k+1:=⟨j-i-1,by lia⟩;rw[hk,iL (by simp)];show(List.replicate (n-i-1) (0:Int))[k+1-1]?.getD 0=0;rw[vL];split<;>rfl
theorem Qr(a b:Int)(r:List Int)(j:Nat):fn ([a,b]++r) (2+j)=fn r j:=by
 unfold fn;rw[Nat.add_comm];rfl
theorem aaD{w:Nat}(hc:c+1≤w):Sp p (RS [[1,0]++eW (2*w) (w+c),[0,1]++eW (2*w) c]) f↔(p∣f 1-f (2+c)∧p∣f (2+w+c)-f 0)∧Out p 2 w c 1 f:=by
 rw[mx];have key:∀a b s,fn ([1,0]++eW (2*w) (w+c)) (2+s)*a+fn ([0,1]++eW (2*w) c) (2+s)*b=(if s=w+c then a else 0)+if s=c then b else 0:=λa b s=>by
  rw[Qr,Qr,Qq (by lia),Qq (by lia)];split<;>split<;>lia
 have k0:fn ([1,0]++eW (2*w) (w+c)) 0=1∧fn ([1,0]++eW (2*w) (w+c)) 1=0∧fn ([0,1]++eW (2*w) c) 0=0∧fn ([0,1]++eW (2*w) c) 1=1:=⟨rfl,rfl,rfl,rfl⟩;generalize fn ([1,0]++eW (2*w) (w+c))=g at key k0 ⊢;generalize hh:fn ([0,1]++eW (2*w) c)=h at key k0;constructor
 ·rintro⟨a,h1⟩;rw[mx,hh]at h1;obtain⟨b,h1⟩:=h1;have h1:=jt.mp h1;have z0:=h1 0;have z1:=h1 1;have zs:∀s,p∣f (2+s)-((if s=w+c then a else 0)+if s=c then b else 0):=λs=>by
   have:=h1 (2+s)
   rw[← key a b s];rwa[show f (2+s)-a*g (2+s)-b*h (2+s)=f (2+s)-(g (2+s)*a+h (2+s)*b) by rw[nR a,nR b];lia]at this
  rw[k0.1,k0.2.2.1]at z0;rw[k0.2.1,k0.2.2.2]at z1;refine⟨⟨?_,?_⟩,λs hs1 hs2=>?_⟩
  ·have:=zs c
   rw[af (by lia),ae rfl]at this;exact iZ z1 this (by lia)
  ·have:=zs (w+c)
   rw[ae rfl,af (by lia)]at this;rw[show 2+(w+c)=2+w+c by lia]at this;exact iZ this z0 (by lia)
  ·have:=zs s
   rw[af (by lia),af (by lia)]at this;rwa[show f (2+s)-(0+0)=f (2+s) by lia]at this
 ·rintro⟨⟨h1,h2⟩,h3⟩;refine⟨f 0,?_⟩;rw[mx,hh];refine⟨f 1,jt.mpr λj=>?_⟩
  match j with
  |0=>rw[k0.1,k0.2.2.1];exact⟨0,by lia⟩
  |1=>rw[k0.2.1,k0.2.2.2];exact⟨0,by lia⟩
  |j+2=>
   rw[Nat.add_comm j 2];have e:f (2+j)-f 0*g (2+j)-f 1*h (2+j)=f (2+j)-(g (2+j)*f 0+h (2+j)*f 1):=by rw[nR (f 0),nR (f 1)];lia
   rw[e,key];by_cases e1:j=w+c
   ·subst e1;rw[ae rfl,af (by lia),show 2+(w+c)=2+w+c by lia];rwa[Int.add_zero]
   ·rw[af e1];by_cases e2:j=c
    ·subst e2;rw[ae rfl];exact iZ (cH (rfl:f 1=f 1)) h1 (by lia)
    ·rw[af e2]
     have:=h3 j (by lia) (by lia)
     rwa[show f (2+j)-(0+0)=f (2+j) by lia]
end
section
variable{p:Int}
theorem Qs{ba bb w na nb:Nat}(h:∀s,p∣u (ba+s)+v (bb+s)-f (b+s))(hu:Out p ba w c na u)(hv:Out p bb w (c+na) nb v)(hw:c+(na+nb)≤w) :
  Out p b w c (na+nb) f∧(∀s,jB w c na s→p∣u (ba+s)-f (b+s))∧∀s,jB w (c+na) nb s→p∣v (bb+s)-f (b+s):=by
 refine⟨λs h1 h2=>?_,λs hs=>?_,λs hs=>?_⟩
 ·exact iZ (uX (hu s (by lia) (by lia)) (hv s (by lia) (by lia)) rfl) (h s) (by lia)
 ·unfold jB at hs;exact iZ (h s) (hv s (by lia) (by lia)) (by lia)
 ·unfold jB at hs;exact iZ (h s) (hu s (by lia) (by lia)) (by lia)
noncomputable def part(bp b w c n:Nat)(g f:Fn):Fn:=λj=>if j<bp then g j else if jB w c n (j-bp)then f (b+(j-bp))else 0
theorem tK{w:Nat}(h:j<bp):part bp b w c n g f j=g j:=ae h
theorem xh{w:Nat}{s:Nat}(h:jB w c n s):part bp b w c n g f (bp+s)=f (b+s):=by
 unfold part;rw[af (by lia),show bp+s-bp=s by lia,ae h]
theorem DN{w:Nat}{s:Nat}(h:¬jB w c n s):part bp b w c n g f (bp+s)=0:=by
 unfold part;rw[af (by lia),show bp+s-bp=s by lia,af h]
theorem DO{w:Nat}:Out p bp w c n (part bp b w c n g f):=λs h1 h2=>by
 rw[DN (by unfold jB;lia)];exact⟨0,by lia⟩
theorem Qt{ba bb w na nb:Nat}{g':Fn}(hf:Out p b w c (na+nb) f)(hw:c+(na+nb)≤w)(s:Nat):p∣part ba b w c na g f (ba+s)+part bb b w (c+na) nb g' f (bb+s)-f (b+s):=by
 by_cases h1:jB w c na s
 ·have h2:¬jB w (c+na) nb s:=by unfold jB at h1 ⊢;lia
  rw[xh h1,DN h2];exact⟨0,by lia⟩
 ·rw[DN h1];by_cases h2:jB w (c+na) nb s
  ·rw[xh h2];exact⟨0,by lia⟩
  ·rw[DN h2];unfold jB at h1 h2
   have:=hf s (by lia) (by lia)
   have:=nh.mpr this
   rwa[show 0+0-f (b+s)=- f (b+s) by lia]
theorem ql{w:Nat}:∀{d:Drw}{c:Nat},d.cK p→c+d.aK≤w→∀f,kh p w c d f↔TR p d f (sh (d.aI+d.aM+c) f) (sh d.aI f) (sh (d.aI+d.aM+w+c) f)∧Out p (d.aI+d.aM) w c d.aK f
 | .box n l r aN,c,hd,hc=>λf=>by
  rcases hd with hd|⟨rfl,rfl,rfl⟩
  ·have nb:=tH _ hd;obtain⟨_,_,_,h4⟩:=uT _ hd;have en:(Drw.box n l r aN).aK=0:=af nb;rw[en];show Sp p (RS ((Drw.box n l r aN).eB p w c)) f↔_;unfold Drw.eB TR;rw[af nb,af nb,Qp,aaC (l:=l) (r:=r) λq hq=>(h4 q hq).1];constructor
   ·rintro⟨h,z⟩;exact⟨h,λs _ _=>z s⟩
   ·rintro⟨h,z⟩;exact⟨h,λs=>z s (by lia) (by lia)⟩
  ·have hc:c+1≤w:=hc;show Sp p (RS ((Drw.box _ 1 1 aN).eB p w c)) f↔_;unfold Drw.eB TR;rw[ae rfl,ae rfl,aaD hc];exact Iff.rfl
 | .times n,c,_,hc=>λf=>by
  show Sp p (RS ([[1,n]].map (·++List.replicate (2*w) 0))) f↔_;rw[Qp,aaB];constructor
  ·rintro⟨h,z⟩;exact⟨h,λs _ _=>z (2+s) (by lia)⟩
  ·rintro⟨h,z⟩;refine⟨h,λj hj=>?_⟩
   have:=z (j-2) (by show ¬(c≤_∧_<c+0);lia) (by show ¬(_∧_<w+c+0);lia)
   have e:(Drw.times n).aI+(Drw.times n).aM+(j-2)=j:=by show 1+1+(j-2)=j;lia
   rwa[e]at this
 | .back d,c,hd,hc=>λf=>by
  have hc:c+d.aK≤w:=hc;show kh p w c d (bt (kK d.aM d.aI) f)↔TR p d (sh d.aM f) (sh (d.aM+d.aI+c) f) f (sh (d.aM+d.aI+w+c) f)∧Out p (d.aM+d.aI) w c d.aK f;have e1:∀j,j<d.aI→bt (kK d.aM d.aI) f j=f (d.aM+j):=λj hj=>by
   unfold bt kK;simp only[hj,if_true];lia
  have e2:∀j,j<d.aM→bt (kK d.aM d.aI) f (d.aI+j)=f j:=λj hj=>by
   unfold bt kK;simp only[show ¬d.aI+j<d.aI by lia,show d.aI+j<d.aI+d.aM by lia,if_true,if_false,show d.aI+j-d.aI=j by lia];lia
  have e3:∀s,bt (kK d.aM d.aI) f (d.aI+d.aM+s)=f (d.aM+d.aI+s):=λs=>by
   unfold bt kK;simp only[show ¬d.aI+d.aM+s<d.aI by lia,show ¬d.aI+d.aM+s<d.aI+d.aM by lia,if_false];rw[Nat.add_comm d.aI];lia
  rw[ql (d:=d) hd hc];generalize bt (kK d.aM d.aI) f=g at e1 e2 e3 ⊢;have c1:Cg p d.aI g (sh d.aM f):=λj hj=>cH (e1 j hj);have c2:Cg p d.aK (sh (d.aI+d.aM+c) g) (sh (d.aM+d.aI+c) f):=λj hj=>cH (by unfold sh;have:=e3 (c+j);rw[← l6,← l6]at this;exact this);have c3:Cg p d.aM (sh d.aI g) f:=λj hj=>cH (e2 j hj);have c4:Cg p d.aK (sh (d.aI+d.aM+w+c) g) (sh (d.aM+d.aI+w+c) f):=λj hj=>cH (by unfold sh;have:=e3 (w+c+j);rw[← l6,← l6,← l6,← l6]at this;exact this);constructor
  ·rintro⟨h,z⟩;exact⟨TR.cR hd c1 c2 c3 c4 h,λs h1 h2=>by rw[← e3 s];exact z s h1 h2⟩
  ·rintro⟨h,z⟩;exact⟨TR.cR hd c1.symm c2.symm c3.symm c4.symm h,λs h1 h2=>by rw[e3 s];exact z s h1 h2⟩
 | .cJ a b,c,hd,hc=>λf=>by
  have hc:c+(a.aK+b.aK)≤w:=hc;show(∃u v,kh p w c a u∧kh p w (c+a.aK) b v∧_)↔(TR p a f (sh (a.aI+b.aI+(a.aM+b.aM)+c) f) (sh (a.aI+b.aI) f) (sh (a.aI+b.aI+(a.aM+b.aM)+w+c) f)∧
   TR p b (sh a.aI f) (sh a.aK (sh (a.aI+b.aI+(a.aM+b.aM)+c) f)) (sh a.aM (sh (a.aI+b.aI) f)) (sh a.aK (sh (a.aI+b.aI+(a.aM+b.aM)+w+c) f)))∧Out p (a.aI+b.aI+(a.aM+b.aM)) w c (a.aK+b.aK) f
  constructor
  ·rintro⟨u,v,hu,hv,e⟩;obtain⟨b1,b2,b3,b4,b5⟩:=Qm.mp e;obtain⟨tu,ou⟩:=(ql (d:=a) hd.1 (by lia) u).mp hu;obtain⟨tv,ov⟩:=(ql (d:=b) hd.2 (by lia) v).mp hv;obtain⟨o1,o2,o3⟩:=Qs b5 ou ov hc;refine⟨⟨TR.cR hd.1 b1 (λj hj=>?_) b3 (λj hj=>?_) tu,TR.cR hd.2 b2 (λj hj=>?_) (λj hj=>?_) (λj hj=>?_) tv⟩,o1⟩
   ·have:=o2 (c+j) (.inl (by lia))
    unfold sh;rwa[← l6,← l6]at this
   ·have:=o2 (w+c+j) (.inr (by lia))
    unfold sh;rwa[show a.aI+a.aM+(w+c+j)=a.aI+a.aM+w+c+j by lia,show a.aI+b.aI+(a.aM+b.aM)+(w+c+j)=a.aI+b.aI+(a.aM+b.aM)+w+c+j by lia]at this
   ·have:=o3 (c+a.aK+j) (.inl (by lia))
    unfold sh;rwa[show b.aI+b.aM+(c+a.aK+j)=b.aI+b.aM+(c+a.aK)+j by lia,show a.aI+b.aI+(a.aM+b.aM)+(c+a.aK+j)=a.aI+b.aI+(a.aM+b.aM)+c+(a.aK+j) by lia]at this
   ·have:=b4 j hj
    unfold sh;exact this
   ·have:=o3 (w+(c+a.aK)+j) (.inr (by lia))
    unfold sh;rwa[show b.aI+b.aM+(w+(c+a.aK)+j)=b.aI+b.aM+w+(c+a.aK)+j by lia,show a.aI+b.aI+(a.aM+b.aM)+(w+(c+a.aK)+j)=a.aI+b.aI+(a.aM+b.aM)+w+c+(a.aK+j) by lia]at this
  ·rintro⟨⟨ta,tb⟩,o⟩;generalize hB:a.aI+b.aI+(a.aM+b.aM)=B at ta tb o;have u1:∀j,j<a.aI→part (a.aI+a.aM) B w c a.aK (λj=>if j<a.aI then f j else f (a.aI+b.aI+(j-a.aI))) f j=f j:=λj hj=>by
    rw[tK (by lia),ae hj]
   have u2:∀j,j<a.aM→part (a.aI+a.aM) B w c a.aK (λj=>if j<a.aI then f j else f (a.aI+b.aI+(j-a.aI))) f (a.aI+j)=f (a.aI+b.aI+j):=λj hj=>by
    rw[tK (by lia),af (by lia),show a.aI+j-a.aI=j by lia]
   have v1:∀j,j<b.aI→part (b.aI+b.aM) B w (c+a.aK) b.aK (λj=>if j<b.aI then f (a.aI+j)else f (a.aI+b.aI+(a.aM+(j-b.aI)))) f j=f (a.aI+j):=λj hj=>by
    rw[tK (by lia),ae hj]
   have v2:∀j,j<b.aM→part (b.aI+b.aM) B w (c+a.aK) b.aK (λj=>if j<b.aI then f (a.aI+j)else f (a.aI+b.aI+(a.aM+(j-b.aI)))) f (b.aI+j)=f (a.aI+b.aI+(a.aM+j)):=λj hj=>by
    rw[tK (by lia),af (by lia),show b.aI+j-b.aI=j by lia]
   have u3:∀s,jB w c a.aK s→part (a.aI+a.aM) B w c a.aK (λj=>if j<a.aI then f j else f (a.aI+b.aI+(j-a.aI))) f (a.aI+a.aM+s)=f (B+s):=λs hs=>xh hs
   have v3:∀s,jB w (c+a.aK) b.aK s→part (b.aI+b.aM) B w (c+a.aK) b.aK (λj=>if j<b.aI then f (a.aI+j)else f (a.aI+b.aI+(a.aM+(j-b.aI)))) f (b.aI+b.aM+s)=f (B+s):=λs hs=>xh hs
   have ou:Out p (a.aI+a.aM) w c a.aK (part (a.aI+a.aM) B w c a.aK (λj=>if j<a.aI then f j else f (a.aI+b.aI+(j-a.aI))) f):=DO
   have ov:Out p (b.aI+b.aM) w (c+a.aK) b.aK (part (b.aI+b.aM) B w (c+a.aK) b.aK (λj=>if j<b.aI then f (a.aI+j)else f (a.aI+b.aI+(a.aM+(j-b.aI)))) f):=DO
   have sm:∀s,p∣_+_-f (B+s):=Qt (ba:=a.aI+a.aM) (bb:=b.aI+b.aM) (g:=λj=>if j<a.aI then f j else f (a.aI+b.aI+(j-a.aI))) (g':=λj=>if j<b.aI then f (a.aI+j)else f (a.aI+b.aI+(a.aM+(j-b.aI)))) o hc
   generalize part (a.aI+a.aM) B w c a.aK (λj=>if j<a.aI then f j else f (a.aI+b.aI+(j-a.aI))) f=u at u1 u2 u3 ou sm
   generalize part (b.aI+b.aM) B w (c+a.aK) b.aK (λj=>if j<b.aI then f (a.aI+j)else f (a.aI+b.aI+(a.aM+(j-b.aI)))) f=v at v1 v2 v3 ov sm
   refine⟨u,v,(ql (d:=a) hd.1 (by lia) u).mpr ⟨TR.cR hd.1 (λj hj=>cH (u1 j hj).symm) (λj hj=>cH ?_) (λj hj=>cH (u2 j hj).symm) (λj hj=>cH ?_) ta,ou⟩,(ql (d:=b) hd.2 (by lia) v).mpr ⟨TR.cR hd.2 (λj hj=>cH (v1 j hj).symm) (λj hj=>cH ?_) (λj hj=>cH (v2 j hj).symm) (λj hj=>cH ?_) tb,ov⟩,
    Qm.mpr ⟨λj hj=>cH (u1 j hj),λj hj=>cH (v1 j hj),λj hj=>cH (u2 j hj),λj hj=>cH (v2 j hj),λs=>by rw[hB];exact sm s⟩⟩
   ·have:=u3 (c+j) (.inl (by lia))
    unfold sh;rw[← l6,← l6]at this;exact this.symm
   ·have:=u3 (w+c+j) (.inr (by lia))
    unfold sh;rw[show a.aI+a.aM+(w+c+j)=a.aI+a.aM+w+c+j by lia,show B+(w+c+j)=B+w+c+j by lia]at this;exact this.symm
   ·have:=v3 (c+a.aK+j) (.inl (by lia))
    unfold sh;rw[show b.aI+b.aM+(c+a.aK+j)=b.aI+b.aM+(c+a.aK)+j by lia,show B+(c+a.aK+j)=B+c+(a.aK+j) by lia]at this;exact this.symm
   ·have:=v3 (w+(c+a.aK)+j) (.inr (by lia))
    unfold sh;rw[show b.aI+b.aM+(w+(c+a.aK)+j)=b.aI+b.aM+w+(c+a.aK)+j by lia,show B+(w+(c+a.aK)+j)=B+w+c+(a.aK+j) by lia]at this;exact this.symm
 | .bf a b,c,hd,hc=>λf=>by
  have hc:c+(a.aK+b.aK)≤w:=hc;have hm:a.aM=b.aI:=hd.2.2;show(∃u v,kh p w c a u∧kh p w (c+a.aK) b v∧(∀j,j<a.aM→p∣u (a.aI+j)-v j)∧_)↔(∃m,TR p a f (sh (a.aI+b.aM+c) f) m (sh (a.aI+b.aM+w+c) f)∧
   TR p b m (sh a.aK (sh (a.aI+b.aM+c) f)) (sh a.aI f) (sh a.aK (sh (a.aI+b.aM+w+c) f)))∧Out p (a.aI+b.aM) w c (a.aK+b.aK) f
  constructor
  ·rintro⟨u,v,hu,hv,e0,e⟩;obtain⟨b1,b2,b3⟩:=Qn.mp e;obtain⟨tu,ou⟩:=(ql (d:=a) hd.1 (by lia) u).mp hu;obtain⟨tv,ov⟩:=(ql (d:=b) hd.2.1 (by lia) v).mp hv;obtain⟨o1,o2,o3⟩:=Qs (ba:=a.aI+a.aM) (bb:=b.aI+b.aM) (λs=>by rw[← hm];exact b3 s) ou ov hc;refine⟨⟨v,TR.cR hd.1 b1 (λj hj=>?_) e0 (λj hj=>?_) tu,TR.cR hd.2.1 (.refl _ _) (λj hj=>?_) (λj hj=>?_) (λj hj=>?_) tv⟩,o1⟩
   ·have:=o2 (c+j) (.inl (by lia))
    unfold sh;rwa[← l6,← l6]at this
   ·have:=o2 (w+c+j) (.inr (by lia))
    unfold sh;rwa[show a.aI+a.aM+(w+c+j)=a.aI+a.aM+w+c+j by lia,show a.aI+b.aM+(w+c+j)=a.aI+b.aM+w+c+j by lia]at this
   ·have:=o3 (c+a.aK+j) (.inl (by lia))
    unfold sh;rwa[show b.aI+b.aM+(c+a.aK+j)=b.aI+b.aM+(c+a.aK)+j by lia,show a.aI+b.aM+(c+a.aK+j)=a.aI+b.aM+c+(a.aK+j) by lia]at this
   ·have:=b2 j hj
    unfold sh;rwa[hm]at this
   ·have:=o3 (w+(c+a.aK)+j) (.inr (by lia))
    unfold sh;rwa[show b.aI+b.aM+(w+(c+a.aK)+j)=b.aI+b.aM+w+(c+a.aK)+j by lia,show a.aI+b.aM+(w+(c+a.aK)+j)=a.aI+b.aM+w+c+(a.aK+j) by lia]at this
  ·rintro⟨⟨m,ta,tb⟩,o⟩;have u1:∀j,j<a.aI→part (a.aI+a.aM) (a.aI+b.aM) w c a.aK (λj=>if j<a.aI then f j else m (j-a.aI)) f j=f j:=λj hj=>by
    rw[tK (by lia),ae hj]
   have u2:∀j,j<a.aM→part (a.aI+a.aM) (a.aI+b.aM) w c a.aK (λj=>if j<a.aI then f j else m (j-a.aI)) f (a.aI+j)=m j:=λj hj=>by
    rw[tK (by lia),af (by lia),show a.aI+j-a.aI=j by lia]
   have v1:∀j,j<b.aI→part (b.aI+b.aM) (a.aI+b.aM) w (c+a.aK) b.aK (λj=>if j<b.aI then m j else f (a.aI+(j-b.aI))) f j=m j:=λj hj=>by
    rw[tK (by lia),ae hj]
   have v2:∀j,j<b.aM→part (b.aI+b.aM) (a.aI+b.aM) w (c+a.aK) b.aK (λj=>if j<b.aI then m j else f (a.aI+(j-b.aI))) f (b.aI+j)=f (a.aI+j):=λj hj=>by
    rw[tK (by lia),af (by lia),show b.aI+j-b.aI=j by lia]
   have u3:∀s,jB w c a.aK s→part (a.aI+a.aM) (a.aI+b.aM) w c a.aK (λj=>if j<a.aI then f j else m (j-a.aI)) f (a.aI+a.aM+s)=f (a.aI+b.aM+s):=λs hs=>xh hs
   have v3:∀s,jB w (c+a.aK) b.aK s→part (b.aI+b.aM) (a.aI+b.aM) w (c+a.aK) b.aK (λj=>if j<b.aI then m j else f (a.aI+(j-b.aI))) f (b.aI+b.aM+s)=f (a.aI+b.aM+s):=λs hs=>xh hs
   have ou:Out p (a.aI+a.aM) w c a.aK (part (a.aI+a.aM) (a.aI+b.aM) w c a.aK (λj=>if j<a.aI then f j else m (j-a.aI)) f):=DO
   have ov:Out p (b.aI+b.aM) w (c+a.aK) b.aK (part (b.aI+b.aM) (a.aI+b.aM) w (c+a.aK) b.aK (λj=>if j<b.aI then m j else f (a.aI+(j-b.aI))) f):=DO
   have sm:∀s,p∣_+_-f (a.aI+b.aM+s):=Qt (ba:=a.aI+a.aM) (bb:=b.aI+b.aM) (g:=λj=>if j<a.aI then f j else m (j-a.aI)) (g':=λj=>if j<b.aI then m j else f (a.aI+(j-b.aI))) o hc
   generalize part (a.aI+a.aM) (a.aI+b.aM) w c a.aK (λj=>if j<a.aI then f j else m (j-a.aI)) f=u at u1 u2 u3 ou sm
   generalize part (b.aI+b.aM) (a.aI+b.aM) w (c+a.aK) b.aK (λj=>if j<b.aI then m j else f (a.aI+(j-b.aI))) f=v at v1 v2 v3 ov sm
   refine⟨u,v,(ql (d:=a) hd.1 (by lia) u).mpr ⟨TR.cR hd.1 (λj hj=>cH (u1 j hj).symm) (λj hj=>cH ?_) (λj hj=>cH (u2 j hj).symm) (λj hj=>cH ?_) ta,ou⟩,(ql (d:=b) hd.2.1 (by lia) v).mpr ⟨TR.cR hd.2.1 (λj hj=>cH (v1 j hj).symm) (λj hj=>cH ?_) (λj hj=>cH (v2 j hj).symm) (λj hj=>cH ?_) tb,ov⟩,
    λj hj=>cH (by rw[u2 j hj,v1 j (by lia)]),Qn.mpr ⟨λj hj=>cH (u1 j hj),λj hj=>cH (by rw[hm];exact v2 j hj),λs=>by have:=sm s;rw[← hm]at this;exact this⟩⟩
   ·have:=u3 (c+j) (.inl (by lia))
    unfold sh;rw[← l6,← l6]at this;exact this.symm
   ·have:=u3 (w+c+j) (.inr (by lia))
    unfold sh;rw[show a.aI+a.aM+(w+c+j)=a.aI+a.aM+w+c+j by lia,show a.aI+b.aM+(w+c+j)=a.aI+b.aM+w+c+j by lia]at this;exact this.symm
   ·have:=v3 (c+a.aK+j) (.inl (by lia))
    unfold sh;rw[show b.aI+b.aM+(c+a.aK+j)=b.aI+b.aM+(c+a.aK)+j by lia,show a.aI+b.aM+(c+a.aK+j)=a.aI+b.aM+c+(a.aK+j) by lia]at this;exact this.symm
   ·have:=v3 (w+(c+a.aK)+j) (.inr (by lia))
    unfold sh;rw[show b.aI+b.aM+(w+(c+a.aK)+j)=b.aI+b.aM+w+(c+a.aK)+j by lia,show a.aI+b.aM+(w+(c+a.aK)+j)=a.aI+b.aM+w+c+(a.aK+j) by lia]at this;exact this.symm
end
section
variable{p:Int}
abbrev Qu:=List Int→List Int→List Int×List Int
structure aaE(p:Int)(d:Drw)(F:Qu):Prop where
 wf:d.cK p
 len:∀g k,g.length=d.aI→k.length=d.aK→(F g k).1.length=d.aM∧(F g k).2.length=d.aK
 tr:∀g k,g.length=d.aI→k.length=d.aK→∀y a,TR p d (fn g) (fn k) y a↔Cg p d.aM y (fn (F g k).1)∧Cg p d.aK a (fn (F g k).2)
theorem DP{s:List Int}(h:j<r.length):fn (r++s) j=fn r j:=by
 unfold fn;rw[cz,cz,iA h]
theorem aaF{s:List Int}(h:r.length=n):sh n (fn (r++s))=fn s:=by
 funext j
 unfold sh fn;rw[cz,cz,iL (by lia),show n+j-r.length=j by lia]
theorem JD(h:j<n):fn (r.take n) j=fn r j:=by
 unfold fn;rw[cz,cz,List.getElem?_take_of_lt h]
theorem aaG(r:List Int)(n:Nat):sh n (fn r)=fn (r.drop n):=by
 funext j
 unfold sh fn;rw[cz,cz,t8]
end
inductive Bx where
 |add|swap|JE|times (n:Int)|rL|id|none|fin
namespace Bx
noncomputable def bu:Bx→Drw
 |add=>.box "add" 2 1 [[1,0,1],[0,1,1]]
 |swap=>.box "swap" 2 2 [[1,0,0,1],[0,1,1,0]]
 |JE=>.box "copy" 1 2 [[1,1,1]]
 |times n=>.times n
 |rL=>.box "late" 1 1 []
 |id=>.box "id" 1 1 [[1,1]]
 |none=>.box "none" 0 1 []
 |fin=>.box "end" 1 0 [[1]]
noncomputable def run(p:Int):Bx→Qu
 |add=>λg _=>([(fn g 0+fn g 1)%p],[])
 |swap=>λg _=>([fn g 1,fn g 0],[])
 |JE=>λg _=>([fn g 0,fn g 0],[])
 |times n=>λg _=>([fn g 0*n%p],[])
 |rL=>λg k=>([fn k 0],[fn g 0])
 |id=>λg _=>([fn g 0],[])
 |none=>λ_ _=>([0],[])
 |fin=>λ_ _=>([],[])
def wf(p:Int):Bx→Prop
 |times n=>0≤n∧n<p
 |_=>True
end Bx
section
variable{p:Int}
theorem ki{z:Fn}:Cg p 0 y z:=λj hj=>absurd hj (Nat.not_lt_zero j)
theorem uZ{u:Int}:Cg p 1 y (fn [u])↔p∣y 0-u:=by
 constructor
 ·intro h;exact h 0 (by decide)
 ·intro h j hj;obtain rfl:j=0:=by lia
  exact h
theorem JF{u v:Int}:Cg p 2 y (fn [u,v])↔p∣y 0-u∧p∣y 1-v:=by
 constructor
 ·intro h;exact⟨h 0 (by decide),h 1 (by decide)⟩
 ·rintro⟨h,h'⟩ j hj
  match j,hj with
  |0,_=>exact h
  |1,_=>exact h'
  |j+2,hj=>lia
theorem tL{n:Str}{r:Nat}{aN:LL}{x k a:Fn}(h:(n,l,r,aN)∈e8):TR p (.box n l r aN) x k y a↔Sp p (RS aN) (λj=>if j<l then x j else if j<l+r then y (j-l)else 0):=by
 unfold TR;rw[af (tH _ h)]
theorem lR{n:Str}{r:Nat}{aN:LL}(h:(n,l,r,aN)∈e8):(Drw.box n l r aN).aK=0:=af (tH _ h)
theorem px(h:∀j,n≤j→f j=0):Nil p f n:=λj hj=>by rw[h j hj];exact⟨0,by lia⟩
theorem Qv(a b:Int):p∣a-b%p↔p∣a-b:=by
 have h:=oh p b;constructor
 ·intro z;exact uX z h (by lia)
 ·intro z;exact iZ z h (by lia)
theorem aaH(b:Bx)(hb:b.wf p):aaE p b.bu (b.run p):=by
 cases b with
 |add=>
  have m:(("add":Str),2,1,[[1,0,1],[0,1,1]])∈e8:=by decide +kernel
  refine⟨.inl m,λg k _ _=>⟨rfl,(lR m).symm⟩,λg k _ _ y a=>?_⟩;show TR p (.box _ _ _ _) _ _ _ _↔Cg p 1 y (fn [_])∧Cg p (Drw.box _ _ _ _).aK a (fn []);rw[tL m,lR m,JB,uZ,Qv];exact⟨λh=>⟨h.1,ki⟩,λh=>⟨h.1,px λj hj=>by rw[af (by lia),af (by lia)]⟩⟩
 |swap=>
  have m:(("swap":Str),2,2,[[1,0,0,1],[0,1,1,0]])∈e8:=by decide +kernel
  refine⟨.inl m,λg k _ _=>⟨rfl,(lR m).symm⟩,λg k _ _ y a=>?_⟩;show TR p (.box _ _ _ _) _ _ _ _↔Cg p 2 y (fn [_,_])∧Cg p (Drw.box _ _ _ _).aK a (fn []);rw[tL m,lR m,JC,JF];exact⟨λh=>⟨⟨h.2.1,h.1⟩,ki⟩,λh=>⟨h.1.2,h.1.1,px λj hj=>by rw[af (by lia),af (by lia)]⟩⟩
 |JE=>
  have m:(("copy":Str),1,2,[[1,1,1]])∈e8:=by decide +kernel
  refine⟨.inl m,λg k _ _=>⟨rfl,(lR m).symm⟩,λg k _ _ y a=>?_⟩;show TR p (.box _ _ _ _) _ _ _ _↔Cg p 2 y (fn [_,_])∧Cg p (Drw.box _ _ _ _).aK a (fn []);rw[tL m,lR m,JA,JF];exact⟨λh=>⟨⟨h.1,h.2.1⟩,ki⟩,λh=>⟨h.1.1,h.1.2,px λj hj=>by rw[af (by lia),af (by lia)]⟩⟩
 |times n=>
  refine⟨hb,λg k _ _=>⟨rfl,rfl⟩,λg k _ _ y a=>?_⟩;show p∣y 0-n*fn g 0↔Cg p 1 y (fn [_])∧Cg p 0 a (fn []);rw[uZ,Qv,nR];exact⟨λh=>⟨h,ki⟩,λh=>h.1⟩
 |rL=>
  refine⟨.inr ⟨rfl,rfl,rfl⟩,λg k _ _=>⟨rfl,rfl⟩,λg k _ _ y a=>?_⟩;show(if _ then _ else _)↔Cg p 1 y (fn [_])∧Cg p 1 a (fn [_])
  rw[ae rfl,uZ,uZ]
 |id=>
  have m:(("id":Str),1,1,[[1,1]])∈e8:=by decide +kernel
  refine⟨.inl m,λg k _ _=>⟨rfl,(lR m).symm⟩,λg k _ _ y a=>?_⟩;show TR p (.box _ _ _ _) _ _ _ _↔Cg p 1 y (fn [_])∧Cg p (Drw.box _ _ _ _).aK a (fn []);rw[tL m,lR m,zX,uZ];exact⟨λh=>⟨h.1,ki⟩,λh=>⟨h.1,px λj hj=>by rw[af (by lia),af (by lia)]⟩⟩
 |none=>
  have m:(("none":Str),0,1,[])∈e8:=by decide +kernel
  refine⟨.inl m,λg k _ _=>⟨rfl,(lR m).symm⟩,λg k _ _ y a=>?_⟩;show TR p (.box _ _ _ _) _ _ _ _↔Cg p 1 y (fn [_])∧Cg p (Drw.box _ _ _ _).aK a (fn []);rw[tL m,lR m,jt,uZ,Int.sub_zero];refine⟨λh=>⟨h 0,ki⟩,λh j=>?_⟩;by_cases hj:j<1
  ·obtain rfl:j=0:=by lia
   exact h.1
  ·rw[af (by lia),af (by lia)];exact⟨0,by lia⟩
 |fin=>
  have m:(("end":Str),1,0,[[1]])∈e8:=by decide +kernel
  refine⟨.inl m,λg k _ _=>⟨rfl,(lR m).symm⟩,λg k _ _ y a=>?_⟩;show TR p (.box _ _ _ _) _ _ _ _↔Cg p 0 y (fn [])∧Cg p (Drw.box _ _ _ _).aK a (fn []);rw[tL m,lR m,Ql];exact⟨λ_=>⟨ki,ki⟩,λ_=>px λj hj=>by rw[af (by lia),af (by lia)]⟩
end
end S21
namespace S21
open PySem L2 Bw
variable{A:Net}{D:Ends}{H:Hp}{L L':List Nat}{M a i l n r s:Nat}{aw:Addr}{d:Drw}{f v:Fn}{p:Int}{q:iu}{row:List Int}{t:Itm}{x:Str}
section
variable{p:Int}
end
section
variable{p:Int}
end
inductive u9(K:Frag)(p:Int)(w c:Nat)(x:Str)(ps:List V)(H:Hp)(Q:VK):Prop where
 |rL (hx:x="late") (hc:c<w) (q:∀v H',aL H H'→dM K H' v 1 1 [[1,0]++eW (2*w) (w+c),[0,1]++eW (2*w) c]→Q (.ref v) H'):u9 K p w c x ps H Q
 |box (l r:Nat) (aN:LL) (hx:(x,l,r,aN)∈e8) (q:∀v H',aL H H'→dM K H' v l r (aN.map (·++List.replicate (2*w) 0))→Q (.ref v) H'):u9 K p w c x ps H Q
 |times (n:Int) (hx:x="times") (hp:ps=[.int n]) (q:∀v H',aL H H'→dM K H' v 1 1 [[1,n]++List.replicate (2*w) 0]→Q (.ref v) H'):u9 K p w c x ps H Q
 |made (hx:x="back"∨x="beside"∨x="then") (h:qh K p x ps H Q):u9 K p w c x ps H Q
def Qw(K:Frag):Sp:=λvs H Q _=>∃(p:Int)(aw pa:Addr)(ws ps:List V)(i:Nat)(x:Str),vs=[.int p,.ref aw,.int i,.ref pa]∧p∈cX∧H aw=some (.tup ws)∧ws.all nJ=true∧ws[i]?=some (.str x)∧H pa=some (.lst ps)∧dh "late" ws≤40∧
 u9 K p (dh "late" ws) (dh "late" (ws.take i)) x ps H Q
abbrev Qx(j:Nat):TE:=cA (rI Bv λi j=>.int (i*j)) (tC (.int 2)) (aW j)
abbrev Qy(i j:Int):TE:=eS (aZ (tC (.int i)) (aZ (tC (.int j)) bG))
def Qz(K:Frag):TE:=rM rN (gP (BF K) (aW 1) i5 (fG (aW 2))) (aZ (tC (.str "late")) bG)
def QA(K:Frag):TE:=iY (zU K) [] E0 (aZ (Qx 5) bG)
def DQ(K:Frag):TE:=eS (aZ (tC (.int 1)) (aZ (tC (.int 1)) (aZ (eS (aZ (ja K (Qy 1 0) (cA (pU K) (aW 7) (kg (aW 5) (aW 6)))) (aZ (ja K (Qy 0 1) (cA (pU K) (aW 7) (aW 6))) bG))) bG)))
def DR(K:Frag):TS:=cy (dC (Qz K) (cq 6)) (cy (dC (QA K) (cq 7)) (eh (DQ K)))
def JG(K:Frag):TE:=ja K (aW 0) (uR K (Qx 1))
def zY(K:Frag):TE:=ja K (gP (ij K) (aW 8) i5 (fG (tC (.int 2)))) (eS (aZ (lD (w4 K) (aZ (j9 (me K (dD K 8 2)) 1 [5] (cq 0) iP (JG K)) bG)) bG))
def QB(K:Frag):TE:=iY (Dy K) [] E0 (aZ (aW 0) (aZ (aW 4) (aZ (aW 3) bG)))
def DT(K:Frag)(aS:Addr):TS:=cy (dC (cA (pV K) (aW 1) (aW 2)) (cq 4)) (cy (dC (rM rN (aW 1) (aZ (tC (.str "late")) bG)) (cq 5)) (cy (dW (jm (cA qS (aW 4) (tC (.str "late")))) (DR K) gi) (cy (dC (QB K) (cq 8)) (cy (dW (tB (CA aS (fK K aS) (aW 4) (tC (.ref aS)))) (eh (zY K)) gi) (eh (aW 8))))))
noncomputable abbrev QC:List Str:=["p","words","place","parts","word","waiting","count","states","told"]
theorem ntf:(["row","waiting"]:List Str).Nodup:=by decide +kernel
theorem xi:dj QC ["p","words","place","parts"] (bo CO):=dQ rfl rfl rfl (by decide +kernel) rfl
theorem aaI{xs:List V}{k:Nat}(h:k≤xs.length):lE xs none (some (k:Int))=xs.take k:=by
 unfold lE;rw[HT.vX,HT.FP,List.drop_zero,Nat.sub_zero,Nat.min_eq_left h]
theorem aaJ{k:Nat}(h:k<n):¬(HT.cW n 0 none=0∧HT.cW n n (some (k:Int))=n):=λz=>by
 have e:=z.2;rw[HT.vX]at e;lia
theorem aaK{pa:Addr}{ws:List V}(gg:H aw=some (.tup ws))(tM:ws.all nJ=true)(hi:i<ws.length)(hw:dh "late" ws≤40)(hc:dh "late" (ws.take i)<dh "late" ws)
  (q:∀v H',aL H H'→dM K H' v 1 1 [[1,0]++eW (2*dh "late" ws) (dh "late" ws+dh "late" (ws.take i)),[0,1]++eW (2*dh "late" ws) (dh "late" (ws.take i))]→D.rt (.ref v) H') :
  DR K D [some (.int p),some (.ref aw),some (.int (i:Int)),some (.ref pa),some (.str x),some (.int (dh "late" ws:Nat)),none,none,none] H:=by
 unfold DR;refine⟨_,rfl,_,rfl,(i:Int),rfl,aw,ws,rfl,.of gg,aaJ hi,λt ht=>?_⟩;rw[aaI (qD hi)];generalize dh "late" ws=w at hw hc q ⊢;have s1:=aL.upd (o:=.tup (ws.take i)) ht;refine⟨⟨t,_,rfl,aX⟩,t,_,"late",rfl,rfl,aX,?_,?_⟩
 ·exact pG.mpr λv hv=>pG.mp tM v (oO hv)
 generalize dh "late" (ws.take i)=c at hc q ⊢;refine⟨_,rfl,2,(w:Int),rfl,rfl,.inl ⟨by decide,by decide⟩,2*w,_,rfl,by lia,by lia,λl LS H2 s2 hl hL=>?_⟩;have len:(tI (2*w)).length=2*w:=by unfold tI;rw[bj,oM]
 have at_:∀k (hk:k<2*w),∃ra,LS[k]?=some (.ref ra)∧bh K H2 ra ((eW (2*w) k).map V.int):=λk hk=>by
  obtain⟨ra,h1,h2⟩:=br.at hL (i:=k) (by rw[len];exact hk);refine⟨ra,h1,?_⟩;have e:(tI (2*w))[k]'(by rw[len];exact hk)=eW (2*w) k:=by unfold tI;simp
  rw[e]at h2;exact h2
 obtain⟨r1,e1,h1⟩:=at_ (w+c) (by lia);obtain⟨r2,e2,h2⟩:=at_ c (by lia);have u1:∀k,k<2*w→(eW (2*w) k).length≤80:=λk hk=>by rw[(Jp (p:=2) (by decide) hk).1];lia
 have acP:(100:Nat)≤sizeLine:=by decide
 unfold DQ;refine⟨by decide,λa1 g1=>?_⟩;have s3:=aL.upd (o:=.tup [.int 1,.int 0]) g1;refine⟨_,rfl,_,rfl,_,rfl,(w:Int),(c:Int),rfl,rfl,l,LS,_,.ref r1,rfl,rfl,.of (s3 _ _ hl),(by rw[show(w:Int)+c=((w+c:Nat):Int) by lia];exact bE e1),?_⟩;refine⟨a1,r1,[.int 1,.int 0],_,rfl,rfl,.of aX,s3.bq h1,?_,λt1 H4 s4 uN=>?_⟩
 ·have:=u1 (w+c) (by lia)
  rw[bj];show 2+_≤sizeLine;lia
 refine⟨by decide,λa2 g2=>?_⟩;have s5:=aL.upd (o:=.tup [.int 0,.int 1]) g2;have wX:=s3.trans (s4.trans s5);refine⟨_,rfl,_,rfl,l,LS,_,.ref r2,rfl,rfl,.of (wX _ _ hl),bE e2,?_⟩;refine⟨a2,r2,[.int 0,.int 1],_,rfl,rfl,.of aX,wX.bq h2,?_,λt2 H6 s6 iU=>?_⟩
 ·have:=u1 c (by lia)
  rw[bj];show 2+_≤sizeLine;lia
 refine⟨by show 2≤sizeLine;decide,λt3 g3=>⟨by show 3≤sizeLine;decide,λt4 g4=>?_⟩⟩;have s7:=aL.upd (o:=.tup [.ref t1,.ref t2]) g3;have s8:=aL.upd (o:=.tup [.int 1,.int 1,.ref t3]) g4;refine q t4 _ (s1.trans (s2.trans (wX.trans (s6.trans (s7.trans s8))))) ⟨t3,[.ref t1,.ref t2],.of aX,.of (s8 _ _ aX),?_⟩;have f1:bh K (upd (upd H6 t3 (.tup [.ref t1,.ref t2])) t4 (.tup [.int 1,.int 1,.ref t3])) t1 ((([1,0]:List Int)++eW (2*w) (w+c)).map V.int):=by
  rw[cY];exact(s5.trans (s6.trans (s7.trans s8))).bq uN
 have f2:bh K (upd (upd H6 t3 (.tup [.ref t1,.ref t2])) t4 (.tup [.int 1,.int 1,.ref t3])) t2 ((([0,1]:List Int)++eW (2*w) c).map V.int):=by
  rw[cY];exact(s7.trans s8).bq iU
 exact .cons (ke f1) (.cons (ke f2) .nil)
theorem QD{R:VK}{σ:St}{a:Addr}{w:Nat}{aN:LL}(h8:σ[8]?=some (some (.ref a)))(h5:σ[5]?=some (some (.int (w:Int))))(hw:w≤40)(hf:dM K H a l r aN)(hz:aN.length≤400)(hl:∀x∈aN,x.length≤200)
  (q:∀v H',aL H H'→dM K H' v l r (aN.map (·++List.replicate (2*w) 0))→R (.ref v) H'):zY K σ H R:=by
 obtain⟨t,RS,g1,g2,g3⟩:=hf;have oA:(1000:Nat)≤sizeLine:=by decide
 unfold zY;refine⟨_,h8,2,rfl,a,_,rfl,g1,λa1 H1 s1 JH=>?_⟩;have JH:bh K H1 a1 [.int (l:Int),.int (r:Int)]:=JH;unfold lD;refine⟨_,h8,a,_,2,_,rfl,rfl,s1.bq g1,bE (j:=2) rfl,t,rfl,⟨_,s1.bq g2⟩,?_⟩;have eb:pY 1 [5] σ=List.replicate 1 none++[some (.int (w:Int))]:=by simp[pY,h5]
 rw[eb];refine rG (f:=(·++List.replicate (2*w) 0)) (cp:=[some (.int (w:Int))]) (s1.bq g2) (g3.mono s1) (by lia) (λrow ra H2 iF s2 dJ=>?_) ?_
 ·unfold JG
  have:=hl row iF
  refine kI (i9 rfl dJ) (uQ (k:=2*w) (λH3 s3 R' q'=>⟨_,rfl,2,(w:Int),rfl,rfl,.inl ⟨by decide,by decide⟩,?_⟩) (by lia)) (by rw[gG];lia);rw[show((2*w:Nat):Int)=2*(w:Int) by lia]at q';exact q'
 ·intro H2 ZS s2 hZ lz i8;refine⟨lz,_,rfl,.inl ⟨.of aX,λtz htz=>⟨by show 1≤sizeLine;decide,λa2 QE=>?_⟩⟩⟩;have s3:=(aL.upd (o:=.lst ZS) i8).trans ((aL.upd (o:=.tup ZS) htz).trans (aL.upd (o:=.tup [.ref tz]) QE));refine⟨a1,a2,_,_,rfl,rfl,(s2.trans s3).bq JH,.of aX,by show 2+1≤sizeLine;decide,λv H4 s4 hv=>q v H4 (s1.trans (s2.trans (s3.trans s4))) ⟨tz,ZS,hv,?_,hZ.mono (s3.trans s4)⟩⟩;exact .of (((aL.upd (o:=.tup [.ref tz]) QE).trans s4) _ _ aX)
theorem qh.mono{ps:List V}{Q Q':VK}(h:qh K p x ps H Q)(z:∀v H',Q v H'→Q' v H'):qh K p x ps H Q':=by
 cases h with
 |old h=>
  cases h with
  |back a l r e aN hx hp hf hl hr he hz hR q=>exact .old (.back a l r e aN hx hp hf hl hr he hz hR λv H' s hv=>z _ _ (q v H' s hv))
  |times n hx hp q=>exact .old (.times n hx hp λv H' s hv=>z _ _ (q v H' s hv))
  |box l r aN hx q=>exact .old (.box l r aN hx λv H' s hv=>z _ _ (q v H' s hv))
 |cJ a b l r aN l' r' bY e hx hp hf fH b1 b2 b3 b4 he z1 z2 hR gs q=>exact .cJ a b l r aN l' r' bY e hx hp hf fH b1 b2 b3 b4 he z1 z2 hR gs λv H' s hv=>z _ _ (q v H' s hv)
 |bf a b l m aN r' bY e hx hp hf fH b1 b2 b4 he z1 z2 hR gs q=>exact .bf a b l m aN r' bY e hx hp hf fH b1 b2 b4 he z1 z2 hR gs λv H' s hv=>z _ _ (q v H' s hv)
theorem DU:("times":Str) ≠ "late"∧("back":Str) ≠ "late"∧("beside":Str) ≠ "late"∧("then":Str) ≠ "late":=by decide +kernel
theorem aaL{aS aB:Addr}{pa:Addr}{ws ps:List V}(B:nE K mg aS aB)(M:uW K aS=true)(pp:p∈cX)(gg:H aw=some (.tup ws))(tM:ws.all nJ=true)(hi:ws[i]?=some (.str x))(gT:H pa=some (.lst ps))(hw:dh "late" ws≤40)
  (A:u9 K p (dh "late" ws) (dh "late" (ws.take i)) x ps H D.rt):DT K aS D [some (.int p),some (.ref aw),some (.int (i:Int)),some (.ref pa),none,none,none,none,none] H:=by
 obtain⟨⟨tt,JI,Dx⟩,eb,es,et,_⟩:=P7 M;have il:i<ws.length:=(dO.mp hi).1;unfold DT;refine⟨_,rfl,_,rfl,aw,ws,(i:Int),.str x,rfl,rfl,.of gg,bE hi,?_⟩;refine⟨_,rfl,⟨aw,ws,rfl,gg⟩,aw,ws,"late",rfl,rfl,gg,tM,?_⟩;refine⟨_,rfl,rfl,_,rfl,?_⟩;cases A with
 |rL hx hc q=>
  subst hx;exact uO (aaK gg tM il hw hc q)
 |box l r aN hx q=>
  obtain⟨⟨t,e,ht⟩,_⟩:=B.at_ hx;refine mG (tH _ hx) ?_;refine⟨_,rfl,_,rfl,_,rfl,p,x,pa,ps,rfl,pp,gT,.old (.box _ _ _ hx λv H3 s3 hv=>?_)⟩;refine⟨_,rfl,_,rfl,rfl,_,rfl,?_⟩;rw[e];obtain⟨b1,b2,b3,b4⟩:=uT _ hx;refine gQ (QD rfl rfl hw hv (eJ b3 (by decide)) (λy hy=>?_) λv' H4 s4 zZ=>q v' H4 (s3.trans s4) zZ);rw[(b4 y hy).1];lia
 |times n hx hp q=>
  subst hx;refine mG DU.1 ?_;refine⟨_,rfl,_,rfl,_,rfl,p,_,pa,ps,rfl,pp,gT,.old (.times n rfl hp λv H3 s3 hv=>?_)⟩;refine⟨_,rfl,_,rfl,rfl,_,rfl,?_⟩;rw[JI];refine gQ (QD rfl rfl hw hv (by show 1≤400;decide) (λy hy=>?_) λv' H4 s4 zZ=>q v' H4 (s3.trans s4) zZ);rw[cQ.mp hy];show 2≤200;decide
 |made hx h=>
  have nl:x ≠ "late":=by rcases hx with rfl|rfl|rfl;exact DU.2.1;exact DU.2.2.1;exact DU.2.2.2
  have ne:PyProof.Rows.KTD.datumAt x (fK K aS)=none:=by rcases hx with rfl|rfl|rfl;exact eb;exact es;exact et
  refine mG nl ?_;refine⟨_,rfl,_,rfl,_,rfl,p,_,pa,ps,rfl,pp,gT,h.mono λv H3 hv=>?_⟩;refine⟨_,rfl,_,rfl,rfl,_,rfl,?_⟩;rw[ne];exact fi ⟨_,rfl,hv⟩
theorem QF{aS aB f fO fM:Addr}{fd Aa gO:FuncData}(F:cG K "tick_form" "tick_form" CO f fd)(T:Txt mg)(B:nE K mg aS aB)(M:uW K aS=true)
  (GO:bz P w K mg base bx 1 fO Aa ["count"] (zU K)) (kO:Kp K fO) (bO:Binds K Aa ["count"] []) (mO:Mg mg "ones" fO)
  (GM:bz P w K mg base bx 6 fM gO ["p","word","parts"] (Dy K)) (kM:Kp K fM) (bM:Binds K gO ["p","word","parts"] []) (mM:Mg mg "form" fM) :
  bz P w K mg base bx 7 f fd ["p","words","place","parts"] (Qw K):=by
 refine F.ok xi (λvs H Q E h=>?_) (λbI A outer s H vs Q E hr h=>?_)
 ·obtain⟨p,aw,pa,ws,ps,i,x,rfl,_⟩:=h;rfl
 ·obtain⟨p,aw,pa,ws,ps,i,x,rfl,pp,gg,tM,hi,gT,hw,A⟩:=h;have jv:dP 1 _:=hr.mono (by decide);refine⟨DT K aS,?_,?_⟩
  ·unfold DT;refine bg ?_ ?_
   ·exact cm (i:=4) (te:=cA (pV K) (aW 1) (aW 2)) xi.nd rfl (.inl rfl) (bc (cC K rfl) (pv 1) (pv 2) (λ_ _=>rfl))
   refine bg ?_ ?_
   ·exact cm (i:=5) (te:=rM rN (aW 1) (aZ (tC (.str "late")) bG)) xi.nd rfl (Or.inr rfl) (zS E8 E9 zT (pv 1) (aJ dH aQ))
   refine bg ?_ ?_
   ·refine ee ?_ ?_ eK
    ·exact dg hI (pv 4) dH (de _)
    ·unfold DR;refine bg ?_ ?_
     ·unfold Qz;exact cm (i:=6) (te:=rM rN (gP (BF K) (aW 1) i5 (fG (aW 2))) (aZ (tC (.str "late")) bG)) xi.nd rfl (.inl rfl) (zS E8 E9 zT (gk (Xe K rfl) (pv 1) iO (fb (pv 2))) (aJ dH aQ))
     refine bg ?_ ?_
     ·exact cm (i:=7) (te:=QA K) xi.nd rfl (.inl rfl) (cT GO jv rfl mO kO bO .nil cU (aJ (aY nq aO (pv 5)) aQ))
     refine bQ ?_;refine cI (te:=DQ K) ?_;unfold DQ;refine cE ?_;refine aJ aO ?_ ?_
     ·refine aJ aO ?_ ?_
      ·refine aJ ?_ aQ ?_
       ·refine cE ?_;refine aJ ?_ ?_ ?_
        ·refine aY (ft K rfl) ?_ ?_
         ·exact cE (aJ aO (aJ aO aQ))
         ·exact bc (bV K rfl) (pv 7) (aY dt (pv 5) (pv 6)) (λ_ _=>rfl)
        ·refine aJ ?_ aQ ?_
         ·refine aY (ft K rfl) ?_ ?_
          ·exact cE (aJ aO (aJ aO aQ))
          ·exact bc (bV K rfl) (pv 7) (pv 6) (λ_ _=>rfl)
         ·rfl
        ·rfl
       ·rfl
      ·exact zF
     ·exact zF
   refine bg ?_ ?_
   ·exact cm (i:=8) (te:=QB K) xi.nd rfl (.inl rfl) (cT GM hr rfl mM kM bM .nil cU (aJ (pv 0) (aJ (pv 4) (aJ (pv 3) aQ))))
   refine bg ?_ ?_
   ·refine ee ?_ ?_ eK
    ·exact Fi (HI B.tabS (pv 4) (qK (v:=.ref _) rfl B.zB rfl)) rfl
    ·refine bQ ?_;refine cI (te:=zY K) ?_;unfold zY;refine aY (ft K rfl) ?_ ?_
     ·exact gk (gK K rfl) (pv 8) iO (fb aO)
     ·refine cE ?_;refine aJ ?_ aQ ?_
      ·refine mi (o9 K rfl) rfl T.tuple pb ?_;refine aJ ?_ aQ ?_
       ·refine fY (N:=["row","waiting"]) (own:=1) (caps:=[5]) rfl ?_ ?_ ?_ ?_ ?_
        ·exact lJ K rfl (bc (cC K rfl) (pv 8) aO (λ_ _=>rfl))
        ·exact(show dk QC (bo CO) ["row","waiting"] 1 [5] _ from .mk' (by decide +kernel))
        ·exact λ_ _ _ _ _=>cF (i:=0) ntf rfl (.inl rfl)
        ·exact λ_ _ _ _ _=>eU
        ·intro _ _ _ _ _;unfold JG;exact aY (ft K rfl) (pv 0) (aY (og K rfl) (cE (aJ aO aQ)) (aY nq aO (pv 1)))
       ·rfl
      ·rfl
   refine bQ ?_;exact cI (te:=aW 8) (pv 8)
  ·exact aaL B M pp gg tM hi gT hw A
noncomputable def Itm.aK:Itm→Nat
 | .num _=>0
 | .bu d=>d.aK
def Itm.cK(p:Int):Itm→Prop
 | .num _=>True
 | .bu d=>d.cK p∧d.sm
theorem DV(z:Str)(v:V)(xs:List V):dh z (v::xs)=dh z xs+if fq v (.str z)=true then 1 else 0:=by unfold dh;rw[List.countP_cons]
theorem Ab(z:Str)(xs ys:List V):dh z (xs++ys)=dh z xs+dh z ys:=by unfold dh;rw[List.countP_append]
theorem aaM:∀e∈e8,fq (.str e.1) (.str "late")=false:=by decide +kernel
theorem Ac:fq (.str "back") (.str "late")=false∧fq (.str "beside") (.str "late")=false∧fq (.str "then") (.str "late")=false∧fq (.str "times") (.str "late")=false∧fq (.str "late") (.str "late")=true:=by decide +kernel
theorem QG(n:Int):fq (.int n) (.str "late")=false:=rfl
theorem vc{v:V}{xs:List V}(h:fq v (.str "late")=false):dh "late" (v::xs)=dh "late" xs:=by rw[DV,h];rfl
theorem oE{p:Int}:∀{d:Drw},d.cK p→dh "late" d.aR=d.aK
 | .box x l r aN,h=>by
  rcases h with h|⟨rfl,rfl,rfl⟩
  ·show dh "late" [.str x]=if _ then 1 else 0
   rw[vc (aaM _ h),af (tH _ h)];rfl
  ·show dh "late" [.str "late"]=if _ then 1 else 0
   rw[DV,Ac.2.2.2.2,ae rfl,ae rfl];rfl
 | .times n,_=>by
  show dh "late" [.str "times",.int n]=0;rw[vc Ac.2.2.2.1,vc (QG n)];rfl
 | .back d,h=>by
  show dh "late" (.str "back"::d.aR)=d.aK;rw[vc Ac.1,oE (d:=d) h]
 | .cJ a b,h=>by
  show dh "late" (.str "beside"::(a.aR++b.aR))=a.aK+b.aK;rw[vc Ac.2.1,Ab,oE (d:=a) h.1,oE (d:=b) h.2]
 | .bf a b,h=>by
  show dh "late" (.str "then"::(a.aR++b.aR))=a.aK+b.aK;rw[vc Ac.2.2.1,Ab,oE (d:=a) h.1,oE (d:=b) h.2.1]
theorem rQ:∀d:Drw,d.aR.all nJ=true
 | .box ..=>rfl
 | .times _=>rfl
 | .back d=>by
  show(nJ _&&d.aR.all nJ)=true;rw[rQ d];rfl
 | .cJ a b=>by
  show(nJ _&&(a.aR++b.aR).all nJ)=true;rw[List.all_append,rQ a,rQ b];rfl
 | .bf a b=>by
  show(nJ _&&(a.aR++b.aR).all nJ)=true;rw[List.all_append,rQ a,rQ b];rfl
theorem Itm.cnt(h:t.cK p):dh "late" t.aR=t.aK:=by
 cases t with
 |num n=>exact vc (xs:=[]) (QG n)
 |bu d=>exact oE h.1
noncomputable def qm(ts:List Itm):Nat:=(ts.map Itm.aK).sum
theorem JJ{p:Int}:∀{ts:List Itm},(∀t∈ts,t.cK p)→dh "late" (ts.flatMap Itm.aR)=qm ts
 | [],_=>rfl
 |t::ts,h=>by
  rw[xY,Ab,Itm.cnt (h t cP),JJ (ts:=ts) λu hu=>h u (dU _ hu)];rfl
theorem Itm.QH(h:t.cK p):∀u∈t.kids,u.cK p:=by
 cases t with
 |num n=>intro u hu;cases hu
 |bu d=>
  obtain⟨h1,h2⟩:=h;cases d with
  |box=>intro u hu;cases hu
  |times n=>intro u hu;rw[cQ.mp hu];exact True.intro
  |back d=>
   intro u hu;rw[cQ.mp hu];exact⟨h1,h2⟩
  |cJ a b=>
   intro u hu;rcases(cS.mp hu)with z|z
   ·rw[z];exact⟨h1.1,h2.1⟩
   ·rw[cQ.mp z];exact⟨h1.2,h2.2.1⟩
  |bf a b=>
   intro u hu;rcases(cS.mp hu)with z|z
   ·rw[z];exact⟨h1.1,h2.1⟩
   ·rw[cQ.mp z];exact⟨h1.2.1,h2.2⟩
theorem xj{p:Int}:∀(i:Nat){ts:List Itm},(∀t∈ts,t.cK p)→∀t∈dz ts i,t.cK p
 |0,ts,h=>h
 |i+1,[],h=>by intro t ht;rw[DC]at ht;cases ht
 |i+1,t::ts,h=>xj i (ts:=t.kids++ts) λu hu=>by
  rcases(dm.mp hu)with z|z
  ·exact Itm.QH (h t cP) u z
  ·exact h u (dU _ z)
theorem aaN{ts:List Itm}(h:∀t∈ts,t.cK p)(i:Nat):dh "late" ((ts.flatMap Itm.aR).take i)+qm (dz ts i)=dh "late" (ts.flatMap Itm.aR):=by
 rw[← JJ (xj i h),uU,← Ab,List.take_append_drop]
def Ad(K:Frag)(p:Int)(w c:Nat)(H:Hp):Itm→V→Prop
 | .num n,v=>v=.int n
 | .bu d,v=>∃a,v=.ref a∧dM K H a d.aI d.aM (d.eB p w c)
inductive iw(K:Frag)(p:Int)(w:Nat)(H:Hp):Nat→List Itm→List V→Prop where
 |nil {c:Nat}:iw K p w H c [] []
 |cons {c:Nat} {t:Itm} {ts:List Itm} {v:V} {vs:List V} (h:Ad K p w c H t v) (r:iw K p w H (c+t.aK) ts vs):iw K p w H c (t::ts) (v::vs)
section
variable{K:Frag}{p:Int}{w:Nat}{H H':Hp}
theorem Ad.tup{c:Nat}{t:Itm}{v:V}(h:Ad K p w c H t v)(s:fw H H'):Ad K p w c H' t v:=by
 cases t with
 |num n=>exact h
 |bu d=>
  obtain⟨a,e,hf⟩:=h;exact⟨a,e,hf.tup s⟩
theorem iw.tup{c:Nat}{ts:List Itm}{vs:List V}(h:iw K p w H c ts vs)(s:fw H H'):iw K p w H' c ts vs:=by
 induction h with
 |nil=>exact .nil
 |cons h r ih=>exact .cons (h.tup s) ih
theorem iw.len{c:Nat}{ts:List Itm}{vs:List V}(h:iw K p w H c ts vs):vs.length=ts.length:=by
 induction h with
 |nil=>rfl
 |cons h r ih=>rw[dB,dB,ih]
theorem iw.split:∀{ts us:List Itm}{c:Nat}{vs:List V},iw K p w H c (ts++us) vs→∃xs ys,vs=xs++ys∧iw K p w H c ts xs∧iw K p w H (c+qm ts) us ys
 | [],us,c,vs,h=>⟨[],vs,rfl,.nil,h⟩
 |t::ts,us,c,_,.cons h r=>by
  obtain⟨xs,ys,e,h1,h2⟩:=iw.split (ts:=ts) r;refine⟨_::xs,ys,by rw[e];rfl,.cons h h1,?_⟩;rw[l6]at h2;exact h2
end
theorem Itm.aaO(h:t.cK p):t.aK=(if fq t.head (.str "late")=true then 1 else 0)+qm t.kids:=by
 have e1:=Itm.cnt h;have e2:=JJ (Itm.QH h);rw[← e1,← e2,Itm.DB,DV,Nat.add_comm]
noncomputable def aaP(st:Stmt)(i:Nat):Expr:=match(j8 st).getD i (.Pass ⟨0,0,0,0⟩) with
 | .Assign _ (.Call _ [_,e] _ _) _=>e
 |_=>.Constant .none 0 ⟨0,0,0,0⟩
noncomputable abbrev jC:Expr:=aaP jR 1
noncomputable abbrev mV:Str := "ticks"++".<locals>."++"<lambda>"
noncomputable def xk(L:Nat)(x:Str):Addr:=((cellsFrom (L+1) (bo jR).names []).lookup x).getD 0
noncomputable abbrev Ae(L:Nat):List (Str×Addr):=[("words",xk L "words"),("p",xk L "p")]
theorem aaQ{L f:Addr}{bI:Value}:closureFor (sY jC) (PyProof.Rows.envOfC "ticks" (bo jR) L f bI)=pure (Ae L):=rfl
theorem JK{L:Nat}(h:(bo jR).names.lookup x=some .cell):(cellsFrom (L+1) (bo jR).names []).lookup x=some (xk L x):=by
 obtain⟨c,hc⟩:=Bz (n:=L+1) h;unfold xk;rw[hc];rfl
theorem QI{L:Nat}{y:Str}{c:Addr}(h:(Ae L).lookup y=some c):y∈(["p","words"]:List Str):=by
 rcases(cS.mp (nO h))with e|e
 ·cases e;exact dU _ cP
 ·rcases(cS.mp e)with e|e
  ·cases e;exact cP
  ·cases e
theorem QJ{L:Nat}{y:Str}{c:Addr}(h:(Ae L).lookup y=some c):(cellsFrom (L+1) (bo jR).names []).lookup y=some c:=by
 have hy:=QI h;rcases(cS.mp hy)with rfl|hy
 ·rw[JK rfl];exact h
 ·rw[cQ.mp hy]at h ⊢;rw[JK rfl];exact h
theorem aaR{L:Nat}(IH:∀y z c,(cellsFrom (L+1) (bo jR).names []).lookup y=some c→(cellsFrom (L+1) (bo jR).names []).lookup z=some c→y=z):Iu ["place","word","parts"] ["p","words"] (sY jC) (Ph jC) (Ae L):=by
 have fr:∀y∈(["p","words"]:List Str),(sY jC).names.lookup y=some .free:=by decide +kernel
 have only:∀z∈(sY jC).names,z.2=.free→z.1∈(["p","words"]:List Str):=by decide +kernel
 refine⟨rfl,rfl,rfl,by decide +kernel,by decide +kernel,by decide +kernel,fr,λy hy=>?_,λy z c h1 h2=>IH y z c (QJ h1) (QJ h2),λy c h=>QI h⟩;have hm:=only _ (nO hy) rfl;rcases(cS.mp hm)with e|hm
 ·have e:y="p":=e;exact⟨_,by rw[e];rfl⟩
 ·have e:y="words":=cQ.mp hm;exact⟨_,by rw[e];rfl⟩
noncomputable def jc(l r w:Nat)(row:List Int):List Int:=row.take l++(row.drop (l+r)).take w++(row.drop l).take r++row.drop (l+r+w)
theorem JL{w:Nat}(h:Rw p (l+r+2*w) row):Rw p (l+r+2*w) (jc l r w row):=by
 obtain⟨h1,h2⟩:=h;refine⟨?_,λx hx=>?_⟩
 ·unfold jc;simp only[cx,dv,fE];lia
 ·unfold jc at hx;rcases(dm.mp hx)with hx|hx
  ·rcases(dm.mp hx)with hx|hx
   ·rcases(dm.mp hx)with hx|hx
    ·exact h2 x (oO hx)
    ·exact h2 x (pL (oO hx))
   ·exact h2 x (pL (oO hx))
  ·exact h2 x (pL hx)
def DW(K:Frag)(Pt:Addr):Sp:=λvs H Q _=>∃(p:Int)(aw:Addr)(d:Drw),vs=[.int p,.ref aw]∧p∈cX∧d.cK p∧d.sm∧d.aR.length≤900000∧d.aK≤40∧H aw=some (.tup d.aR)∧fe H Pt (iV jC) mV∧
 ∀v DS H',aL (del Pt H) H'→fe H' Pt (iV jC) mV→bh K H' v DS→br K H' DS ((dI p ((d.eB p d.aK 0).map (jc d.aI d.aM d.aK))).map cw)→Q (.ref v) H'
noncomputable abbrev JM:List Str:=["p","words","waiting","whole","left","kept","onward"]
theorem ntk:(["row","kept","left","onward"]:List Str).Nodup:=by decide +kernel
theorem xl:dj JM ["p","words"] (bo jR):=dQ rfl rfl rfl (by decide +kernel) rfl
def DX(K:Frag):TE:=ja K (ja K (ja K (gP (ij K) (aW 0) i5 (fG (aW 2))) (gP (ij K) (aW 0) (fG (aW 1)) (fG (aW 3)))) (gP (ij K) (aW 0) (fG (aW 2)) (fG (aW 1)))) (gP (ij K) (aW 0) (fG (aW 3)) i5)
def JN(K:Frag):TE:=iY (rq K) [] E0 (aZ (aW 0) (aZ (j9 (me K (dD K 3 2)) 1 [5,4,6] (cq 0) iP (DX K)) bG))
def QK(K:Frag):TS:=cy (dC (dD K 3 0) (cq 4)) (cy (dC (kg (aW 4) (dD K 3 1)) (cq 5)) (cy (dC (kg (aW 5) (aW 2)) (cq 6)) (eh (JN K))))
theorem aaS{σ:St}{ra:Addr}{w:Nat}(h0:σ[0]?=some (some (.ref ra)))(h1:σ[1]?=some (some (.int ((l+r:Nat):Int))))(h2:σ[2]?=some (some (.int (l:Int))))(h3:σ[3]?=some (some (.int ((l+r+w:Nat):Int))))
  (hr:bh K H ra (row.map V.int)) (hl:row.length=l+r+2*w) (b:row.length≤1000):lO K (DX K) σ H (jc l r w row):=by
 have e1:(row.take l).length≤1000:=by rw[dv];lia
 have e2:((row.drop (l+r)).take w).length≤1000:=by rw[dv,fE];lia
 have e3:((row.drop l).take r).length≤1000:=by rw[dv,fE];lia
 have e4:(row.drop (l+r+w)).length≤1000:=by rw[fE];lia
 unfold DX;refine kI (kI (kI (jw (i9 h0 hr) lP (iq (e9 h2)) (rF (by lia))) (jw (i9 h0 hr) (iq (e9 h1)) (iq (e9 h3)) (zC (by lia))) ?_) (jw (i9 h0 hr) (iq (e9 h2)) (iq (e9 h1)) (zC (by lia))) ?_) (jw (i9 h0 hr) (iq (e9 h3)) lP (sX (by lia))) ?_ <;>
  (try simp only[cx])<;>lia
theorem aaT{a:Addr}{w:Nat}{aN:LL}(pp:p∈cX)(hf:dM K H a l r aN)(hz:aN.length≤400)(hl:l≤100)(hr:r≤100)(hw:w≤40)(hR:ck p (l+r+2*w) aN)
  (q:∀v DS H',aL H H'→bh K H' v DS→br K H' DS ((dI p (aN.map (jc l r w))).map cw)→D.rt (.ref v) H') :
  QK K D [some (.int p),some (.ref aw),some (.int (w:Int)),some (.ref a),none,none,none] H:=by
 obtain⟨t,RS,g1,g2,g3⟩:=hf;unfold QK;refine iE (K:=K) (j:=0) rfl g1 rfl H (.refl _) _ ?_;refine nF (e9 rfl) (iE (K:=K) (j:=1) rfl g1 rfl) H (.refl _) _ ?_;refine nF (e9 rfl) (e9 rfl) H (.refl _) _ ?_;refine⟨_,rfl,_,rfl,a,_,2,_,rfl,rfl,g1,bE (j:=2) rfl,t,rfl,⟨_,g2⟩,?_⟩;have c1:(l:Int)+(r:Int)=((l+r:Nat):Int):=by lia
 have c2:(l:Int)+(r:Int)+(w:Int)=((l+r+w:Nat):Int):=by lia
 rw[c2,c1];refine rG (f:=jc l r w) (cp:=[some (.int ((l+r:Nat):Int)),some (.int (l:Int)),some (.int ((l+r+w:Nat):Int))]) g2 g3 (by lia) (λrow ra H2 iF s2 dJ=>aaS rfl rfl rfl rfl dJ (hR row iF).1 (by rw[(hR row iF).1];lia)) ?_;intro H2 ZS s2 hZ lz i8;have s3:=aL.upd (o:=.lst ZS) i8;refine⟨p,lz,true,ZS,aN.map (jc l r w),l+r+2*w,rfl,pp,.of aX,hZ.mono s3,by rw[bj];lia,by lia,λx hx=>?_,λv H3 DS s4 hv hD=>q v DS H3 (s2.trans (s3.trans s4)) hv hD⟩;obtain⟨y,hy,rfl⟩:=dq.mp hx;exact JL (hR y hy)
section
variable{p:Int}
noncomputable def vd(l r w j:Nat):Option (Int×Nat):=if j<l then some (1,j)else if j<l+w then some (1,j+r)else if j<l+w+r then some (1,j-w)else some (1,j)
theorem aaU{w:Nat}(h:row.length=l+r+2*w)(j:Nat):fn (jc l r w row) j=bt (vd l r w) (fn row) j:=by
 unfold jc;have e1:(row.take l).length=l:=by rw[dv];lia
 have e2:((row.drop (l+r)).take w).length=w:=by rw[dv,fE];lia
 have e3:((row.drop l).take r).length=r:=by rw[dv,fE];lia
 have g:∀(a b:List Int)(j:Nat),a.length≤j→fn (a++b) j=fn b (j-a.length):=λa b j hj=>by
  unfold fn;rw[cz,cz,iL hj]
 have dr:∀(n j:Nat),fn (row.drop n) j=fn row (n+j):=λn j=>(congrFun (aaG row n) j).symm;unfold bt vd;by_cases h1:j<l
 ·simp only[h1,if_true,fV];rw[gH,gH,DP (by rw[e1];exact h1),JD h1]
 ·by_cases h2:j<l+w
  ·simp only[h1,h2,if_true,if_false,fV];rw[gH,gH,g _ _ j (by lia),e1,DP (by rw[e2];lia),JD (by lia),dr,show l+r+(j-l)=j+r by lia]
  ·by_cases h3:j<l+w+r
   ·simp only[h1,h2,h3,if_true,if_false,fV];rw[gH,gH,g _ _ j (by lia),e1,g _ _ _ (by lia),e2,DP (by rw[e3];lia),JD (by lia),dr,show l+(j-l-w)=j-w by lia]
   ·simp only[h1,h2,h3,if_false,fV];rw[gH,gH,g _ _ j (by lia),e1,g _ _ _ (by lia),e2,g _ _ _ (by lia),e3,dr,show l+r+w+(j-l-w-r)=j by lia]
noncomputable def jU(l r w:Nat)(f:Fn):Fn:=λj=>if j<l then f j else if j<l+r then f (j+w)else if j<l+r+w then f (j-r)else f j
theorem aaV{w:Nat}(f:Fn)(j:Nat):bt (vd l r w) (jU l r w f) j=f j:=by
 unfold bt vd jU;by_cases h1:j<l
 ·simp only[h1,if_true,fV]
 ·by_cases h2:j<l+w
  ·simp only[h1,h2,if_true,if_false,fV,show ¬j+r<l by lia,show ¬j+r<l+r by lia,show j+r<l+r+w by lia,show j+r-r=j by lia]
  ·by_cases h3:j<l+w+r
   ·simp only[h1,h2,h3,if_true,if_false,fV,show ¬j-w<l by lia,show j-w<l+r by lia,show j-w+w=j by lia]
   ·simp only[h1,h2,h3,if_false,fV,show ¬j<l+r by lia,show ¬j<l+r+w by lia]
theorem aaW{w:Nat}(f:Fn)(j:Nat):jU l r w (bt (vd l r w) f) j=f j:=by
 unfold bt vd jU;by_cases h1:j<l
 ·simp only[h1,if_true,fV]
 ·by_cases h2:j<l+r
  ·simp only[h1,h2,if_true,if_false,fV,show ¬j+w<l by lia,show ¬j+w<l+w by lia,show j+w<l+w+r by lia,show j+w-w=j by lia]
  ·by_cases h3:j<l+r+w
   ·simp only[h1,h2,h3,if_true,if_false,fV,show ¬j-r<l by lia,show j-r<l+w by lia,show j-r+r=j by lia]
   ·simp only[h1,h2,h3,if_false,fV,show ¬j<l+w by lia,show ¬j<l+w+r by lia]
theorem aaX{w:Nat}{u:Fn}(h:eF p u v):eF p (jU l r w u) (jU l r w v):=λj=>by
 unfold jU;split
 ·exact h _
 ·split
  ·exact h _
  ·split
   ·exact h _
   ·exact h _
theorem aaY{w:Nat}{aN:LL}(h:ck p (l+r+2*w) aN):Sp p (RS (aN.map (jc l r w))) f↔Sp p (RS aN) (jU l r w f):=by
 rw[pw (s:=vd l r w) (λq hq=>mK (aaU (h q hq).1))];constructor
 ·rintro⟨u,hu,e⟩;exact .cR hu ((mK λj=>(aaW u j).symm).trans (aaX e))
 ·intro h;exact⟨_,h,mK (aaV f)⟩
theorem QL(pp:p∈cX)(hd:d.cK p)(hs:d.sm)(hw:d.aK≤40):Sp p (RS ((d.eB p d.aK 0).map (jc d.aI d.aM d.aK))) f ↔
  TR p d f (sh d.aI f) (sh (d.aI+d.aK) f) (sh (d.aI+d.aK+d.aM) f)∧∀s,p∣f (d.aI+d.aK+d.aM+d.aK+s):=by
 obtain⟨_,_,_,hR⟩:=Drw.jA pp hw (d:=d) (c:=0) hd hs (by lia);rw[aaY hR,qk pp hw hd hs (by lia),ql hd (by lia)];have c1:Cg p d.aI (jU d.aI d.aM d.aK f) f:=λj hj=>cH (by unfold jU;rw[ae hj]);have c2:Cg p d.aK (sh (d.aI+d.aM+0) (jU d.aI d.aM d.aK f)) (sh d.aI f):=λj hj=>cH (by
  unfold sh jU;rw[af (by lia),af (by lia),ae (by lia),show d.aI+d.aM+0+j-d.aM=d.aI+j by lia])
 have c3:Cg p d.aM (sh d.aI (jU d.aI d.aM d.aK f)) (sh (d.aI+d.aK) f):=λj hj=>cH (by
  unfold sh jU;rw[af (by lia),ae (by lia),show d.aI+j+d.aK=d.aI+d.aK+j by lia])
 have c4:Cg p d.aK (sh (d.aI+d.aM+d.aK+0) (jU d.aI d.aM d.aK f)) (sh (d.aI+d.aK+d.aM) f):=λj hj=>cH (by
  unfold sh jU;rw[af (by lia),af (by lia),af (by lia),show d.aI+d.aM+d.aK+0+j=d.aI+d.aK+d.aM+j by lia])
 have e5:∀s,jU d.aI d.aM d.aK f (d.aI+d.aM+(2*d.aK+s))=f (d.aI+d.aK+d.aM+d.aK+s):=λs=>by
  unfold jU;rw[af (by lia),af (by lia),af (by lia),show d.aI+d.aM+(2*d.aK+s)=d.aI+d.aK+d.aM+d.aK+s by lia]
 constructor
 ·rintro⟨h,o⟩;exact⟨TR.cR hd c1 c2 c3 c4 h,λs=>by rw[← e5 s];exact o _ (by lia) (by lia)⟩
 ·rintro⟨h,o⟩;refine⟨TR.cR hd c1.symm c2.symm c3.symm c4.symm h,λs h1 h2=>?_⟩;obtain⟨t,rfl⟩:∃t,s=2*d.aK+t:=⟨s-2*d.aK,by lia⟩;rw[e5 t];exact o t
end
abbrev iu:=List (Nat×Int)
noncomputable def rv(v:Fn)(r:iu):Int:=(r.map λt=>t.2*v t.1).sum
def Sat(p:Int)(v:Fn)(rs:List iu):Prop:=∀r∈rs,p∣rv v r
structure Net where
 l:List Nat
 r:List Nat
 rules:List iu
 ws:List (Nat×Nat)
noncomputable def cV(x:Str)(a:Nat):Net:=
 if x="add" then⟨[a,a+1],[a+2],[[(a,1),(a+1,1),(a+2,-1)]],[]⟩else if x="none" then⟨[],[a],[[(a,1)]],[]⟩else if x="late" then⟨[a],[a+1],[],[(a+1,a)]⟩
 else if x="id" then⟨[a],[a],[],[]⟩else if x="swap" then⟨[a,a+1],[a+1,a],[],[]⟩else if x="copy" then⟨[a],[a,a],[],[]⟩else if x="end" then⟨[a],[],[],[]⟩else if x="cup" then⟨[],[a,a],[],[]⟩else⟨[],[],[],[]⟩
theorem DY(a:Nat):cV "add" a=⟨[a,a+1],[a+2],[[(a,1),(a+1,1),(a+2,-1)]],[]⟩:=ae rfl
theorem DZ(a:Nat):cV "none" a=⟨[],[a],[[(a,1)]],[]⟩:=by unfold cV;rw[af (by decide +kernel),ae rfl]
theorem D0(a:Nat):cV "late" a=⟨[a],[a+1],[],[(a+1,a)]⟩:=by unfold cV;rw[af (by decide +kernel),af (by decide +kernel),ae rfl]
theorem xm(a:Nat):cV "id" a=⟨[a],[a],[],[]⟩:=by unfold cV;rw[af (by decide +kernel),af (by decide +kernel),af (by decide +kernel),ae rfl]
theorem xn(a:Nat):cV "swap" a=⟨[a,a+1],[a+1,a],[],[]⟩:=by unfold cV;rw[af (by decide +kernel),af (by decide +kernel),af (by decide +kernel),af (by decide +kernel),ae rfl]
theorem xo(a:Nat):cV "copy" a=⟨[a],[a,a],[],[]⟩:=by unfold cV;rw[af (by decide +kernel),af (by decide +kernel),af (by decide +kernel),af (by decide +kernel),af (by decide +kernel),ae rfl]
theorem xp(a:Nat):cV "end" a=⟨[a],[],[],[]⟩:=by unfold cV;rw[af (by decide +kernel),af (by decide +kernel),af (by decide +kernel),af (by decide +kernel),af (by decide +kernel),af (by decide +kernel),ae rfl]
theorem xq(a:Nat):cV "cup" a=⟨[],[a,a],[],[]⟩:=by unfold cV;rw[af (by decide +kernel),af (by decide +kernel),af (by decide +kernel),af (by decide +kernel),af (by decide +kernel),af (by decide +kernel),af (by decide +kernel),ae rfl]
theorem Af(a:Nat):cV "empty" a=⟨[],[],[],[]⟩:=by unfold cV;rw[af (by decide +kernel),af (by decide +kernel),af (by decide +kernel),af (by decide +kernel),af (by decide +kernel),af (by decide +kernel),af (by decide +kernel),af (by decide +kernel)]
noncomputable def QM(n:Int)(a:Nat):Net:=⟨[a],[a+1],[[(a,n),(a+1,-1)]],[]⟩
noncomputable def jV(xs ys:List Nat):List iu:=List.zipWith (λx y=>[(x,1),(y,-1)]) xs ys
noncomputable def aV:Drw→Nat→Net×Nat
 | .box x _ _ _,N=>(cV x N,N+3)
 | .times n,N=>(QM n N,N+3)
 | .back d,N=>(⟨(aV d N).1.r,(aV d N).1.l,(aV d N).1.rules,(aV d N).1.ws⟩,(aV d N).2)
 | .cJ a b,N=>(⟨(aV a (aV b N).2).1.l++(aV b N).1.l,(aV a (aV b N).2).1.r++(aV b N).1.r,(aV b N).1.rules++(aV a (aV b N).2).1.rules,(aV a (aV b N).2).1.ws++(aV b N).1.ws⟩,(aV a (aV b N).2).2)
 | .bf a b,N=>(⟨(aV a (aV b N).2).1.l,(aV b N).1.r,(aV b N).1.rules++(aV a (aV b N).2).1.rules++jV (aV a (aV b N).2).1.r (aV b N).1.l,(aV a (aV b N).2).1.ws++(aV b N).1.ws⟩,(aV a (aV b N).2).2)
structure Ag(N M:Nat)(A:Net):Prop where
 l:∀s∈A.l,N≤s∧s<M
 r:∀s∈A.r,N≤s∧s<M
 rules:∀q∈A.rules,∀t∈q,N≤t.1∧t.1<M
 ws:∀t∈A.ws,(N≤t.1∧t.1<M)∧N≤t.2∧t.2<M
theorem Ag.wide{N N' M':Nat}(h:Ag N M A)(h1:N'≤N)(h2:M≤M'):Ag N' M' A:=
 ⟨λs hs=>by have:=h.l s hs;lia,λs hs=>by have:=h.r s hs;lia,λq hq t ht=>by have:=h.rules q hq t ht;lia,λt ht=>by have:=h.ws t ht;lia⟩
theorem aaZ(x:Str)(a:Nat):Ag a (a+3) (cV x a):=by
 unfold cV
 repeat' split
 all_goals (constructor<;>intro s hs<;>simp at hs)
 all_goals (try (intro t ht))
 all_goals (try simp at ht)
 all_goals (try (subst hs;simp at ht))
 all_goals (try (rcases hs with hs|hs))
 all_goals (try (rcases ht with ht|ht|ht))
 all_goals (try (rcases ht with ht|ht))
 all_goals (try subst hs)
 all_goals (try subst ht)
 all_goals (simp<;>try lia)
theorem QN{xs ys:List Nat}(h:q∈jV xs ys):∃(i x y:Nat),xs[i]?=some x∧ys[i]?=some y∧q=[(x,1),(y,-1)]:=by
 unfold jV at h;obtain⟨i,hi,e⟩:=List.getElem_of_mem h;rw[List.length_zipWith]at hi;rw[List.getElem_zipWith]at e;exact⟨i,_,_,cn (by lia),cn (by lia),e.symm⟩
theorem pz:∀(d:Drw)(N:Nat),Ag N (aV d N).2 (aV d N).1∧N≤(aV d N).2
 | .box x _ _ _,N=>⟨aaZ x N,nQ _ _⟩
 | .times n,N=>by
  refine⟨⟨λs hs=>?_,λs hs=>?_,λq hq t ht=>?_,λt ht=>by cases ht⟩,nQ _ _⟩
  ·have:s=N:=cQ.mp hs
   show N≤s∧s<N+3;lia
  ·have:s=N+1:=cQ.mp hs
   show N≤s∧s<N+3;lia
  ·have:q=[(N,n),(N+1,-1)]:=cQ.mp hq
   subst this;rcases(cS.mp ht)with(rfl|ht)
   ·show N≤N∧N<N+3;lia
   ·rw[cQ.mp ht];show N≤N+1∧N+1<N+3;lia
 | .back d,N=>by
  obtain⟨h,le⟩:=pz d N;exact⟨⟨h.r,h.l,h.rules,h.ws⟩,le⟩
 | .cJ a b,N=>by
  obtain⟨hb,lb⟩:=pz b N;obtain⟨ha,la⟩:=pz a (aV b N).2;have jd:=ha.wide lb (cf _);have e7:=hb.wide (cf _) la;exact⟨⟨λs hs=>(dm.mp hs).elim (jd.l s) (e7.l s),λs hs=>(dm.mp hs).elim (jd.r s) (e7.r s),λq hq=>(dm.mp hq).elim (e7.rules q) (jd.rules q),λt ht=>(dm.mp ht).elim (jd.ws t) (e7.ws t)⟩,eJ lb la⟩
 | .bf a b,N=>by
  obtain⟨hb,lb⟩:=pz b N;obtain⟨ha,la⟩:=pz a (aV b N).2;have jd:=ha.wide lb (cf _);have e7:=hb.wide (cf _) la;refine⟨⟨jd.l,e7.r,λq hq t ht=>?_,λt ht=>(dm.mp ht).elim (jd.ws t) (e7.ws t)⟩,eJ lb la⟩;rcases(dm.mp hq)with(hq|hq)
  ·exact(dm.mp hq).elim (λz=>e7.rules q z t ht) (λz=>jd.rules q z t ht)
  ·obtain⟨i,x,y,hx,hy,rfl⟩:=QN hq;rcases(cS.mp ht)with(rfl|ht)
   ·exact jd.r x (dY hx)
   ·rw[cQ.mp ht];exact e7.l y (dY hy)
section
variable{p:Int}
theorem D3{aN:LL}{C:Str→Nat→Nat→LL→Prop}(h:(x,l,r,aN)∈e8)(c1:C "id" 1 1 [[1,1]])(c2:C "swap" 2 2 [[1,0,0,1],[0,1,1,0]])(c3:C "copy" 1 2 [[1,1,1]])(c4:C "end" 1 0 [[1]])(c5:C "add" 2 1 [[1,0,1],[0,1,1]])(c6:C "none" 0 1 [])(c7:C "cup" 0 2 [[1,1]])(c8:C "empty" 0 0 []):C x l r aN:=by
 simp only[e8,cS,xS,or_false,Prod.mk.injEq]at h;rcases h with⟨rfl,rfl,rfl,rfl⟩|⟨rfl,rfl,rfl,rfl⟩|⟨rfl,rfl,rfl,rfl⟩|⟨rfl,rfl,rfl,rfl⟩|⟨rfl,rfl,rfl,rfl⟩|⟨rfl,rfl,rfl,rfl⟩|⟨rfl,rfl,rfl,rfl⟩|⟨rfl,rfl,rfl,rfl⟩<;>assumption
theorem jD:∀{d:Drw}{N:Nat},d.cK p→(aV d N).1.l.length=d.aI∧(aV d N).1.r.length=d.aM∧(aV d N).1.ws.length=d.aK
 | .box x l r aN,N,hd=>by
  rcases hd with hd|⟨rfl,rfl,rfl⟩
  ·rw[lR hd];show(cV x N).l.length=l∧(cV x N).r.length=r∧(cV x N).ws.length=0;refine D3 (C:=λx l r _=>(cV x N).l.length=l∧(cV x N).r.length=r∧(cV x N).ws.length=0) hd ?_ ?_ ?_ ?_ ?_ ?_ ?_ ?_
   ·rw[xm];exact⟨rfl,rfl,rfl⟩
   ·rw[xn];exact⟨rfl,rfl,rfl⟩
   ·rw[xo];exact⟨rfl,rfl,rfl⟩
   ·rw[xp];exact⟨rfl,rfl,rfl⟩
   ·rw[DY];exact⟨rfl,rfl,rfl⟩
   ·rw[DZ];exact⟨rfl,rfl,rfl⟩
   ·rw[xq];exact⟨rfl,rfl,rfl⟩
   ·rw[Af];exact⟨rfl,rfl,rfl⟩
  ·show(cV "late" N).l.length=1∧(cV "late" N).r.length=1∧(cV "late" N).ws.length=1;rw[D0];exact⟨rfl,rfl,rfl⟩
 | .times n,N,_=>⟨rfl,rfl,rfl⟩
 | .back d,N,hd=>let ⟨a,b,c⟩:=jD (d:=d) (N:=N) hd;⟨b,a,c⟩
 | .cJ a b,N,hd=>by
  obtain⟨b1,b2,b3⟩:=jD (d:=b) (N:=N) hd.2;obtain⟨a1,a2,a3⟩:=jD (d:=a) (N:=(aV b N).2) hd.1;refine⟨?_,?_,?_⟩
  ·show(_++_:List Nat).length=_;rw[cx,a1,b1];rfl
  ·show(_++_:List Nat).length=_;rw[cx,a2,b2];rfl
  ·show(_++_:List (Nat×Nat)).length=_;rw[cx,a3,b3];rfl
 | .bf a b,N,hd=>by
  obtain⟨b1,b2,b3⟩:=jD (d:=b) (N:=N) hd.2.1;obtain⟨a1,a2,a3⟩:=jD (d:=a) (N:=(aV b N).2) hd.1;refine⟨a1,b2,?_⟩;show(_++_:List (Nat×Nat)).length=_;rw[cx,a3,b3];rfl
noncomputable def atS(v:Fn)(L:List Nat):Fn:=fn (L.map v)
theorem qo{j:Nat}(h:j<L.length):atS v (L++L') j=atS v L j:=by
 unfold atS;rw[cY];exact DP (by rw[bj];exact h)
theorem qp(h:L.length=n):sh n (atS v (L++L'))=atS v L':=by
 unfold atS;rw[cY];exact aaF (by rw[bj];exact h)
theorem D4(h:L[i]?=some s):atS v L i=v s:=by
 unfold atS fn;rw[cz,du,h];rfl
theorem lS{v':Fn}(h:∀s∈L,v s=v' s):atS v L=atS v' L:=by
 unfold atS;rw[Bc h]
theorem Ah{v':Fn}(h:∀t∈q,v t.1=v' t.1):rv v q=rv v' q:=by
 unfold rv;rw[Bc λt ht=>by rw[h t ht]]
theorem QO{x y:Nat}:rv v [(x,1),(y,-1)]=v x-v y:=by
 show 1*v x+(-1*v y+0)=_;lia
theorem xr:∀{d:Drw}{N:Nat}{v:Fn},d.cK p→Sat p v (aV d N).1.rules→TR p d (atS v (aV d N).1.l) (atS v ((aV d N).1.ws.map Prod.fst)) (atS v (aV d N).1.r) (atS v ((aV d N).1.ws.map Prod.snd))
 | .box x l r aN,N,v,hd,hs=>by
  rcases hd with hd|⟨rfl,rfl,rfl⟩
  ·rw[tL hd];show Sp p (RS aN) (λj=>if j<l then atS v (cV x N).l j else if j<l+r then atS v (cV x N).r (j-l)else 0)
   have hs:Sat p v (cV x N).rules:=hs
   revert hs
   refine D3 (C:=λx l r aN=>Sat p v (cV x N).rules→Sp p (RS aN) (λj=>if j<l then atS v (cV x N).l j else if j<l+r then atS v (cV x N).r (j-l)else 0)) hd ?_ ?_ ?_ ?_ ?_ ?_ ?_ ?_
   ·intro _;rw[xm,zX];exact⟨cH rfl,px λj hj=>by rw[af (by lia),af (by lia)]⟩
   ·intro _;rw[xn,JC];exact⟨cH rfl,cH rfl,px λj hj=>by rw[af (by lia),af (by lia)]⟩
   ·intro _;rw[xo,JA];exact⟨cH rfl,cH rfl,px λj hj=>by rw[af (by lia),af (by lia)]⟩
   ·intro _;rw[xp,Ql];exact px λj hj=>by rw[af (by lia),af (by lia)]
   ·rw[DY,JB];intro hs;have h:=hs _ cP;have h:p∣1*v N+(1*v (N+1)+(-1*v (N+2)+0)):=h;refine⟨?_,px λj hj=>by rw[af (by lia),af (by lia)]⟩;show p∣v (N+2)-(v N+v (N+1))
    have:=nh.mpr h
    rwa[show -(1*v N+(1*v (N+1)+(-1*v (N+2)+0)))=v (N+2)-(v N+v (N+1)) by lia]at this
   ·rw[DZ,jt];intro hs j;have h:p∣1*v N+0:=hs _ cP;rw[show 1*v N+0=v N by lia]at h;by_cases hj:j<1
    ·obtain rfl:j=0:=by lia
     exact h
    ·rw[af (by lia),af (by lia)];exact⟨0,by lia⟩
   ·intro _;rw[xq,zX];exact⟨cH rfl,px λj hj=>by rw[af (by lia),af (by lia)]⟩
   ·intro _;rw[jt];intro j;rw[af (by lia),af (by lia)];exact⟨0,by lia⟩
  ·have e:(aV (.box (Str.ofString "late") 1 1 aN) N).1=⟨[N],[N+1],[],[(N+1,N)]⟩:=D0 N;rw[e];show(if _ then _ else _)
   rw[ae rfl];exact⟨cH rfl,cH rfl⟩
 | .times n,N,v,_,hs=>by
  have h:p∣n*v N+(-1*v (N+1)+0):=hs _ cP;show p∣v (N+1)-n*v N
  have:=nh.mpr h
  rwa[show -(n*v N+(-1*v (N+1)+0))=v (N+1)-n*v N by lia]at this
 | .back d,N,v,hd,hs=>xr (d:=d) hd hs
 | .cJ a b,N,v,hd,hs=>by
  obtain⟨a1,a2,a3⟩:=jD (d:=a) (N:=(aV b N).2) hd.1;have ta:=xr (d:=a) (N:=(aV b N).2) (v:=v) hd.1 λq hq=>hs q (iX _ hq);have tb:=xr (d:=b) (N:=N) (v:=v) hd.2 λq hq=>hs q (nc _ hq);show TR p a (atS v (_++_)) (atS v (List.map _ (_++_))) (atS v (_++_)) (atS v (List.map _ (_++_)))∧TR p b (sh a.aI (atS v (_++_))) (sh a.aK (atS v (List.map _ (_++_)))) (sh a.aM (atS v (_++_))) (sh a.aK (atS v (List.map _ (_++_))));rw[cY,cY,qp a1,qp a2,qp (by rw[bj];exact a3),qp (by rw[bj];exact a3)];refine⟨TR.cR hd.1 (λj hj=>cH (qo (by lia)).symm) (λj hj=>cH (qo (by rw[bj];lia)).symm) (λj hj=>cH (qo (by lia)).symm) (λj hj=>cH (qo (by rw[bj];lia)).symm) ta,tb⟩
 | .bf a b,N,v,hd,hs=>by
  obtain⟨a1,a2,a3⟩:=jD (d:=a) (N:=(aV b N).2) hd.1;obtain⟨b1,b2,b3⟩:=jD (d:=b) (N:=N) hd.2.1;have ta:=xr (d:=a) (N:=(aV b N).2) (v:=v) hd.1 λq hq=>hs q (nc _ (iX _ hq));have tb:=xr (d:=b) (N:=N) (v:=v) hd.2.1 λq hq=>hs q (nc _ (nc _ hq));show ∃m,TR p a _ (atS v (List.map _ (_++_))) m (atS v (List.map _ (_++_)))∧TR p b m (sh a.aK (atS v (List.map _ (_++_)))) _ (sh a.aK (atS v (List.map _ (_++_))));rw[cY,cY,qp (by rw[bj];exact a3),qp (by rw[bj];exact a3)];refine⟨atS v (aV a (aV b N).2).1.r,TR.cR hd.1 (.refl _ _) (λj hj=>cH (qo (by rw[bj];lia)).symm) (.refl _ _) (λj hj=>cH (qo (by rw[bj];lia)).symm) ta,TR.cR hd.2.1 (λj hj=>?_) (.refl _ _) (.refl _ _) (.refl _ _) tb⟩;have hm:=hd.2.2;have ex:(aV a (aV b N).2).1.r[j]?=some ((aV a (aV b N).2).1.r[j]'(by lia)):=cn (by lia);have ey:(aV b N).1.l[j]?=some ((aV b N).1.l[j]'(by lia)):=cn (by lia);rw[D4 ex,D4 ey];have hq:[((aV a (aV b N).2).1.r[j]'(by lia),(1:Int)),((aV b N).1.l[j]'(by lia),-1)]∈jV (aV a (aV b N).2).1.r (aV b N).1.l:=by
   unfold jV;have hz:j<(List.zipWith (λx y=>[(x,(1:Int)),(y,-1)]) (aV a (aV b N).2).1.r (aV b N).1.l).length:=by rw[List.length_zipWith];lia
   have:=gY hz
   rwa[List.getElem_zipWith]at this
  have h:=hs _ (iX _ hq);rw[QO]at h;exact uY h
end
section
variable{p:Int}
theorem QP{a:List Int}(h:a.length=n)(s:Nat):fn a (n+s)=0:=by
 unfold fn;rw[cz,jj (by lia)];rfl
end
section
variable{p:Int}
def QQ(p:Int)(d:Drw)(A:Net)(x k y a:Fn):Prop:=∃v,Sat p v A.rules∧Cg p d.aI x (atS v A.l)∧Cg p d.aK k (atS v (A.ws.map Prod.fst))∧Cg p d.aM y (atS v A.r)∧Cg p d.aK a (atS v (A.ws.map Prod.snd))
theorem oF{x:Fn}(h:p∣x 0-v s):Cg p 1 x (atS v [s]):=uZ.mpr h
theorem Ai{x:Fn}{t:Nat}(h:p∣x 0-v s)(h':p∣x 1-v t):Cg p 2 x (atS v [s,t]):=JF.mpr ⟨h,h'⟩
theorem ve:Sat p v []:=λq hq=>by cases hq
theorem xt{m:Nat}{x:Fn}(hL:L.length=n)(h1:Cg p n x (atS v L))(h2:Cg p m (sh n x) (atS v L')):Cg p (n+m) x (atS v (L++L')):=by
 intro j hj;by_cases hn:j<n
 ·rw[qo (by lia)];exact h1 j hn
 ·have:=h2 (j-n) (by lia)
  rw[← qp (v:=v) (L':=L') hL]at this;unfold sh at this;rwa[show n+(j-n)=j by lia]at this
theorem xu:∀{d:Drw}{N:Nat}{x k y a:Fn},d.cK p→TR p d x k y a→QQ p d (aV d N).1 x k y a
 | .box w l r aN,N,x,k,y,a,hd,h=>by
  rcases hd with hd|⟨rfl,rfl,rfl⟩
  ·rw[tL hd]at h;unfold QQ;rw[lR hd]
   revert h
   show _→∃v,Sat p v (cV w N).rules∧Cg p l x (atS v (cV w N).l)∧Cg p 0 k _∧Cg p r y (atS v (cV w N).r)∧Cg p 0 a _
   suffices H:Sp p (RS aN) (λj=>if j<l then x j else if j<l+r then y (j-l)else 0)→∃v,Sat p v (cV w N).rules∧Cg p l x (atS v (cV w N).l)∧Cg p r y (atS v (cV w N).r) by
    intro h;obtain⟨v,h1,h2,h3⟩:=H h;exact⟨v,h1,h2,ki,h3,ki⟩
   refine D3 (C:=λw l r aN=>Sp p (RS aN) (λj=>if j<l then x j else if j<l+r then y (j-l)else 0)→∃v,Sat p v (cV w N).rules∧Cg p l x (atS v (cV w N).l)∧Cg p r y (atS v (cV w N).r)) hd ?_ ?_ ?_ ?_ ?_ ?_ ?_ ?_
   ·rw[xm,zX];intro h;exact⟨λ_=>x 0,ve,oF (cH rfl),oF h.1⟩
   ·rw[xn,JC];intro h;refine⟨λs=>if s=N then x 0 else x 1,ve,Ai (cH (ae rfl).symm) (cH (af (by lia)).symm),Ai ?_ ?_⟩
    ·show p∣y 0-(if N+1=N then x 0 else x 1)
     rw[af (by lia)];exact h.2.1
    ·show p∣y 1-(if N=N then x 0 else x 1)
     rw[ae rfl];exact h.1
   ·rw[xo,JA];intro h;exact⟨λ_=>x 0,ve,oF (cH rfl),Ai h.1 h.2.1⟩
   ·rw[xp];intro _;exact⟨λ_=>x 0,ve,oF (cH rfl),ki⟩
   ·rw[DY,JB];intro h;refine⟨λs=>if s=N then x 0 else if s=N+1 then x 1 else y 0,λq hq=>?_,Ai (cH (ae rfl).symm) (cH ?_),oF (cH ?_)⟩
    ·rw[cQ.mp hq];show p∣1*(if N=N then x 0 else _)+(1*(if N+1=N then x 0 else if N+1=N+1 then x 1 else y 0)+(-1*(if N+2=N then x 0 else if N+2=N+1 then x 1 else y 0)+0))
     rw[ae rfl,af (by lia),ae rfl,af (by lia),af (by lia)];have h1:p∣y 0-(x 0+x 1):=h.1
     have:=nh.mpr h1
     rwa[show -(y 0-(x 0+x 1))=1*x 0+(1*x 1+(-1*y 0+0)) by lia]at this
    ·show x 1=if N+1=N then x 0 else if N+1=N+1 then x 1 else y 0
     rw[af (by lia),ae rfl]
    ·show y 0=if N+2=N then x 0 else if N+2=N+1 then x 1 else y 0
     rw[af (by lia),af (by lia)]
   ·rw[DZ,jt];intro h;refine⟨λ_=>y 0,λq hq=>?_,ki,oF (cH rfl)⟩;rw[cQ.mp hq];have h0:p∣y 0:=h 0;show p∣1*y 0+0;rwa[show 1*y 0+0=y 0 by lia]
   ·rw[xq,zX];intro h;exact⟨λ_=>y 0,ve,ki,Ai (cH rfl) h.1⟩
   ·rw[Af];intro _;exact⟨λ_=>0,ve,ki,ki⟩
  ·have e:(aV (.box (Str.ofString "late") 1 1 aN) N).1=⟨[N],[N+1],[],[(N+1,N)]⟩:=D0 N;rw[e];have h:if Str.ofString "late"=Str.ofString "late" then p∣y 0-k 0∧p∣a 0-x 0 else _:=h
   rw[ae rfl]at h;refine⟨λs=>if s=N then x 0 else y 0,ve,oF (cH (ae rfl).symm),?_,?_,?_⟩
   ·refine(show Cg p 1 k (atS _ [N+1]) from oF ?_)
    show p∣k 0-(if N+1=N then x 0 else y 0)
    rw[af (by lia)];exact uY h.1
   ·refine(show Cg p 1 y (atS _ [N+1]) from oF ?_)
    show p∣y 0-(if N+1=N then x 0 else y 0)
    rw[af (by lia)];exact cH rfl
   ·refine(show Cg p 1 a (atS _ [N]) from oF ?_)
    show p∣a 0-(if N=N then x 0 else y 0)
    rw[ae rfl];exact h.2
 | .times n,N,x,k,y,a,_,h=>by
  have h:p∣y 0-n*x 0:=h;refine⟨λs=>if s=N then x 0 else y 0,λq hq=>?_,(show Cg p 1 x (atS _ [N]) from oF (cH (ae rfl).symm)),ki,?_,ki⟩
  ·rw[cQ.mp hq];show p∣n*(if N=N then x 0 else y 0)+(-1*(if N+1=N then x 0 else y 0)+0)
   rw[ae rfl,af (by lia)]
   have:=nh.mpr h
   rwa[show -(y 0-n*x 0)=n*x 0+(-1*y 0+0) by lia]at this
  ·refine(show Cg p 1 y (atS _ [N+1]) from oF ?_)
   show p∣y 0-(if N+1=N then x 0 else y 0)
   rw[af (by lia)];exact cH rfl
 | .back d,N,x,k,y,a,hd,h=>by
  obtain⟨v,h1,h2,h3,h4,h5⟩:=xu (d:=d) (N:=N) hd h;exact⟨v,h1,h4,h3,h2,h5⟩
 | .cJ c b,N,x,k,y,a,hd,h=>by
  obtain⟨a1,a2,a3⟩:=jD (d:=c) (N:=(aV b N).2) hd.1;obtain⟨va,h1,h2,h3,h4,h5⟩:=xu (d:=c) (N:=(aV b N).2) hd.1 h.1;obtain⟨vb,g1,g2,g3,g4,g5⟩:=xu (d:=b) (N:=N) hd.2 h.2;obtain⟨ia,_⟩:=pz c (aV b N).2;obtain⟨ib,_⟩:=pz b N;have ea:∀s,(aV b N).2≤s→(if s<(aV b N).2 then vb s else va s)=va s:=λs hs=>af (by lia)
  have eb:∀s,s<(aV b N).2→(if s<(aV b N).2 then vb s else va s)=vb s:=λs hs=>ae hs
  refine⟨λs=>if s<(aV b N).2 then vb s else va s,λq hq=>?_,xt a1 ?_ ?_,?_,xt a2 ?_ ?_,?_⟩
  ·rcases(dm.mp hq)with(hq|hq)
   ·rw[Ah (v':=vb) λt ht=>eb _ (ib.rules q hq t ht).2];exact g1 q hq
   ·rw[Ah (v':=va) λt ht=>ea _ (ia.rules q hq t ht).1];exact h1 q hq
  ·rw[lS (v':=va) λs hs=>ea s (ia.l s hs).1];exact h2
  ·rw[lS (v':=vb) λs hs=>eb s (ib.l s hs).2];exact g2
  ·show Cg p (c.aK+b.aK) k (atS _ (List.map _ (_++_)));rw[cY];refine xt (by rw[bj];exact a3) ?_ ?_
   ·rw[lS (v':=va) λs hs=>by obtain⟨t,ht,rfl⟩:=dq.mp hs;exact ea _ (ia.ws t ht).1.1];exact h3
   ·rw[lS (v':=vb) λs hs=>by obtain⟨t,ht,rfl⟩:=dq.mp hs;exact eb _ (ib.ws t ht).1.2];exact g3
  ·rw[lS (v':=va) λs hs=>ea s (ia.r s hs).1];exact h4
  ·rw[lS (v':=vb) λs hs=>eb s (ib.r s hs).2];exact g4
  ·show Cg p (c.aK+b.aK) a (atS _ (List.map _ (_++_)));rw[cY];refine xt (by rw[bj];exact a3) ?_ ?_
   ·rw[lS (v':=va) λs hs=>by obtain⟨t,ht,rfl⟩:=dq.mp hs;exact ea _ (ia.ws t ht).2.1];exact h5
   ·rw[lS (v':=vb) λs hs=>by obtain⟨t,ht,rfl⟩:=dq.mp hs;exact eb _ (ib.ws t ht).2.2];exact g5
 | .bf c b,N,x,k,y,a,hd,⟨m,h,h'⟩=>by
  obtain⟨a1,a2,a3⟩:=jD (d:=c) (N:=(aV b N).2) hd.1;obtain⟨b1,b2,b3⟩:=jD (d:=b) (N:=N) hd.2.1;obtain⟨va,h1,h2,h3,h4,h5⟩:=xu (d:=c) (N:=(aV b N).2) hd.1 h;obtain⟨vb,g1,g2,g3,g4,g5⟩:=xu (d:=b) (N:=N) hd.2.1 h';obtain⟨ia,_⟩:=pz c (aV b N).2;obtain⟨ib,_⟩:=pz b N;have hm:=hd.2.2;have ea:∀s,(aV b N).2≤s→(if s<(aV b N).2 then vb s else va s)=va s:=λs hs=>af (by lia)
  have eb:∀s,s<(aV b N).2→(if s<(aV b N).2 then vb s else va s)=vb s:=λs hs=>ae hs
  refine⟨λs=>if s<(aV b N).2 then vb s else va s,λq hq=>?_,?_,?_,?_,?_⟩
  ·rcases(dm.mp hq)with(hq|hq)
   ·rcases(dm.mp hq)with(hq|hq)
    ·rw[Ah (v':=vb) λt ht=>eb _ (ib.rules q hq t ht).2];exact g1 q hq
    ·rw[Ah (v':=va) λt ht=>ea _ (ia.rules q hq t ht).1];exact h1 q hq
   ·obtain⟨i,s,t,hs,ht,rfl⟩:=QN hq;rw[QO,ea s (ia.r s (dY hs)).1,eb t (ib.l t (dY ht)).2];have hi:i<c.aM:=by rw[← a2];exact(dO.mp hs).1
    have q1:=h4 i hi;have q2:=g2 i (by rw[← hm];exact hi);rw[D4 hs]at q1;rw[D4 ht]at q2;exact iZ q2 q1 (by lia)
  ·show Cg p c.aI x (atS _ (aV c (aV b N).2).1.l);rw[lS (v':=va) λs hs=>ea s (ia.l s hs).1];exact h2
  ·show Cg p (c.aK+b.aK) k (atS _ (List.map _ (_++_)));rw[cY];refine xt (by rw[bj];exact a3) ?_ ?_
   ·rw[lS (v':=va) λs hs=>by obtain⟨t,ht,rfl⟩:=dq.mp hs;exact ea _ (ia.ws t ht).1.1];exact h3
   ·rw[lS (v':=vb) λs hs=>by obtain⟨t,ht,rfl⟩:=dq.mp hs;exact eb _ (ib.ws t ht).1.2];exact g3
  ·show Cg p b.aM y (atS _ (aV b N).1.r);rw[lS (v':=vb) λs hs=>eb s (ib.r s hs).2];exact g4
  ·show Cg p (c.aK+b.aK) a (atS _ (List.map _ (_++_)));rw[cY];refine xt (by rw[bj];exact a3) ?_ ?_
   ·rw[lS (v':=va) λs hs=>by obtain⟨t,ht,rfl⟩:=dq.mp hs;exact ea _ (ia.ws t ht).2.1];exact h5
   ·rw[lS (v':=vb) λs hs=>by obtain⟨t,ht,rfl⟩:=dq.mp hs;exact eb _ (ib.ws t ht).2.2];exact g5
end
section
variable{p:Int}
noncomputable def lT(p:Int)(M:Nat)(q:iu):List Int:=q.foldl (λrow t=>row.set t.1 ((row.getD t.1 0+t.2)%p)) (List.replicate M 0)
theorem uC(f g:Nat→Int):∀n,Sg (λi=>f i+g i) n=Sg f n+Sg g n
 |0=>rfl
 |n+1=>by
  show Sg (λi=>f i+g i) n+(f n+g n)=(Sg f n+f n)+(Sg g n+g n);rw[uC f g n];lia
theorem rf{f:Nat→Int}(ha:a<n)(h:∀i,i<n→i≠a→f i=0):Sg f n=f a:=by
 induction n with
 |zero=>lia
 |succ n ih=>
  show Sg f n+f n=f a;by_cases e:a=n
  ·subst e;rw[sJ λi hi=>h i (by lia) (by lia)];lia
  ·rw[ih (by lia) λi hi cB=>h i (by lia) cB,h n (by lia) (by lia)];lia
theorem wG{r:List Int}{j:Nat}{x:Int}(ha:a<r.length):(r.set a x).getD j 0=if j=a then x else r.getD j 0:=by
 rw[cz,List.getElem?_set];by_cases e:a=j
 ·subst e;rw[ae rfl,ae ha,ae rfl];rfl
 ·rw[af e,af λz=>e z.symm,cz]
theorem aa0(p0:0<p){c:Int}(v:Fn)(hr:Rw p M row)(ha:a<M):Rw p M (row.set a ((row.getD a 0+c)%p))∧p∣dot (fn (row.set a ((row.getD a 0+c)%p))) v M-(dot (fn row) v M+c*v a):=by
 refine⟨⟨by rw[List.length_set];exact hr.1,λx hx=>?_⟩,?_⟩
 ·rcases List.mem_or_eq_of_mem_set hx with hx|rfl
  ·exact hr.2 x hx
  ·exact⟨lY _ (by lia),lZ _ p0⟩
 ·have e:dot (fn (row.set a ((row.getD a 0+c)%p))) v M=dot (fn row) v M+((row.getD a 0+c)%p-row.getD a 0)*v a:=by
   unfold dot;have h1:∀i,i<M→fn (row.set a ((row.getD a 0+c)%p)) i*v i=fn row i*v i+(if i=a then((row.getD a 0+c)%p-row.getD a 0)*v a else 0):=λi _=>by
    show(row.set a _).getD i 0*v i=row.getD i 0*v i+_;rw[wG (by rw[hr.1];exact ha)];by_cases e:i=a
    ·subst e;rw[ae rfl,ae rfl,Int.sub_mul];lia
    ·rw[af e,af e];lia
   rw[y3 h1,uC,rf (f:=λi=>if i=a then((row.getD a 0+c)%p-row.getD a 0)*v a else 0) ha λi _ cB=>af cB,ae rfl]
  rw[e];have h:=oh p (row.getD a 0+c);have h2:p∣((row.getD a 0+c)%p-(row.getD a 0+c))*v a:=Int.dvd_mul_of_dvd_left h;rwa[show((row.getD a 0+c)%p-(row.getD a 0+c))*v a=dot (fn row) v M+((row.getD a 0+c)%p-row.getD a 0)*v a-(dot (fn row) v M+c*v a) by grind]at h2
theorem QR(p0:0<p){M:Nat}(v:Fn):∀(q:iu){row:List Int},Rw p M row→(∀t∈q,t.1<M)→Rw p M (q.foldl (λrow t=>row.set t.1 ((row.getD t.1 0+t.2)%p)) row)∧p∣dot (fn (q.foldl (λrow t=>row.set t.1 ((row.getD t.1 0+t.2)%p)) row)) v M-(dot (fn row) v M+rv v q)
 | [],row,hr,_=>⟨hr,by show p∣dot (fn row) v M-(dot (fn row) v M+0);exact⟨0,by lia⟩⟩
 |t::q,row,hr,h=>by
  obtain⟨s1,s2⟩:=aa0 p0 (c:=t.2) v hr (h t cP);obtain⟨i1,i2⟩:=QR p0 v q s1 λu hu=>h u (dU _ hu);refine⟨i1,?_⟩;have e:rv v (t::q)=t.2*v t.1+rv v q:=rfl;rw[List.foldl_cons,e];exact uX i2 s2 (by lia)
theorem aa1(p0:0<p)(M:Nat):Rw p M (List.replicate M 0):=⟨gG,λx hx=>by rw[List.eq_of_mem_replicate hx];exact⟨Int.le_refl 0,p0⟩⟩
theorem D5(p0:0<p)(v:Fn)(h:∀t∈q,t.1<M):Rw p M (lT p M q)∧p∣dot (fn (lT p M q)) v M-rv v q:=by
 obtain⟨h1,h2⟩:=QR p0 v q (aa1 p0 M) h;refine⟨h1,?_⟩;have e:dot (fn (List.replicate M 0)) v M=0:=sJ λi _=>by show(List.replicate M (0:Int)).getD i 0*v i=0;rw[N0];lia
 rw[e]at h2;rwa[show(0:Int)+rv v q=rv v q by lia]at h2
noncomputable def ff(A:Net):List Nat:=A.l++A.ws.map Prod.fst++A.r++A.ws.map Prod.snd
noncomputable def Aj(p:Int)(A:Net)(M:Nat):LL:=(sN p M (dI p (A.rules.map (lT p M)))).map λb=>(ff A).map λs=>b.getD s 0
theorem aa2{B:LL}{S:List Nat}{u:Fn}(h:Sp p (RS B) u):Sp p (RS (B.map λb=>S.map λs=>b.getD s 0)) (atS u S):=by
 induction h with
 |zero=>
  refine Sp.zero.of_eq λj=>?_;unfold atS fn;rw[cz,du];cases S[j]?<;>rfl
 | @add v r c _ hr ih=>
  obtain⟨b,hb,rfl⟩:=hr;refine(Sp.add c ih ⟨_,xV hb,rfl⟩).of_eq λj=>?_;unfold atS fn;rw[cz,cz,cz,du,du,du];cases S[j]? with
  |none=>show(0:Int)+c*0=0;lia
  |some s=>rfl
 | @cR u v _ e ih=>
  refine .cR ih λj=>?_;unfold atS fn;rw[cz,cz,du,du];cases S[j]? with
  |none=>exact⟨0,by show(0:Int)-0=_;lia⟩
  |some s=>exact e s
theorem QS{w:Nat}(h1:A.l.length=l)(h2:A.ws.length=w)(h3:A.r.length=r):(∀j,j<l→atS v (ff A) j=atS v A.l j)∧(∀j,j<w→atS v (ff A) (l+j)=atS v (A.ws.map Prod.fst) j)∧(∀j,j<r→atS v (ff A) (l+w+j)=atS v A.r j)∧∀j,atS v (ff A) (l+w+r+j)=atS v (A.ws.map Prod.snd) j:=by
 have w1:(A.ws.map Prod.fst).length=w:=by rw[bj];exact h2
 have e1:(A.l++A.ws.map Prod.fst).length=l+w:=by rw[cx,h1,w1]
 have e2:(A.l++A.ws.map Prod.fst++A.r).length=l+w+r:=by rw[cx,e1,h3]
 unfold ff;refine⟨λj hj=>?_,λj hj=>?_,λj hj=>?_,λj=>?_⟩
 ·rw[gH,gH,qo (by lia)]
 ·rw[gH,gH]
  have:=congrFun (qp (v:=v) (L':=A.ws.map Prod.fst++(A.r++A.ws.map Prod.snd)) h1) j
  unfold sh at this;rw[this,qo (by lia)]
 ·rw[gH (A.l++A.ws.map Prod.fst)]
  have:=congrFun (qp (v:=v) (L':=A.r++A.ws.map Prod.snd) e1) j
  unfold sh at this;rw[this,qo (by lia)]
 ·have:=congrFun (qp (v:=v) (L':=A.ws.map Prod.snd) e2) j
  unfold sh at this;exact this
theorem QT{w:Nat}(h1:A.l.length=l)(h2:A.ws.length=w)(h3:A.r.length=r):(ff A).length=l+r+2*w:=by
 unfold ff;simp only[cx,bj,h1,h2,h3];lia
theorem QU{D:LL}{m:Nat}(h:∀r∈D,p∣dot f (fn r) m)(hv:Sp p (RS D) v):p∣dot f v m:=NY (λr hr=>by obtain⟨x,hx,rfl⟩:=hr;exact h x hx) hv
theorem aa3{D B:LL}{ls:List Nat}(E:fu n n D ls)(h:y4 p n D ls (lK n ls) B){b:List Int}(hb:b∈B):∀r∈D,p∣dot (fn b) (fn r) n:=by
 obtain⟨i,hi,rfl⟩:=l5.mp hb;have jq:i<(lK n ls).length:=by rw[← h.len];exact hi
 have hf:=jZ.mp (gY jq);have B':=h.at_ i _ _ (cn jq) (cn hi);exact B'.dot E (nN.mp hf.1) (by simpa using hf.2)
theorem aa4(pp:p∈cX)(hd:d.cK p)(hs:d.sm)(hw:d.aK≤40):ck p (d.aI+d.aM+2*d.aK) ((d.eB p d.aK 0).map (jc d.aI d.aM d.aK)):=by
 obtain⟨_,_,_,hR⟩:=Drw.jA pp hw (d:=d) (c:=0) hd hs (by lia);intro x hx;obtain⟨y,hy,rfl⟩:=dq.mp hx;exact JL (hR y hy)
theorem aa5(pp:p∈cX)(hd:d.cK p)(hs:d.sm)(hw:d.aK≤40) :
  dI p (Aj p (aV d 0).1 (aV d 0).2)=dI p ((d.eB p d.aK 0).map (jc d.aI d.aM d.aK))∧ck p (d.aI+d.aM+2*d.aK) (Aj p (aV d 0).1 (aV d 0).2)∧ck p (aV d 0).2 ((aV d 0).1.rules.map (lT p (aV d 0).2)):=by
 obtain⟨p2,_⟩:=fI p pp;have p0:0<p:=by lia
 obtain⟨l1,l3,l2⟩:=jD (d:=d) (N:=0) hd;obtain⟨ig,_⟩:=pz d 0;generalize (aV d 0).2=M at ig ⊢;have QW:=λ(v:Fn)(h:Sat p v (aV d 0).1.rules)=>xr (d:=d) (N:=0) hd h;have QX:=λ(x k y a:Fn)(h:TR p d x k y a)=>xu (d:=d) (N:=0) hd h;generalize (aV d 0).1=A at l1 l2 l3 ig QW QX ⊢;have rR:ck p M (A.rules.map (lT p M)):=λx hx=>by
  obtain⟨q,hq,rfl⟩:=dq.mp hx;exact(D5 p0 (λ_=>0) λt ht=>(ig.rules q hq t ht).2).1
 obtain⟨hR2,⟨ls,E⟩,aa6,aa7⟩:=jr pp rR;have hB:=N3 pp E hR2;have sl:=QT l1 l2 l3;have QY:∀s∈ff A,s<M:=λs hs=>by
  unfold ff at hs;rcases(dm.mp hs)with(hs|hs)
  ·rcases(dm.mp hs)with(hs|hs)
   ·rcases(dm.mp hs)with(hs|hs)
    ·exact(ig.l s hs).2
    ·obtain⟨t,ht,rfl⟩:=dq.mp hs;exact(ig.ws t ht).1.2
   ·exact(ig.r s hs).2
  ·obtain⟨t,ht,rfl⟩:=dq.mp hs;exact(ig.ws t ht).2.2
 have hN:ck p (d.aI+d.aM+2*d.aK) (Aj p A M):=λx hx=>by
  obtain⟨b,hb,rfl⟩:=dq.mp hx;have QZ:=hB.rws b hb;refine⟨by rw[bj];exact sl,λy hy=>?_⟩;obtain⟨s,hs,rfl⟩:=dq.mp hy;rw[cz,cn (by rw[QZ.1];exact QY s hs)];exact QZ.2 _ (gY _)
 have hT:=aa4 pp hd hs hw;refine⟨Xs pp hN hT (λx hx=>?_) (λx hx=>?_),hN,rR⟩
 ·obtain⟨b,hb,rfl⟩:=dq.mp hx;have aa8:Sat p (fn b) A.rules:=λq hq=>by
   have h1:=aa3 E hB hb;have h2:p∣dot (fn (lT p M q)) (fn b) M:=by
    rw[CB];exact QU h1 (aa7 _ (xV hq))
   exact Yz h2 (D5 p0 (fn b) λt ht=>(ig.rules q hq t ht).2).2
  have t:=QW _ aa8;obtain⟨s1,s2,s3,s4⟩:=QS (v:=fn b) l1 l2 l3;have e:fn ((ff A).map λs=>b.getD s 0)=atS (fn b) (ff A):=rfl;rw[e];refine(QL pp hd hs hw).mpr ⟨TR.cR hd (λj hj=>cH (s1 j hj).symm) (λj hj=>cH (s2 j hj).symm) (λj hj=>cH (s3 j hj).symm) (λj _=>cH (s4 j).symm) t,λs=>?_⟩;have z:atS (fn b) (ff A) (d.aI+d.aK+d.aM+d.aK+s)=0:=QP (n:=d.aI+d.aK+d.aM+d.aK) (by rw[bj,sl];lia) s;rw[z];exact⟨0,by lia⟩
 ·obtain⟨t,o⟩:=(QL pp hd hs hw).mp (sQ hx);obtain⟨v,h1,h2,h3,h4,h5⟩:=QX _ _ _ _ t;have e:∀s,s<M→(if s<M then v s else 0)=v s:=λs hs=>ae hs
  have i4:Sp p (RS (sN p M (dI p (A.rules.map (lT p M))))) (λs=>if s<M then v s else 0):=by
   refine YF E hB (λj hj=>by rw[af (by lia)];exact⟨0,by lia⟩) λr hr=>?_;refine QU (λq' hq'=>?_) (aa6 r hr);obtain⟨q,hq,rfl⟩:=dq.mp hq';rw[CB];have Q0:=(D5 p0 (λs=>if s<M then v s else 0) λt ht=>(ig.rules q hq t ht).2).2
   rw[Ah (v':=v) λt ht=>e _ (ig.rules q hq t ht).2]at Q0
   have:=h1 q hq
   exact uX Q0 this (by lia)
  have Hh:=aa2 (S:=ff A) i4;rw[lS (v':=v) λs hs=>e s (QY s hs)]at Hh;obtain⟨s1,s2,s3,s4⟩:=QS (v:=v) l1 l2 l3;refine .cR Hh λj=>?_;by_cases j1:j<d.aI
  ·rw[s1 j j1];exact uY (h2 j j1)
  by_cases j2:j<d.aI+d.aK
  ·have:=h3 (j-d.aI) (by lia)
   rw[← s2 (j-d.aI) (by lia)]at this;unfold sh at this;rw[show d.aI+(j-d.aI)=j by lia]at this;exact uY this
  by_cases j3:j<d.aI+d.aK+d.aM
  ·have:=h4 (j-(d.aI+d.aK)) (by lia)
   rw[← s3 (j-(d.aI+d.aK)) (by lia)]at this;unfold sh at this;rw[show d.aI+d.aK+(j-(d.aI+d.aK))=j by lia]at this;exact uY this
  by_cases j4:j<d.aI+d.aK+d.aM+d.aK
  ·have:=h5 (j-(d.aI+d.aK+d.aM)) (by lia)
   rw[← s4 (j-(d.aI+d.aK+d.aM))]at this;unfold sh at this;rw[show d.aI+d.aK+d.aM+(j-(d.aI+d.aK+d.aM))=j by lia]at this;exact uY this
  ·have:=o (j-(d.aI+d.aK+d.aM+d.aK))
   rw[show d.aI+d.aK+d.aM+d.aK+(j-(d.aI+d.aK+d.aM+d.aK))=j by lia]at this;have z:atS v (ff A) (d.aI+d.aK+d.aM+d.aK+(j-(d.aI+d.aK+d.aM+d.aK)))=0:=QP (n:=d.aI+d.aK+d.aM+d.aK) (by rw[bj,sl];lia) _;rw[show d.aI+d.aK+d.aM+d.aK+(j-(d.aI+d.aK+d.aM+d.aK))=j by lia]at z;rw[z]
   have:=nh.mpr this
   rwa[show -fn x j=0-fn x j by lia]at this
end
end S21
namespace L2
open PySem PySem.Spec PyProof.Rows
section
variable{X:Cx}
end
def D6(H:Hp)(xs:List V)(Q:VK):Prop:=∀p H',aL H H'→H' p=some (.tup xs)→Q (.ref p) H'
def qq:R2:=λx y H Q=>∃a b xs ys,x=.ref a∧y=.ref b∧H a=some (.tup xs)∧H b=some (.tup ys)∧xs.length+ys.length≤sizeLine∧D6 H (xs++ys) Q
theorem kQ{X:Cx}:eM X (binaryOp .Add) qq:=by
 rintro aH s σ H x y v u Q I rx ry ⟨a,b,xs,ys,rfl,rfl,ha,hb,hz,q⟩;have jd:bh X.K H a xs:=.of ha;have e7:bh X.K H b ys:=.of hb;by_cases hx:xs=[]
 ·subst hx;cases rx;cases ry;obtain⟨its,r1,⟨⟨c1,d1,t1,s1⟩,o1,e1,n1,f1⟩,_⟩:=I.tuple jd;obtain⟨nV,r2,⟨⟨c2,d2,t2,s2⟩,o2,e2,n2,f2⟩,_⟩:=I.tuple e7;simp only at e1 f1 e2 f2;subst e1 f1 e2 f2;cases r1;refine concat_meets ⟨_,o1,rfl⟩ ⟨_,o2,rfl⟩ noFill_tuple_add seq_tuple_add PySem.F.slot_tuple_add PySem.F.entry_tuple_add (PySem.F.args_tuple_add_2 _ _) (NB a b _ _ _ _ d1 d2 s1 s2 rfl) ⟨o1,o2,?_⟩;exact⟨.ref b,H,I,rfl,q b H (.refl H) hb⟩
 ·refine Mv aH s σ H _ _ v u Q I rx ry ⟨a,b,xs,ys,rfl,rfl,jd,e7,hx,hz,λhy=>?_,λ_ p hp=>q p _ (.upd hp) aX⟩;subst hy;exact q a H (.refl H) (by rw[iK];exact ha)
end L2
namespace S21
open PySem L2 Bw
variable{B H:Hp}{D:Ends}{L:List Addr}{N:Nat}{Q:VK}{VS xs:List V}{a am ar aw f:Addr}{b:Bool}{d:Drw}{fd:FuncData}{l r:List Nat}{o:HO}{q:iu}{rs:List iu}{t u:TS}{ta tb:TA}{te:TE}{ws:List (Nat×Nat)}{x:Str}{σ:St}
def lU(H:Hp)(a:Addr)(d:Drw):Prop:=∃b,H a=some (.lst [.ref b,.int (d.aI:Int),.int (d.aM:Int)])∧H b=some (.tup d.aR)
theorem lU.mono{H':Hp}(h:lU H a d)(s:aL H H'):lU H' a d:=let ⟨b,g1,g2⟩:=h;⟨b,s _ _ g1,s _ _ g2⟩
theorem lV{p:Int}:∀{d:Drw},d.cK p→2*d.aK≤d.aR.length+1∧d.aI≤d.aR.length+1∧d.aM≤d.aR.length+1
 | .box x l r aN,h=>by
  rcases h with h|⟨rfl,rfl,rfl⟩
  ·obtain⟨h1,h2,_⟩:=uT _ h;have h1:l≤2:=h1;have h2:r≤2:=h2;rw[lR h];exact⟨by show 2*0≤1+1;decide,by show l≤1+1;lia,by show r≤1+1;lia⟩
  ·exact⟨by show 2*(if _ then 1 else 0)≤1+1;split<;>decide,by show 1≤1+1;decide,by show 1≤1+1;decide⟩
 | .times n,_=>⟨by show 2*0≤2+1;decide,by show 1≤2+1;decide,by show 1≤2+1;decide⟩
 | .back d,h=>by
  obtain⟨a,b,c⟩:=lV (d:=d) h;have e:(Drw.back d).aR.length=d.aR.length+1:=by show(V.str "back"::d.aR).length=_;rw[dB]
  rw[e];exact⟨by show 2*d.aK≤_;lia,by show d.aM≤_;lia,by show d.aI≤_;lia⟩
 | .cJ x y,h=>by
  obtain⟨a,b,c⟩:=lV (d:=x) h.1;obtain⟨a',b',c'⟩:=lV (d:=y) h.2;have e:(Drw.cJ x y).aR.length=x.aR.length+y.aR.length+1:=by show(V.str "beside"::(x.aR++y.aR)).length=_;rw[dB,cx]
  rw[e];exact⟨by show 2*(x.aK+y.aK)≤_;lia,by show x.aI+y.aI≤_;lia,by show x.aM+y.aM≤_;lia⟩
 | .bf x y,h=>by
  obtain⟨a,b,c⟩:=lV (d:=x) h.1;obtain⟨a',b',c'⟩:=lV (d:=y) h.2.1;have e:(Drw.bf x y).aR.length=x.aR.length+y.aR.length+1:=by show(V.str "then"::(x.aR++y.aR)).length=_;rw[dB,cx]
  rw[e];exact⟨by show 2*(x.aK+y.aK)≤_;lia,by show x.aI≤_;lia,by show y.aM≤_;lia⟩
theorem tN{p:Int}:∀{d:Drw},d.cK p→d.aR.length≤98→d.sm
 | .box _ _ _ _,_,_=>True.intro
 | .times _,_,_=>True.intro
 | .back d,h,hl=>tN (d:=d) h (by
   have e:(Drw.back d).aR.length=d.aR.length+1:=by show(V.str "back"::d.aR).length=_;rw[dB]
   lia)
 | .cJ x y,h,hl=>by
  have e:(Drw.cJ x y).aR.length=x.aR.length+y.aR.length+1:=by show(V.str "beside"::(x.aR++y.aR)).length=_;rw[dB,cx]
  obtain⟨_,b,c⟩:=lV (d:=x) h.1;obtain⟨_,b',c'⟩:=lV (d:=y) h.2;exact⟨tN h.1 (by lia),tN h.2 (by lia),by lia,by lia⟩
 | .bf x y,h,hl=>by
  have e:(Drw.bf x y).aR.length=x.aR.length+y.aR.length+1:=by show(V.str "then"::(x.aR++y.aR)).length=_;rw[dB,cx]
  exact⟨tN h.1 (by lia),tN h.2.1 (by lia)⟩
structure Gk(p:Int)(d:Drw):Prop where
 wf:d.cK p
 l4:d.aI≤4
 r4:d.aM≤4
 len:d.aR.length≤80
def Q3:Sp:=λvs H Q _=>∃(c p:Int),vs=[.int c,.int p]∧2≤p∧p≤97∧∀a d H',aL H H'→lU H' a d→d.cK p→d.aR.length≤2→d.aI≤2→d.aM≤2→Q (.ref a) H'
theorem xv:dj ["draw","p","boxes","word","left","right"] ["draw","p"] (bo HV):=dQ rfl rfl rfl (by decide +kernel) rfl
abbrev Ak:R2:=rI (λ_ j=>0<j) λi j=>.int (i%j)
abbrev Q4:R2:=rI Mb λi j=>.int (i/j)
noncomputable def Al:List C3:=[("id",1,1),("swap",2,2),("copy",1,2),("end",1,0),("add",2,1),("none",0,1),("cup",0,2),("empty",0,0),("late",1,1),("late",1,1),("copy",1,2),("add",2,1),("cup",0,2)]
noncomputable def D7(x:Str):LL:=((e8.find? λe=>decide (e.1=x)).map λe=>e.2.2.2).getD []
theorem aa9:∀c∈Al,((c.1,c.2.1.toNat,c.2.2.toNat,D7 c.1)∈e8∨(c.1=Str.ofString "late"∧c.2.1.toNat=1∧c.2.2.toNat=1))∧0≤c.2.1∧c.2.1≤2∧0≤c.2.2∧c.2.2≤2:=by decide +kernel
def D8:TE:=cA Ak (aW 0) (tC (.int 16))
def D9(K:Frag):TS:=cy (dW (jm (cA (j7 λi j=>.bl (decide (i<j))) D8 (lD (λxs H Q=>∃p ys,xs=[.ref p]∧(dw K H p ys∨bh K H p ys)∧Q (.int ys.length) H) (aZ (aW 2) bG)))) (cy (dC (cA (pU K) (aW 2) D8) (yj K 3 (si (cq 3) (si (cq 4) (si (cq 5) Bp))))) (cy (dW (jm (cA qS (cA Ak (cA Q4 (aW 0) (tC (.int 16))) (tC (.int 3))) (tC (.int 0)))) (eh (jM (aZ (eS (aZ (tC (.str "back")) (aZ (aW 3) bG))) (aZ (aW 5) (aZ (aW 4) bG))))) gi) (eh (jM (aZ (eS (aZ (aW 3) bG)) (aZ (aW 4) (aZ (aW 5) bG))))))) gi)
 (eh (jM (aZ (eS (aZ (tC (.str "times")) (aZ (cA Ak (cA Q4 (aW 0) (tC (.int 16))) (aW 1)) bG))) (aZ (tC (.int 1)) (aZ (tC (.int 1)) bG)))))
theorem aba(F:cG K "_law_box" "_law_box" HV f fd)(T:Txt mg):bz P w K mg base bx 1 f fd ["draw","p"] Q3:=by
 refine F.ok xv (λvs H Q E h=>?_) (λbI A outer s H vs Q E hr h=>?_)
 ·obtain⟨c,p,rfl,_⟩:=h;rfl
 ·obtain⟨c,p,rfl,p2,gq,q⟩:=h;have z:(100:Nat)≤sizeLine:=by decide
  refine⟨cy (dC (jM (zW (Al.take 7))) (cq 2)) (cy (dC (cA so (aW 2) (jM (zW (Al.drop 7)))) (cq 2)) (D9 K)),?_,?_⟩
  ·refine bg ?_ ?_
   ·refine cm ?_ ?_ ?_ ?_ ?_ ?_
    ·exact xv.nd
    ·rfl
    ·exact Or.inl rfl
    ·refine cZ ?_;refine Jy ?_
     kernel_rfl
    ·rfl
    ·exact .inl rfl
   refine bg ?_ ?_
   ·refine cm ?_ ?_ ?_ ?_ ?_ ?_
    ·exact xv.nd
    ·rfl
    ·exact Or.inl rfl
    ·refine aY ?_ ?_ ?_
     ·exact o8
     ·exact pv 2
     ·refine cZ ?_;refine Jy ?_
      kernel_rfl
    ·rfl
    ·exact .inl rfl
   unfold D9 D8;refine bg ?_ ?_
   ·refine ee ?_ ?_ eK
    ·exact dg pT (aY gj (pv 0) aO) (iN (ko K rfl) rfl T.len kq (aJ (pv 2) aQ)) (de _)
    ·refine bg ?_ ?_
     ·exact sj (bc (bV K rfl) (pv 2) (aY gj (pv 0) aO) (λ_ _=>rfl)) (uy (n:=3) K rfl rfl (iM (cF (i:=3) xv.nd rfl (.inl rfl)) (iM (cF (i:=4) xv.nd rfl (.inl rfl)) (iM (cF (i:=5) xv.nd rfl (.inl rfl)) qN))))
     refine bg ?_ ?_
     ·refine ee ?_ ?_ eK
      ·exact dg hI (aY gj (aY yn (pv 0) aO) aO) aO (de _)
      ·refine bQ ?_;refine cI ?_;refine cZ ?_;exact aJ (cE (aJ dH (aJ (pv 3) aQ))) (aJ (pv 5) (aJ (pv 4) aQ))
     refine bQ ?_;refine cI ?_;refine cZ ?_;exact aJ (cE (aJ (pv 3) aQ)) (aJ (pv 4) (aJ (pv 5) aQ))
   refine bQ ?_;refine cI ?_;refine cZ ?_;exact aJ (cE (aJ dH (aJ (aY gj (aY yn (pv 0) aO) (pv 1)) aQ))) (aJ aO (aJ aO aQ))
  refine Jz (K:=K) λvs H1 s1 h1=>⟨by rw[h1.1];show 7≤sizeLine;lia,λl1 g1=>?_⟩;dsimp only[cq];refine⟨_,rfl,Jz (K:=K) λws H2 s2 h2=>⟨by rw[h2.1];show 6≤sizeLine;lia,λl2 g2=>?_⟩⟩;have e1:vs.length=7:=h1.1;have e2:ws.length=6:=h2.1;refine⟨l1,l2,_,_,rfl,rfl,(s2.trans (.upd g2)) _ _ aX,aX,by lia,λl3 g3=>?_⟩;have sA:aL H (upd (upd H2 l2 (.lst ws)) l3 (.lst (vs++ws))):=s1.trans ((aL.upd g1).trans (s2.trans ((aL.upd g2).trans (.upd g3))));have hA:rP K (upd (upd H2 l2 (.lst ws)) l3 (.lst (vs++ws))) (vs++ws) Al:=(h1.mono ((aL.upd g1).trans (s2.trans ((aL.upd g2).trans (.upd g3))))).append (h2.mono ((aL.upd g2).trans (.upd g3)));have gA:(upd (upd H2 l2 (.lst ws)) l3 (.lst (vs++ws))) l3=some (.lst (vs++ws)):=aX;generalize upd (upd H2 l2 (.lst ws)) l3 (.lst (vs++ws))=H3 at sA hA gA ⊢;have b0:=lY c (show(16:Int)≠0 by decide);have b1:=lZ c (show(0:Int)<16 by decide);obtain⟨i,hi⟩:∃i:Nat,c%16=(i:Int):=⟨(c%16).toNat,by lia⟩;have hl:(vs++ws).length=13:=by rw[cx];lia
  show D9 K _ [some (.int c),some (.int p),some (.ref l3),none,none,none] H3;unfold D9 D8;refine⟨_,rfl,c,16,rfl,rfl,(by show(0:Int)<16;decide),_,rfl,l3,_,rfl,.inl (.of gA),_,_,rfl,rfl,_,rfl,?_⟩;rw[hl];by_cases Ea:c%16<((13:Nat):Int)
  ·rw[aD Ea];refine gQ ?_;obtain⟨v,hv⟩:∃v,(vs++ws)[i]?=some v:=⟨_,cn (show i<(vs++ws).length by lia)⟩;obtain⟨e,he⟩:∃e,Al[i]?=some e:=⟨_,cn (show i<13 by lia)⟩;obtain⟨a,rfl,ha⟩:=hA.2 i _ e hv he;refine⟨_,rfl,_,rfl,c,16,rfl,rfl,(by show(0:Int)<16;decide),l3,_,c%16,.ref a,rfl,rfl,.of gA,by rw[hi];exact bE hv,?_⟩;refine⟨a,_,rfl,ha,rfl,_,_,rfl,_,_,rfl,_,_,rfl,rfl,?_⟩;obtain⟨x,l,r⟩:=e;obtain⟨hm,l0,Q5,r0,Q6⟩:=aa9 _ (dY he);have hm:(x,l.toNat,r.toNat,D7 x)∈e8∨(x=Str.ofString "late"∧l.toNat=1∧r.toNat=1):=hm;have l0:0≤l:=l0;have Q5:l≤2:=Q5;have r0:0≤r:=r0;have Q6:r≤2:=Q6;refine⟨_,rfl,c,16,rfl,rfl,⟨by decide,by decide⟩,_,3,rfl,rfl,(by show(0:Int)<3;decide),rfl,_,rfl,?_⟩;refine pX (λ_=>?_) (λ_=>?_)
   ·refine⟨_,rfl,by show 2≤sizeLine;lia,λt1 k1=>⟨_,rfl,_,rfl,by show 3≤sizeLine;lia,λt2 k2=>?_⟩⟩;refine q t2 (.back (.box x l.toNat r.toNat (D7 x))) _ (sA.trans ((aL.upd k1).trans (.upd k2))) ⟨t1,?_,(aL.upd k2) _ _ aX⟩ hm (by show 2≤2;decide) (by show r.toNat≤2;lia) (by show l.toNat≤2;lia);show(upd _ t2 _) t2=some (HO.lst [.ref t1,.int ((r.toNat:Nat):Int),.int ((l.toNat:Nat):Int)]);rw[show((l.toNat:Nat):Int)=l by lia,show((r.toNat:Nat):Int)=r by lia];exact aX
   ·refine⟨_,rfl,by show 1≤sizeLine;lia,λt1 k1=>⟨_,rfl,_,rfl,by show 3≤sizeLine;lia,λt2 k2=>?_⟩⟩;refine q t2 (.box x l.toNat r.toNat (D7 x)) _ (sA.trans ((aL.upd k1).trans (.upd k2))) ⟨t1,?_,(aL.upd k2) _ _ aX⟩ hm (by show 1≤2;decide) (by show l.toNat≤2;lia) (by show r.toNat≤2;lia);show(upd _ t2 _) t2=some (HO.lst [.ref t1,.int ((l.toNat:Nat):Int),.int ((r.toNat:Nat):Int)]);rw[show((l.toNat:Nat):Int)=l by lia,show((r.toNat:Nat):Int)=r by lia];exact aX
  ·rw[aa Ea];have n0:=lY (c/16) (show p≠0 by lia);have n1:=lZ (c/16) (show 0<p by lia);refine fi ⟨_,rfl,c,16,rfl,rfl,⟨by decide,by decide⟩,_,rfl,_,p,rfl,rfl,(show(0:Int)<p by lia),by show 2≤sizeLine;lia,λt1 k1=>⟨by show 3≤sizeLine;lia,λt2 k2=>?_⟩⟩;exact q t2 (.times (c/16%p)) _ (sA.trans ((aL.upd k1).trans (.upd k2))) ⟨t1,aX,(aL.upd k2) _ _ aX⟩ ⟨n0,n1⟩ (by show 2≤2;decide) (by show 1≤2;decide) (by show 1≤2;decide)
noncomputable def kY(d:Drw):Nat→Drw
 |0=>d
 |n+1=>.cJ (kY d n) Bx.id.bu
theorem Am{p:Int}{d:Drw}(h:d.cK p):∀n,(kY d n).cK p∧(kY d n).aI=d.aI+n∧(kY d n).aM=d.aM+n∧(kY d n).aR.length=d.aR.length+2*n
 |0=>⟨h,rfl,rfl,rfl⟩
 |n+1=>by
  obtain⟨a,b,c,e⟩:=Am h n;refine⟨⟨a,(aaH .id trivial).wf⟩,?_,?_,?_⟩
  ·show(kY d n).aI+1=_;lia
  ·show(kY d n).aM+1=_;lia
  ·show(V.str "beside"::((kY d n).aR++[V.str "id"])).length=_;rw[dB,cx];show _+1+1=_;lia
def JO:Sp:=λvs H Q _=>∃(a:Addr)(d:Drw)(n:Nat)(p:Int),vs=[.ref a,.int (n:Int)]∧lU H a d∧d.cK p∧d.aR.length≤100∧n≤100∧∀b H',aL H H'→lU H' b (kY d n)→Q (.ref b) H'
theorem xw:dj ["part","many","words","left","right","k"] ["part","many"] (bo HW):=dQ rfl rfl rfl (by decide +kernel) rfl
theorem abb(F:cG K "_law_padded" "_law_padded" HW f fd)(T:Txt mg):bz P w K mg base bx 1 f fd ["part","many"] JO:=by
 refine F.ok xw (λvs H Q E h=>?_) (λbI A outer s H vs Q E hr h=>?_)
 ·obtain⟨a,d,n,p,rfl,_⟩:=h;rfl
 ·obtain⟨a,d,n,p,rfl,⟨b,ha,hb⟩,hd,hl,hn,q⟩:=h;have z:(1000:Nat)≤sizeLine:=by decide
  refine⟨_,bg (sj (pv 0) (NA rfl (iM (cF (i:=2) xw.nd rfl (.inl rfl)) (iM (cF (i:=3) xw.nd rfl (.inl rfl)) (iM (cF (i:=4) xw.nd rfl (.inl rfl)) qN))))) (bg (mf nS rfl (j6 rfl T.range (aJ (pv 1) aQ)) (cF (i:=5) xw.nd rfl (.inl rfl)) (bQ (cm (i:=2) xw.nd rfl (.inl rfl) (aY kQ (aY kQ (cE (aJ dH aQ)) (pv 2)) (cE (aJ dH aQ)))))) (bQ (cI (cZ (aJ (pv 2) (aJ (aY dt (pv 3) (pv 1)) (aJ (aY dt (pv 4) (pv 1)) aQ))))))),?_⟩;refine⟨_,rfl,a,_,rfl,.of ha,rfl,_,_,rfl,_,_,rfl,_,_,rfl,rfl,?_⟩;refine⟨_,rfl,(n:Int),rfl,by lia,by lia,sk (n:=n) (λi σ H'=>∃b s5,σ=[some (.ref a),some (.int (n:Int)),some (.ref b),some (.int (d.aI:Int)),some (.int (d.aM:Int)),s5]∧aL H H'∧H' b=some (.tup (kY d i).aR)) ⟨b,none,rfl,.refl _,hb⟩ ?_ ?_⟩
  ·rintro i σ H1 hi ⟨b1,s5,rfl,sm,JP⟩;obtain⟨_,_,_,e⟩:=Am hd i;dsimp only[cq];refine⟨by show 1≤sizeLine;lia,λt1 k1=>⟨_,rfl,t1,b1,_,_,rfl,rfl,aX,aL.upd k1 _ _ JP,by show 1+_≤sizeLine;lia,λt2 H2 s2 k2=>⟨by show 1≤sizeLine;lia,λt3 k3=>⟨t2,t3,_,_,rfl,rfl,aL.upd k3 _ _ k2,aX,?_,λt4 H4 s4 k4=>?_⟩⟩⟩⟩
   ·rw[cx];show 1+_+1≤sizeLine;lia
   ·exact⟨t4,_,rfl,sm.trans ((aL.upd k1).trans (s2.trans ((aL.upd k3).trans s4))),k4⟩
  ·rintro σ H1 ⟨b1,s5,rfl,sm,JP⟩;obtain⟨_,e2,e3,_⟩:=Am hd n;refine⟨_,rfl,_,rfl,_,rfl,_,_,rfl,rfl,_,rfl,_,rfl,_,_,rfl,rfl,by show 3≤sizeLine;lia,λt ht=>?_⟩;refine q t _ (sm.trans (.upd ht)) ⟨b1,?_,aL.upd ht _ _ JP⟩;rw[e2,e3,show((d.aI+n:Nat):Int)=(d.aI:Int)+(n:Int) by lia,show((d.aM+n:Nat):Int)=(d.aM:Int)+(n:Int) by lia];exact aX
section
variable{σ:St}{H:Hp}{ta tb:TE}{i j:Int}
theorem xx{k n:Nat}{x:Int}(h:σ[k]?=some (some (.ref a)))(ha:H a=some (.lst xs))(hn:xs[n]?=some (.int x)):dS (cA (pU K) (aW k) (tC (.int (n:Int)))) σ H x:=λH' s R q=>⟨_,h,a,xs,(n:Int),.int x,rfl,rfl,.of (s _ _ ha),bE hn,q⟩
theorem Eb(h1:dS ta σ H i)(h2:dS tb σ H j):dS (cA (j7 λi j=>.int (i-j)) ta tb) σ H (i-j):=λH' s _ q=>h1 H' s _ (h2 H' s _ ⟨i,j,rfl,rfl,q⟩)
theorem abc(h1:dS ta σ H i)(h2:dS tb σ H j)(j0:0<j):dS (cA Ak ta tb) σ H (i%j):=λH' s _ q=>h1 H' s _ (h2 H' s _ ⟨i,j,rfl,rfl,j0,q⟩)
def rS(te:TE)(σ:St)(H:Hp)(b:Bool):Prop:=∀R:VK,R (.bl b) H→te σ H R
theorem vf(h1:dS ta σ H i)(h2:dS tb σ H j):rS (cA (j7 λi j=>.bl (decide (i<j))) ta tb) σ H (decide (i<j)):=λR q=>h1 H (.refl _) _ (h2 H (.refl _) _ ⟨i,j,rfl,rfl,q⟩)
theorem Q7(h1:dS ta σ H i)(h2:dS tb σ H j):rS (cA (j7 λi j=>.bl (decide (i≤j))) ta tb) σ H (decide (i≤j)):=λR q=>h1 H (.refl _) _ (h2 H (.refl _) _ ⟨i,j,rfl,rfl,q⟩)
theorem JQ(h1:dS ta σ H i)(h2:dS tb σ H j):rS (cA qS ta tb) σ H (decide (i=j)):=λR q=>h1 H (.refl _) _ (h2 H (.refl _) _ ⟨rfl,by
 have:decide (V.int i=V.int j)=decide (i=j):=by
  by_cases e:i=j
  ·rw[aD e,aD (ai V.int e)]
  ·rw[aa e,aa λz=>e (V.int.inj z)]
 rw[this];exact q⟩)
theorem abd(h:rS te σ H b)(ht:b=true→t D σ H)(hu:b=false→u D σ H):dW (jm te) t u D σ H:=h _ ⟨b,rfl,by cases b;exact fi (hu rfl);exact gQ (ht rfl)⟩
theorem abe{An:TE}{b':Bool}(h:rS te σ H b)(h':rS An σ H b')(ht:b=true→b'=true→t D σ H)(hu:u D σ H):dW (qL (jm te) (jm An)) t u D σ H:=h _ ⟨b,rfl,by
 cases b
 ·exact fi (fi hu)
 ·refine gQ (h' _ ⟨b',rfl,?_⟩);cases b'
  ·exact fi hu
  ·exact gQ (ht rfl rfl)⟩
theorem JR{An Q8:TE}{b' Ec:Bool}(h:rS te σ H b)(h':rS An σ H b')(nZ:rS Q8 σ H Ec)(ht:b=true→b'=true→Ec=true→t D σ H)(hu:u D σ H):dW (qL (jm te) (qL (jm An) (jm Q8))) t u D σ H:=h _ ⟨b,rfl,by
 cases b
 ·exact fi (fi hu)
 ·refine gQ (h' _ ⟨b',rfl,?_⟩);cases b'
  ·exact fi (fi hu)
  ·refine gQ (nZ _ ⟨Ec,rfl,?_⟩);cases Ec
   ·exact fi hu
   ·exact gQ (ht rfl rfl rfl)⟩
end
abbrev di(K:Frag)(i n:Nat):TE:=cA (pU K) (aW i) (tC (.int (n:Int)))
abbrev Ao(z:Str):TE:=eS (aZ (tC (.str z)) bG)
theorem Ed{z:Str}{i j:Nat}{b wa wb:Addr}{ys rx ry:List V}(ha:σ[i]?=some (some (.ref a)))(hb:σ[j]?=some (some (.ref b)))(ga:H a=some (.lst (.ref wa::rx)))(gb:H b=some (.lst (.ref wb::ry)))(gx:H wa=some (.tup xs))(gy:H wb=some (.tup ys))(lx:xs.length≤400)(ly:ys.length≤400)
  (q:D6 H (.str z::(xs++ys)) Q):cA qq (cA qq (Ao z) (di K i 0)) (di K j 0) σ H Q:=by
 have zz:(1000:Nat)≤sizeLine:=by decide
 refine⟨by show 1≤sizeLine;lia,λt1 k1=>?_⟩;have s1:=aL.upd (o:=.tup [.str z]) k1;refine⟨_,ha,a,_,0,.ref wa,rfl,rfl,.of (s1 _ _ ga),bE (j:=0) rfl,t1,wa,_,_,rfl,rfl,aX,s1 _ _ gx,by show 1+_≤sizeLine;lia,λt2 H2 s2 k2=>?_⟩;refine⟨_,hb,b,_,0,.ref wb,rfl,rfl,.of ((s1.trans s2) _ _ gb),bE (j:=0) rfl,t2,wb,_,_,rfl,rfl,k2,(s1.trans s2) _ _ gy,by rw[cx];show 1+_+_≤sizeLine;lia,λt3 H3 s3 k3=>?_⟩;exact q t3 H3 (s1.trans (s2.trans s3)) k3
theorem abf{z:Str}{i:Nat}{wa:Addr}{rx:List V}(ha:σ[i]?=some (some (.ref a)))(ga:H a=some (.lst (.ref wa::rx)))(gx:H wa=some (.tup xs))(lx:xs.length≤400)(q:D6 H (.str z::xs) Q):cA qq (Ao z) (di K i 0) σ H Q:=by
 have zz:(1000:Nat)≤sizeLine:=by decide
 refine⟨by show 1≤sizeLine;lia,λt1 k1=>?_⟩;have s1:=aL.upd (o:=.tup [.str z]) k1;exact⟨_,ha,a,_,0,.ref wa,rfl,rfl,.of (s1 _ _ ga),bE (j:=0) rfl,t1,wa,_,_,rfl,rfl,aX,s1 _ _ gx,by show 1+_≤sizeLine;lia,λt2 H2 s2 k2=>q t2 H2 (s1.trans s2) k2⟩
theorem Ap{tw n1 n2:TE}{l r:Int}(hw:∀R:VK,D6 H d.aR R→tw σ H R)(h1:dS n1 σ H l)(h2:dS n2 σ H r)(el:l=(d.aI:Int))(er:r=(d.aM:Int))(q:∀t H',aL H H'→lU H' t d→Q (.ref t) H'):jM (aZ tw (aZ n1 (aZ n2 bG))) σ H Q:=by
 subst el er;refine hw _ λb H1 s1 hb=>h1 H1 s1 _ (h2 H1 s1 _ ⟨by show 3≤sizeLine;decide,λt ht=>?_⟩);exact q t _ (s1.trans (.upd ht)) ⟨b,aX,aL.upd ht _ _ hb⟩
def Q9:Sp:=λvs H Q _=>∃(c p:Int)(a b:Addr)(d e:Drw),vs=[.int c,.ref a,.ref b]∧lU H a d∧lU H b e∧d.cK p∧e.cK p∧d.aI≤4∧d.aM≤4∧d.aR.length≤80∧e.aR.length≤2∧e.aI≤2∧e.aM≤2∧
 ∀t g H',aL H H'→lU H' t g→g.cK p→g.aI≤4→g.aM≤4→g.aR.length≤300→Q (.ref t) H'
theorem JS:dj ["draw","cur","part","more"] ["draw","cur","part"] (bo HX):=dQ rfl rfl rfl (by decide +kernel) rfl
abbrev Ee:TE:=cA Ak (aW 0) (tC (.int 6))
abbrev nK(a b:TE):TE:=cA (j7 λi j=>.int (i+j)) a b
abbrev Ef(a b:TE):TE:=cA (j7 λi j=>.int (i-j)) a b
abbrev Aq(a b:TE):TT:=jm (cA (j7 λi j=>.bl (decide (i<j))) a b)
abbrev Ra(a b:TE):TT:=jm (cA (j7 λi j=>.bl (decide (i≤j))) a b)
def Ar(K:Frag)(n:Int):TT:=qL (jm (cA qS Ee (tC (.int n)))) (qL (Aq (nK (di K 1 1) (di K 2 1)) (tC (.int 5))) (Aq (nK (di K 1 2) (di K 2 2)) (tC (.int 5))))
def qt(K:Frag)(i j:Nat):TE:=jM (aZ (cA qq (cA qq (Ao "beside") (di K i 0)) (di K j 0)) (aZ (nK (di K 1 1) (di K 2 1)) (aZ (nK (di K 1 2) (di K 2 2)) bG)))
def As(K:Frag):TE:=jM (aZ (cA qq (Ao "back") (di K 1 0)) (aZ (di K 1 2) (aZ (di K 1 1) bG)))
def JT(K:Frag):TT:=qL (Aq Ee (tC (.int 5))) (qL (Ra (di K 2 1) (di K 1 2)) (Aq (Ef (nK (di K 2 2) (di K 1 2)) (di K 2 1)) (tC (.int 5))))
def JU(K:Frag):TT:=qL (Ra (di K 2 2) (di K 1 1)) (Aq (Ef (nK (di K 2 1) (di K 1 1)) (di K 2 2)) (tC (.int 5)))
def tO(K:Frag)(i j:Nat):TE:=iY JO [] E0 (aZ (aW 2) (aZ (Ef (di K 1 i) (di K 2 j)) bG))
def qu(K:Frag)(i j:Nat)(n1 n2:TE):TE:=jM (aZ (cA qq (cA qq (Ao "then") (di K i 0)) (di K j 0)) (aZ n1 (aZ n2 bG)))
def tJ(K:Frag):TS:=cy (dW (Ar K 0) (eh (qt K 1 2)) gi) (cy (dW (Ar K 1) (eh (qt K 2 1)) gi) (cy (dW (jm (cA qS Ee (tC (.int 2)))) (eh (As K)) gi) (cy (dW (JT K) (cy (dC (tO K 2 1) (cq 3)) (eh (qu K 1 3 (di K 1 1) (di K 3 2)))) gi) (cy (dW (JU K) (cy (dC (tO K 1 2) (cq 3)) (eh (qu K 3 1 (di K 3 1) (di K 1 2)))) gi) (eh (aW 1))))))
theorem abg{c p:Int}{b:Addr}{e:Drw}(ha:lU H a d)(hb:lU H b e)(hd:d.cK p)(he:e.cK p)(l4:d.aI≤4)(r4:d.aM≤4)(hl:d.aR.length≤80)(w6:e.aR.length≤2)(l2:e.aI≤2)(r2:e.aM≤2)
  (q:∀t g H',aL H H'→lU H' t g→g.cK p→g.aI≤4→g.aM≤4→g.aR.length≤300→D.rt (.ref t) H'):tJ K D [some (.int c),some (.ref a),some (.ref b),none] H:=by
 have e7:=hb;have jd:=ha;obtain⟨wa,ga,Au⟩:=ha;obtain⟨wb,gb,Rb⟩:=hb;have A:∀{x:Option V}{n:Nat}{k:Int},([V.ref wa,.int (d.aI:Int),.int (d.aM:Int)]:List V)[n]?=some (.int k)→dS (di K 1 n) [some (.int c),some (.ref a),some (.ref b),x] H k:=λh=>xx (k:=1) rfl ga h;have B:∀{x:Option V}{n:Nat}{k:Int},([V.ref wb,.int (e.aI:Int),.int (e.aM:Int)]:List V)[n]?=some (.int k)→dS (di K 2 n) [some (.int c),some (.ref a),some (.ref b),x] H k:=λh=>xx (k:=2) rfl gb h;have m6:dS Ee [some (.int c),some (.ref a),some (.ref b),none] H (c%6):=abc (e9 rfl) jT (by decide);have ab:∀{x:Option V},dS (nK (di K 1 1) (di K 2 1)) [some (.int c),some (.ref a),some (.ref b),x] H ((d.aI:Int)+(e.aI:Int)):=nF (A (n:=1) rfl) (B (n:=1) rfl);have Eg:∀{x:Option V},dS (nK (di K 1 2) (di K 2 2)) [some (.int c),some (.ref a),some (.ref b),x] H ((d.aM:Int)+(e.aM:Int)):=nF (A (n:=2) rfl) (B (n:=2) rfl);have wl:∀{z:Str}{xs ys:List V},(V.str z::(xs++ys)).length=xs.length+ys.length+1:=λ{z xs ys}=>by rw[dB,cx]
 unfold tJ Ar;refine JR (JQ m6 jT) (vf ab jT) (vf Eg jT) (λ_ h1 h2=>?_) ?_
 ·have h1:=aG h1;have h2:=aG h2;show qt K 1 2 _ _ _;unfold qt;refine Ap (d:=.cJ d e) (λR h=>Ed rfl rfl ga gb Au Rb (by lia) (by lia) h) ab Eg (by show _=((d.aI+e.aI:Nat):Int);lia) (by show _=((d.aM+e.aM:Nat):Int);lia) λt H' s ht=>?_;exact q t _ H' s ht ⟨hd,he⟩ (by show d.aI+e.aI≤4;lia) (by show d.aM+e.aM≤4;lia) (by show(V.str "beside"::(d.aR++e.aR)).length≤300;rw[wl];lia)
 refine JR (JQ m6 jT) (vf ab jT) (vf Eg jT) (λ_ h1 h2=>?_) ?_
 ·have h1:=aG h1;have h2:=aG h2;show qt K 2 1 _ _ _;unfold qt;refine Ap (d:=.cJ e d) (λR h=>Ed rfl rfl gb ga Rb Au (by lia) (by lia) h) ab Eg (by show _=((e.aI+d.aI:Nat):Int);lia) (by show _=((e.aM+d.aM:Nat):Int);lia) λt H' s ht=>?_;exact q t _ H' s ht ⟨he,hd⟩ (by show e.aI+d.aI≤4;lia) (by show e.aM+d.aM≤4;lia) (by show(V.str "beside"::(e.aR++d.aR)).length≤300;rw[wl];lia)
 refine abd (JQ m6 jT) (λ_=>?_) (λ_=>?_)
 ·show As K _ _ _;unfold As;refine Ap (d:=.back d) (λR h=>abf rfl ga Au (by lia) h) (A (n:=2) rfl) (A (n:=1) rfl) rfl rfl λt H' s ht=>?_;exact q t _ H' s ht hd r4 l4 (by show(V.str "back"::d.aR).length≤300;rw[dB];lia)
 unfold JT;refine JR (vf m6 jT) (Q7 (B (n:=1) rfl) (A (n:=2) rfl)) (vf (Eb (nF (B (n:=2) rfl) (A (n:=2) rfl)) (B (n:=1) rfl)) jT) (λ_ h1 h2=>?_) ?_
 ·have h1:=aG h1;have h2:=aG h2;obtain⟨n,hn⟩:∃n:Nat,(d.aM:Int)-(e.aI:Int)=(n:Int):=⟨d.aM-e.aI,by lia⟩;unfold tO;refine⟨_,rfl,Eb (A (n:=2) rfl) (B (n:=1) rfl) H (.refl _) _ ?_⟩;rw[hn];refine⟨b,e,n,p,rfl,e7,he,by lia,by lia,λm H1 s1 hm=>?_⟩;obtain⟨o1,o2,o3,o4⟩:=Am he n;obtain⟨wm,gm,JV⟩:=hm;show qu K 1 3 _ _ _ _ _;unfold qu;refine Ap (d:=.bf d (kY e n)) (λR h=>Ed (a:=a) (b:=m) rfl rfl (s1 _ _ ga) gm (s1 _ _ Au) JV (by lia) (by lia) h) (xx (k:=1) (n:=1) (a:=a) rfl (s1 _ _ ga) rfl) (xx (k:=3) (n:=2) (a:=m) rfl gm rfl) rfl rfl λt H' s ht=>?_;refine q t _ H' (s1.trans s) ht ⟨hd,o1,?_⟩ l4 ?_ (by show(V.str "then"::(d.aR++(kY e n).aR)).length≤300;rw[wl];lia)
  ·rw[o2];lia
  ·show(kY e n).aM≤4;lia
 unfold JU;refine abe (Q7 (B (n:=2) rfl) (A (n:=1) rfl)) (vf (Eb (nF (B (n:=1) rfl) (A (n:=1) rfl)) (B (n:=2) rfl)) jT) (λh1 h2=>?_) ?_
 ·have h1:=aG h1;have h2:=aG h2;obtain⟨n,hn⟩:∃n:Nat,(d.aI:Int)-(e.aM:Int)=(n:Int):=⟨d.aI-e.aM,by lia⟩;unfold tO;refine⟨_,rfl,Eb (A (n:=1) rfl) (B (n:=2) rfl) H (.refl _) _ ?_⟩;rw[hn];refine⟨b,e,n,p,rfl,e7,he,by lia,by lia,λm H1 s1 hm=>?_⟩;obtain⟨o1,o2,o3,o4⟩:=Am he n;obtain⟨wm,gm,JV⟩:=hm;show qu K 3 1 _ _ _ _ _;unfold qu;refine Ap (d:=.bf (kY e n) d) (λR h=>Ed (a:=m) (b:=a) rfl rfl gm (s1 _ _ ga) JV (s1 _ _ Au) (by lia) (by lia) h) (xx (k:=3) (n:=1) (a:=m) rfl gm rfl) (xx (k:=1) (n:=2) (a:=a) rfl (s1 _ _ ga) rfl) rfl rfl λt H' s ht=>?_;refine q t _ H' (s1.trans s) ht ⟨o1,hd,?_⟩ ?_ r4 (by show(V.str "then"::((kY e n).aR++d.aR)).length≤300;rw[wl];lia)
  ·rw[o3];lia
  ·show(kY e n).aI≤4;lia
 exact⟨_,rfl,q a d H (.refl _) jd hd l4 r4 (by lia)⟩
theorem abh{fP:Addr}{Av:FuncData}(F:cG K "_law_joined" "_law_joined" HX f fd)
  (GP:bz P w K mg base bx 1 fP Av ["part","many"] JO) (kP:Kp K fP) (bP:Binds K Av ["part","many"] []) (mP:Mg mg "_law_padded" fP):bz P w K mg base bx 2 f fd ["draw","cur","part"] Q9:=by
 refine F.ok JS (λvs H Q E h=>?_) (λbI A outer s H vs Q E hr h=>?_)
 ·obtain⟨c,p,a,b,d,e,rfl,_⟩:=h;rfl
 ·obtain⟨c,p,a,b,d,e,rfl,ha,hb,hd,he,l4,r4,hl,w6,l2,r2,q⟩:=h;refine⟨tJ K,?_,abg ha hb hd he l4 r4 hl w6 l2 r2 q⟩;unfold tJ;refine bg ?_ ?_
  ·refine ee ?_ ?_ eK
   ·unfold Ar;refine PW.pt (oU ?_ (oU ?_ (ug ?_)))
    ·exact dg hI (aY gj (pv 0) aO) aO (de _)
    ·exact dg pT (aY dt (bc (bV K rfl) (pv 1) aO (λ_ _=>rfl)) (bc (bV K rfl) (pv 2) aO (λ_ _=>rfl))) aO (de _)
    ·exact dg pT (aY dt (bc (bV K rfl) (pv 1) aO (λ_ _=>rfl)) (bc (bV K rfl) (pv 2) aO (λ_ _=>rfl))) aO (de _)
   ·refine bQ ?_;refine cI (te:=qt K 1 2) ?_;unfold qt;exact cZ (aJ (aY kQ (aY kQ (cE (aJ dH aQ)) (bc (bV K rfl) (pv 1) aO (λ_ _=>rfl))) (bc (bV K rfl) (pv 2) aO (λ_ _=>rfl))) (aJ (aY dt (bc (bV K rfl) (pv 1) aO (λ_ _=>rfl)) (bc (bV K rfl) (pv 2) aO (λ_ _=>rfl))) (aJ (aY dt (bc (bV K rfl) (pv 1) aO (λ_ _=>rfl)) (bc (bV K rfl) (pv 2) aO (λ_ _=>rfl))) aQ)))
  refine bg ?_ ?_
  ·refine ee ?_ ?_ eK
   ·unfold Ar;refine PW.pt (oU ?_ (oU ?_ (ug ?_)))
    ·exact dg hI (aY gj (pv 0) aO) aO (de _)
    ·exact dg pT (aY dt (bc (bV K rfl) (pv 1) aO (λ_ _=>rfl)) (bc (bV K rfl) (pv 2) aO (λ_ _=>rfl))) aO (de _)
    ·exact dg pT (aY dt (bc (bV K rfl) (pv 1) aO (λ_ _=>rfl)) (bc (bV K rfl) (pv 2) aO (λ_ _=>rfl))) aO (de _)
   ·refine bQ ?_;refine cI (te:=qt K 2 1) ?_;unfold qt;exact cZ (aJ (aY kQ (aY kQ (cE (aJ dH aQ)) (bc (bV K rfl) (pv 2) aO (λ_ _=>rfl))) (bc (bV K rfl) (pv 1) aO (λ_ _=>rfl))) (aJ (aY dt (bc (bV K rfl) (pv 1) aO (λ_ _=>rfl)) (bc (bV K rfl) (pv 2) aO (λ_ _=>rfl))) (aJ (aY dt (bc (bV K rfl) (pv 1) aO (λ_ _=>rfl)) (bc (bV K rfl) (pv 2) aO (λ_ _=>rfl))) aQ)))
  refine bg ?_ ?_
  ·refine ee ?_ ?_ eK
   ·exact dg hI (aY gj (pv 0) aO) aO (de _)
   ·refine bQ ?_;refine cI (te:=As K) ?_;unfold As;exact cZ (aJ (aY kQ (cE (aJ dH aQ)) (bc (bV K rfl) (pv 1) aO (λ_ _=>rfl))) (aJ (bc (bV K rfl) (pv 1) aO (λ_ _=>rfl)) (aJ (bc (bV K rfl) (pv 1) aO (λ_ _=>rfl)) aQ)))
  refine bg ?_ ?_
  ·refine ee ?_ ?_ eK
   ·unfold JT;refine PW.pt (oU ?_ (oU ?_ (ug ?_)))
    ·exact dg pT (aY gj (pv 0) aO) aO (de _)
    ·exact dg Mh (bc (bV K rfl) (pv 2) aO (λ_ _=>rfl)) (bc (bV K rfl) (pv 1) aO (λ_ _=>rfl)) (de _)
    ·exact dg pT (aY nk (aY dt (bc (bV K rfl) (pv 2) aO (λ_ _=>rfl)) (bc (bV K rfl) (pv 1) aO (λ_ _=>rfl))) (bc (bV K rfl) (pv 2) aO (λ_ _=>rfl))) aO (de _)
   ·refine bg ?_ ?_
    ·refine cm (i:=3) (te:=tO K 2 1) JS.nd rfl (.inl rfl) ?_ ?_ ?_
     ·unfold tO;exact cT GP hr rfl mP kP bP .nil cU (aJ (pv 2) (aJ (aY nk (bc (bV K rfl) (pv 1) aO (λ_ _=>rfl)) (bc (bV K rfl) (pv 2) aO (λ_ _=>rfl))) aQ))
     ·rfl
     ·exact .inl rfl
    refine bQ ?_;refine cI (te:=qu K 1 3 (di K 1 1) (di K 3 2)) ?_;unfold qu;exact cZ (aJ (aY kQ (aY kQ (cE (aJ dH aQ)) (bc (bV K rfl) (pv 1) aO (λ_ _=>rfl))) (bc (bV K rfl) (pv 3) aO (λ_ _=>rfl))) (aJ (bc (bV K rfl) (pv 1) aO (λ_ _=>rfl)) (aJ (bc (bV K rfl) (pv 3) aO (λ_ _=>rfl)) aQ)))
  refine bg ?_ ?_
  ·refine ee ?_ ?_ eK
   ·unfold JU;refine PW.pt (oU ?_ (ug ?_))
    ·exact dg Mh (bc (bV K rfl) (pv 2) aO (λ_ _=>rfl)) (bc (bV K rfl) (pv 1) aO (λ_ _=>rfl)) (de _)
    ·exact dg pT (aY nk (aY dt (bc (bV K rfl) (pv 2) aO (λ_ _=>rfl)) (bc (bV K rfl) (pv 1) aO (λ_ _=>rfl))) (bc (bV K rfl) (pv 2) aO (λ_ _=>rfl))) aO (de _)
   ·refine bg ?_ ?_
    ·refine cm (i:=3) (te:=tO K 1 2) JS.nd rfl (.inl rfl) ?_ ?_ ?_
     ·unfold tO;exact cT GP hr rfl mP kP bP .nil cU (aJ (pv 2) (aJ (aY nk (bc (bV K rfl) (pv 1) aO (λ_ _=>rfl)) (bc (bV K rfl) (pv 2) aO (λ_ _=>rfl))) aQ))
     ·rfl
     ·exact .inl rfl
    refine bQ ?_;refine cI (te:=qu K 3 1 (di K 3 1) (di K 1 2)) ?_;unfold qu;exact cZ (aJ (aY kQ (aY kQ (cE (aJ dH aQ)) (bc (bV K rfl) (pv 3) aO (λ_ _=>rfl))) (bc (bV K rfl) (pv 1) aO (λ_ _=>rfl))) (aJ (bc (bV K rfl) (pv 3) aO (λ_ _=>rfl)) (aJ (bc (bV K rfl) (pv 1) aO (λ_ _=>rfl)) aQ)))
  refine bQ ?_;exact cI (pv 1)
def Rc(K:Frag):Sp:=λvs H Q _=>∃(as:Addr)(ns:List Int)(p:Int),vs=[.ref as,.int p]∧dw K H as (ns.map V.int)∧ns.length≤63∧2≤p∧p≤97∧∀a d H',aL H H'→lU H' a d→Gk p d→Q (.ref a) H'
theorem xy:dj ["script","p","cur","k","draw","more"] ["script","p"] (bo HY):=dQ rfl rfl rfl (by decide +kernel) rfl
theorem abi{fD fB fJ:Addr}{i7 zO Aw:FuncData}(F:cG K "_law_drawing" "_law_drawing" HY f fd)(T:Txt mg)
  (GD:bz P w K mg base bx 1 fD i7 ["script","k"] (Ju K)) (kD:Kp K fD) (bD:Binds K i7 ["script","k"] []) (mD:Mg mg "_law_draw" fD)
  (GB:bz P w K mg base bx 1 fB zO ["draw","p"] Q3) (kB:Kp K fB) (bB:Binds K zO ["draw","p"] []) (mB:Mg mg "_law_box" fB)
  (GJ:bz P w K mg base bx 2 fJ Aw ["draw","cur","part"] Q9) (kJ:Kp K fJ) (bJ:Binds K Aw ["draw","cur","part"] []) (mJ:Mg mg "_law_joined" fJ):bz P w K mg base bx 3 f fd ["script","p"] (Rc K):=by
 refine F.ok xy (λvs H Q E h=>?_) (λbI A outer s H vs Q E hr h=>?_)
 ·obtain⟨as,ns,p,rfl,_⟩:=h;rfl
 ·obtain⟨as,ns,p,rfl,hs,hz,p2,gq,q⟩:=h;have jv:dP 1 _:=hr.mono (by decide);refine⟨_,bg (cm (i:=2) xy.nd rfl (.inl rfl) (cT GB jv rfl mB kB bB .nil cU (aJ (cT GD jv rfl mD kD bD .nil cU (aJ (pv 0) (aJ aO aQ))) (aJ (pv 1) aQ)))) (bg (mf nS rfl (j6 rfl T.range (aJ (aY gj (cT GD jv rfl mD kD bD .nil cU (aJ (pv 0) (aJ aO aQ))) aO) aQ)) (cF (i:=3) xy.nd rfl (.inl rfl)) (bg (cm (i:=4) xy.nd rfl (.inl rfl) (cT GD jv rfl mD kD bD .nil cU (aJ (pv 0) (aJ (aY dt aO (aY nq aO (pv 3))) aQ)))) (bg (cm (i:=5) xy.nd rfl (.inl rfl) (cT GJ hr rfl mJ kJ bJ .nil cU (aJ (pv 4) (aJ (pv 2) (aJ (cT GB jv rfl mB kB bB .nil cU (aJ (cT GD jv rfl mD kD bD .nil cU (aJ (pv 0) (aJ (aY dt aO (aY nq aO (pv 3))) aQ))) (aJ (pv 1) aQ))) aQ))))) (bQ (ee (dg pT (iN (ko K rfl) rfl T.len kq (aJ (bc (bV K rfl) (pv 5) aO (λ_ _=>rfl)) aQ)) aO (de _)) (bQ (cm (i:=2) xy.nd rfl (.inl rfl) (pv 5))) eK))))) (bQ (cI (pv 2)))),?_⟩;refine⟨_,rfl,as,ns,10,rfl,hs,hz,by decide,by decide,λd0 _ _=>⟨_,rfl,d0,p,rfl,p2,gq,λa d H1 s1 ha hd hl l2 r2=>?_⟩⟩;refine⟨_,rfl,as,ns,1,rfl,s1.seq hs,hz,by decide,by decide,λd1 _ _=>⟨_,_,rfl,rfl,(by show(0:Int)<10;decide),?_⟩⟩;have e0:0≤d1%10:=lY _ (by decide);have e1:d1%10<10:=lZ _ (by decide);obtain⟨N,hN,n9⟩:∃N:Nat,d1%10=(N:Int)∧N≤9:=⟨(d1%10).toNat,by lia,by lia⟩;refine⟨(N:Int),ai (λx=>[V.int x]) hN,by lia,by lia,sk (n:=N) (λi σ H'=>∃a d s3 s4 s5,σ=[some (.ref as),some (.int p),some (.ref a),s3,s4,s5]∧aL H H'∧lU H' a d∧Gk p d) ⟨a,d,none,none,none,rfl,s1,ha,hd,by lia,by lia,by lia⟩ ?_ ?_⟩
  ·rintro i σ H2 hi ⟨a,d,s3,s4,s5,rfl,sm,ha,hg⟩;rw[lA];dsimp only[cq];refine⟨_,rfl,_,rfl,2,(i:Int),rfl,rfl,.inl ⟨by decide,by decide⟩,12,_,rfl,rfl,as,ns,_,rfl,sm.seq hs,hz,by lia,by lia,λd2 _ _=>?_⟩;refine⟨_,rfl,_,rfl,_,rfl,_,rfl,2,(i:Int),rfl,rfl,.inl ⟨by decide,by decide⟩,13,_,rfl,rfl,as,ns,_,rfl,sm.seq hs,hz,by lia,by lia,λd3 _ _=>⟨_,rfl,d3,p,rfl,p2,gq,λb e H3 t3 hb he w6 l2' r2'=>?_⟩⟩;refine⟨d2,p,a,b,d,e,rfl,ha.mono t3,hb,hg.wf,he,hg.l4,hg.r4,hg.len,w6,l2',r2',λt g H4 t4 ht gw gl gr acQ=>?_⟩;have lL:=ht;obtain⟨wt,gt,gwt⟩:=ht;refine⟨_,rfl,t,_,0,.ref wt,rfl,rfl,.of gt,bE (j:=0) rfl,wt,_,rfl,.inr (.of gwt),_,_,rfl,rfl,_,rfl,?_⟩;refine pX (λRf=>?_) (λ_=>?_)
   ·have Rf:(g.aR.length:Int)<81:=aG Rf;exact⟨_,rfl,t,g,_,_,_,rfl,sm.trans (t3.trans t4),lL,gw,gl,gr,by lia⟩
   ·exact⟨a,d,_,_,_,rfl,sm.trans (t3.trans t4),ha.mono (t3.trans t4),hg⟩
  ·rintro σ H2 ⟨a,d,s3,s4,s5,rfl,sm,ha,hg⟩;exact⟨_,rfl,q a d H2 sm ha hg⟩
noncomputable def cM(L:List Addr)(H:Hp):Hp:=λb=>if b∈L then none else H b
section
variable{L L':List Addr}{H H':Hp}{a b:Addr}{o:HO}
theorem qw(h:b∈L):cM L H b=none:=ae h
theorem vg(h:b ∉ L):cM L H b=H b:=af h
theorem oG(e:cM L H b=some o):b ∉ L∧H b=some o:=by
 by_cases hb:b∈L
 ·rw[qw hb]at e;cases e
 ·rw[vg hb]at e;exact⟨hb,e⟩
theorem lW(h:a∈L):cM L (upd H a o)=cM L H:=by
 funext b
 by_cases hb:b∈L
 ·rw[qw hb,qw hb]
 ·rw[vg hb,vg hb,bZ λz=>hb (by rw[z];exact h)]
theorem vh:aL (cM L H) H:=λ_ _ e=>(oG e).2
theorem jW(h:aL H H'):aL (cM L H) (cM L H'):=λb o e=>by
 rw[vg (oG e).1];exact h b o (oG e).2
theorem JW(h:∀x∈L,x∈L'):aL (cM L' H) (cM L H):=λb o e=>by
 have z:=oG e;rw[vg λhb=>z.1 (h b hb)];exact z.2
theorem iI(h:H b=some o)(hb:b ∉ L):cM L H b=some o:=by rw[vg hb];exact h
end
theorem vi{H':Hp}{c:Addr}(h:aL B H')(hc:B c=none):aL B (upd H' c o):=λb x e=>by
 have:b≠c:=λz=>by rw[z,hc]at e;cases e
 rw[bZ this];exact h b x e
def jX(K:Frag)(H:Hp)(VS:List V)(q:iu):Prop:=VS.length=q.length∧∀(i:Nat)(v:V)(t:Nat×Int),VS[i]?=some v→q[i]?=some t→∃a,v=.ref a∧bh K H a [.int (t.1:Int),.int t.2]
def lX(K:Frag)(H:Hp)(RS:List V)(rs:List iu):Prop:=RS.length=rs.length∧∀(i:Nat)(v:V)(q:iu),RS[i]?=some v→rs[i]?=some q→∃c VS,v=.ref c∧H c=some (.lst VS)∧jX K H VS q
noncomputable def cD(L:List Nat):List V:=L.map λ(n:Nat)=>V.int (n:Int)
def oH(K:Frag)(H:Hp)(v:V)(l r:List Nat):Prop:=∃t a b,v=.ref t∧bh K H t [.ref a,.ref b]∧H a=some (.lst (cD l))∧H b=some (.lst (cD r))
section
variable{K:Frag}{H H':Hp}
theorem jX.mono(h:jX K H VS q)(s:aL H H'):jX K H' VS q:=⟨h.1,λi v t e1 e2=>let ⟨a,e,g⟩:=h.2 i v t e1 e2;⟨a,e,s.bq g⟩⟩
theorem lX.mono{RS:List V}{rs:List iu}(h:lX K H RS rs)(s:aL H H'):lX K H' RS rs:=⟨h.1,λi v q e1 e2=>let ⟨c,VS,e,g,k⟩:=h.2 i v q e1 e2;⟨c,VS,e,s _ _ g,k.mono s⟩⟩
theorem oH.mono{v:V}(h:oH K H v l r)(s:aL H H'):oH K H' v l r:=let ⟨t,a,b,e,g1,g2,g3⟩:=h;⟨t,a,b,e,s.bq g1,s _ _ g2,s _ _ g3⟩
theorem jX.nil:jX K H [] []:=⟨rfl,λi v t e=>by cases e⟩
theorem jX.cons{t:Nat×Int}(ha:bh K H a [.int (t.1:Int),.int t.2])(h:jX K H VS q):jX K H (.ref a::VS) (t::q):=by
 refine⟨by rw[dB,dB,h.1],λi v u e1 e2=>?_⟩;cases i with
 |zero=>cases e1;cases e2;exact⟨a,rfl,ha⟩
 |succ i=>exact h.2 i v u e1 e2
theorem lX.append{RS SS:List V}{ss:List iu}(h:lX K H RS rs)(k:lX K H SS ss):lX K H (RS++SS) (rs++ss):=⟨by rw[cx,cx,h.1,k.1],λi v q e1 e2=>by
 by_cases hi:i<RS.length
 ·rw[iA hi]at e1;rw[iA (by rw[← h.1];exact hi)]at e2;exact h.2 i v q e1 e2
 ·rw[iL (by lia)]at e1;rw[iL (by rw[← h.1];lia),← h.1]at e2;exact k.2 _ v q e1 e2⟩
theorem lX.one{c:Addr}(hc:H c=some (.lst VS))(h:jX K H VS q):lX K H [.ref c] [q]:=⟨rfl,λi v u e1 e2=>by
 cases i with
 |zero=>cases e1;cases e2;exact⟨c,VS,rfl,hc,h⟩
 |succ i=>cases e1⟩
theorem lX.nil:lX K H [] []:=⟨rfl,λi v q e=>by cases e⟩
end
noncomputable def Eh(t:Nat×Nat):Nat×Int:=(t.1,(t.2:Int))
structure fQ(K:Frag)(B:Hp)(L:List Addr)(ar am aw:Addr)(rs:List iu)(N:Nat)(ws:List (Nat×Nat))(H:Hp):Prop where
 b:B ar=none∧B am=none∧B aw=none
 sm:aL B H
 al:∀y∈L,∃o,H y=some o
 r:∃RS,H ar=some (.lst RS)∧lX K (cM L H) RS rs
 m:H am=some (.lst [.int (N:Int)])
 w:∃WS,H aw=some (.lst WS)∧jX K (cM L H) WS (ws.map Eh)
structure rT(L:List Addr)(ar am aw:Addr):Prop where
 r:ar∈L
 m:am∈L
 w:aw∈L
 n1:ar≠am
 n2:ar≠aw
 n3:am≠aw
theorem Ei(h:∀y∈L,∃o,H y=some o):∀y∈L,∃o',(upd H a o) y=some o':=λy hy=>by
 by_cases e:y=a
 ·rw[e];exact⟨o,aX⟩
 ·rw[bZ e];exact h y hy
section
variable{K:Frag}{B H H':Hp}{L:List Addr}{ar am aw:Addr}{rs:List iu}{N:Nat}{ws:List (Nat×Nat)}
theorem fQ.grow(h:fQ K B L ar am aw rs N ws H)(s:aL H H'):fQ K B L ar am aw rs N ws H':=
 ⟨h.b,h.sm.trans s,λy hy=>let ⟨o,e⟩:=h.al y hy;⟨o,s _ _ e⟩,let ⟨RS,g,k⟩:=h.r;⟨RS,s _ _ g,k.mono (jW s)⟩,s _ _ h.m,let ⟨WS,g,k⟩:=h.w;⟨WS,s _ _ g,k.mono (jW s)⟩⟩
theorem fQ.setM(h:fQ K B L ar am aw rs N ws H)(n:rT L ar am aw)(M:Nat):fQ K B L ar am aw rs M ws (upd H am (.lst [.int (M:Int)])):=by
 refine⟨h.b,vi h.sm h.b.2.1,Ei h.al,?_,aX,?_⟩
 ·obtain⟨RS,g,k⟩:=h.r;exact⟨RS,by rw[bZ n.n1];exact g,by rw[lW n.m];exact k⟩
 ·obtain⟨WS,g,k⟩:=h.w;exact⟨WS,by rw[bZ n.n3.symm];exact g,by rw[lW n.m];exact k⟩
theorem fQ.Ej(h:fQ K B L ar am aw rs N ws H)(n:rT L ar am aw){RS SS:List V}{ss:List iu}(hk:lX K (cM L H) (RS++SS) (rs++ss)):fQ K B L ar am aw (rs++ss) N ws (upd H ar (.lst (RS++SS))):=by
 refine⟨h.b,vi h.sm h.b.1,Ei h.al,⟨_,aX,by rw[lW n.r];exact hk⟩,by rw[bZ n.n1.symm];exact h.m,?_⟩;obtain⟨WS,g,k⟩:=h.w;exact⟨WS,by rw[bZ n.n2.symm];exact g,by rw[lW n.r];exact k⟩
theorem fQ.abj(h:fQ K B L ar am aw rs N ws H)(n:rT L ar am aw){WS:List V}{JX:List (Nat×Nat)}(hk:jX K (cM L H) WS (JX.map Eh)):fQ K B L ar am aw rs N JX (upd H aw (.lst WS)):=by
 refine⟨h.b,vi h.sm h.b.2.2,Ei h.al,?_,by rw[bZ n.n3];exact h.m,⟨_,aX,by rw[lW n.w];exact hk⟩⟩;obtain⟨RS,g,k⟩:=h.r;exact⟨RS,by rw[bZ n.n2];exact g,by rw[lW n.w];exact k⟩
theorem fQ.out(h:fQ K B L ar am aw rs N ws H){x:Addr}(hx:H x=none):x ∉ L:=λz=>by
 obtain⟨o,e⟩:=h.al x z;rw[hx]at e;cases e
end
def tP:List (TE×TE)→TA
 | []=>bG
 |c::cs=>aZ (eS (aZ c.1 (aZ c.2 bG))) (tP cs)
theorem JY{K:Frag}{σ:St}:∀{cs:List (TE×TE)}{q:iu}{H:Hp}{R:List V→Hp→Prop},(∀(i:Nat)(c:TE×TE)(t:Nat×Int),cs[i]?=some c→q[i]?=some t→dS c.1 σ H (t.1:Int)∧dS c.2 σ H t.2)→cs.length=q.length→(∀vs H',aL H H'→jX K H' vs q→(∀v∈vs,∀a,v=.ref a→H a=none)→R vs H')→tP cs σ H R
 | [],[],H,R,_,_,h=>h [] H (.refl _) .nil (λv hv=>by cases hv)
 | [],_::_,_,_,_,hl,_=>by cases hl
 |_::_,[],_,_,_,hl,_=>by cases hl
 |c::cs,t::q,H,R,hc,hl,h=>by
  obtain⟨h1,h2⟩:=hc 0 c t rfl rfl;refine h1 H (.refl _) _ (h2 H (.refl _) _ ⟨by show 2≤sizeLine;decide,λa ha=>?_⟩);have s1:=aL.upd (o:=.tup [.int (t.1:Int),.int t.2]) ha;refine JY (K:=K) (cs:=cs) (q:=q) (λi c' t' e1 e2=>?_) (by simpa using hl) λvs H' s hP hn=>h (.ref a::vs) H' (s1.trans s) (.cons (s.bq (.of aX)) hP) λv hv b e=>?_
  ·obtain⟨g1,g2⟩:=hc (i+1) c' t' e1 e2;exact⟨λph s' R' r=>g1 ph (s1.trans s') R' r,λph s' R' r=>g2 ph (s1.trans s') R' r⟩
  ·rcases(cS.mp hv)with(rfl|hv)
   ·cases e;exact ha
   ·have:=hn v hv b e
    exact jS s1 this
def rV(ta:TA)(σ:St)(H:Hp)(xs:List Nat):Prop:=∀H',aL H H'→∀R:List V→Hp→Prop,R (cD xs) H'→ta σ H' R
theorem je:rV bG σ H []:=λ_ _ _ r=>r
theorem jf{x:Nat}{xs:List Nat}(h:dS te σ H (x:Int))(h':rV ta σ H xs):rV (aZ te ta) σ H (x::xs):=λH' s R r=>h H' s _ (h' H' s _ r)
theorem Rg(ha:rV ta σ H l)(hb:rV tb σ H r)(ll:l.length≤100)(lr:r.length≤100)(q:∀t a b H',aL H H'→H a=none→H b=none→H t=none→H' t=some (.tup [.ref a,.ref b])→H' a=some (.lst (cD l))→H' b=some (.lst (cD r))→Q (.ref t) H'):eS (aZ (jM ta) (aZ (jM tb) bG)) σ H Q:=by
 have z:(1000:Nat)≤sizeLine:=by decide
 refine ha H (.refl _) _ ⟨by unfold cD;rw[bj];lia,λa k1=>?_⟩;have s1:=aL.upd (o:=.lst (cD l)) k1;refine hb _ s1 _ ⟨by unfold cD;rw[bj];lia,λb k2=>⟨by show 2≤sizeLine;lia,λt k3=>?_⟩⟩;have s2:=aL.upd (o:=.lst (cD r)) k2;have s3:=aL.upd (o:=.tup [.ref a,.ref b]) k3;exact q t a b _ (s1.trans (s2.trans s3)) k1 (jS s1 k2) (jS (s1.trans s2) k3) aX ((s2.trans s3) _ _ aX) (s3 _ _ aX)
inductive Ax:Str→V→Nat→Net→Prop where
 |times (n:Int) (N:Nat):Ax "times" (.int n) N (QM n N)
 |box (x:Str) (f:V) (N:Nat) (h:x="add"∨x="none"∨x="late"∨x="id"∨x="swap"∨x="copy"∨x="end"∨x="cup"∨x="empty"):Ax x f N (cV x N)
def Ek(K:Frag):Sp:=λvs H Q _=>∃(x:Str)(f:V)(L:List Addr)(ar am aw:Addr)(rs:List iu)(N:Nat)(ws:List (Nat×Nat))(A:Net),vs=[.str x,f,.ref ar,.ref am,.ref aw]∧Ax x f N A∧rT L ar am aw∧fQ K (cM [ar,am,aw] H) L ar am aw rs N ws H∧rs.length≤1000∧ws.length≤1000∧N≤100000∧
 ∀t H',fQ K (cM [ar,am,aw] H) L ar am aw (rs++A.rules) (N+3) (A.ws++ws) H'→oH K (cM L H') (.ref t) A.l A.r→Q (.ref t) H'
noncomputable abbrev nWi:List Str:=["word","factor","rules","many","waits","a","pairs"]
theorem JZ:dj nWi ["word","factor","rules","many","waits"] (bo HZ):=dQ rfl rfl rfl (by decide +kernel) rfl
abbrev xA:TE:=Fx (rU λi=>.int (-i)) (tC (.int 1))
abbrev iJ:TE:=aW 5
abbrev qx:TE:=nK (aW 5) (tC (.int 1))
abbrev J0:TE:=nK (aW 5) (tC (.int 2))
abbrev nL(a b:TA):TE:=eS (aZ (jM a) (aZ (jM b) bG))
abbrev qy(a:TE):TA:=aZ a bG
abbrev xB(a b:TE):TA:=aZ a (aZ b bG)
abbrev vj(x:Str):TT:=jm (cA qS (aW 0) (tC (.str x)))
def tR(K:Frag)(cs:List (TE×TE)):TS:=yi (uq K "list" BK (aW 2) (aZ (jM (tP cs)) bG))
def J1(K:Frag):TS:=yi (uq K "list" N4 (aW 4) (aZ (tC (.int 0)) (aZ (eS (aZ qx (aZ iJ bG))) bG)))
def El:TE:=Og [(tC (.str "id"),nL (qy iJ) (qy iJ)),(tC (.str "swap"),nL (xB iJ qx) (xB qx iJ)),(tC (.str "copy"),nL (qy iJ) (xB iJ iJ)),(tC (.str "end"),nL (qy iJ) bG)]
def Em:TS:=cy (dC El (cq 6)) (cy (y8 (aW 6) (tC (.str "cup")) (nL bG (xB iJ iJ))) (cy (y8 (aW 6) (tC (.str "empty")) (nL bG bG)) (eh (Ck (aW 6) (aW 0)))))
def En(K:Frag):TS:=cy (dC (di K 3 0) (cq 5)) (cy (dC (nK (di K 3 0) (tC (.int 3))) (L1 (aW 3) (tC (.int 0)) My)) (cy (dW (vj "times") (cy (tR K [(iJ,aW 1),(qx,xA)]) (eh (nL (qy iJ) (qy qx)))) gi) (cy (dW (vj "add") (cy (tR K [(iJ,tC (.int 1)),(qx,tC (.int 1)),(J0,xA)]) (eh (nL (xB iJ qx) (qy J0)))) gi) (cy (dW (vj "none") (cy (tR K [(iJ,tC (.int 1))]) (eh (nL bG (qy iJ)))) gi) (cy (dW (vj "late") (cy (J1 K) (eh (nL (qy iJ) (qy qx)))) gi) Em)))))
section
variable{σ:St}{H:Hp}
theorem qz{y:Str}(h0:σ[0]?=some (some (.str y)))(n:y≠x)(h:u D σ H):dW (vj x) t u D σ H:=⟨_,h0,rfl,_,rfl,mG n h⟩
theorem Eo(h0:σ[0]?=some (some (.str x)))(h:t D σ H):dW (vj x) t u D σ H:=⟨_,h0,rfl,_,rfl,uO h⟩
end
theorem nmw:("add":Str) ≠ "times"∧("none":Str) ≠ "times"∧("late":Str) ≠ "times"∧("id":Str) ≠ "times"∧("swap":Str) ≠ "times"∧("copy":Str) ≠ "times"∧("end":Str) ≠ "times"∧("cup":Str) ≠ "times"∧("empty":Str) ≠ "times" ∧
 ("none":Str) ≠ "add"∧("late":Str) ≠ "add"∧("id":Str) ≠ "add"∧("swap":Str) ≠ "add"∧("copy":Str) ≠ "add"∧("end":Str) ≠ "add"∧("cup":Str) ≠ "add"∧("empty":Str) ≠ "add" ∧
 ("late":Str) ≠ "none"∧("id":Str) ≠ "none"∧("swap":Str) ≠ "none"∧("copy":Str) ≠ "none"∧("end":Str) ≠ "none"∧("cup":Str) ≠ "none"∧("empty":Str) ≠ "none" ∧
 ("id":Str) ≠ "late"∧("swap":Str) ≠ "late"∧("copy":Str) ≠ "late"∧("end":Str) ≠ "late"∧("cup":Str) ≠ "late"∧("empty":Str) ≠ "late":=by decide +kernel
theorem Ep(h:fQ K B L ar am aw rs N ws H)(ha:rV ta σ H l)(hb:rV tb σ H r)(ll:l.length≤100)(lr:r.length≤100)
  (q:∀t H',fQ K B L ar am aw rs N ws H'→oH K (cM L H') (.ref t) l r→D.rt (.ref t) H'):(eh (nL ta tb)) D σ H:=by
 refine Rg ha hb ll lr λt a b H' s na nb nt ht hA hB=>?_;exact q t H' (h.grow s) ⟨t,a,b,rfl,.of (iI ht (h.out nt)),iI hA (h.out na),iI hB (h.out nb)⟩
theorem jX.del(h:jX K H VS q)(n:∀v∈VS,∀a,v=.ref a→a ∉ L):jX K (cM L H) VS q:=⟨h.1,λi v t e1 e2=>by
 obtain⟨a,e,g⟩:=h.2 i v t e1 e2;have na:=n v (dY e1) a e;refine⟨a,e,?_⟩;rcases g with(g|⟨ob,g⟩)|g
 ·exact .inl (.inl (iI g na))
 ·exact .inl (.inr ⟨ob,iI g na⟩)
 ·exact .inr g⟩
theorem J2{cs:List (TE×TE)}(h2:σ[2]?=some (some (.ref ar)))(n:rT L ar am aw)(h:fQ K B L ar am aw rs N ws H)(my:rs.length≤1000)(hl:cs.length=q.length)(hq:q.length≤10)
  (hc:∀(i:Nat)(c:TE×TE)(t:Nat×Int),cs[i]?=some c→q[i]?=some t→dS c.1 σ H (t.1:Int)∧dS c.2 σ H t.2) (k:∀H',fQ K B L ar am aw (rs++[q]) N ws H'→D.nx σ H'):tR K cs D σ H:=by
 have z:(2000:Nat)≤sizeLine:=by decide
 obtain⟨RS,g,hR⟩:=h.r;unfold tR;refine⟨_,h2,.inl ⟨rfl,_,.of g⟩,JY (K:=K) hc hl λvs H1 s1 hP hn=>⟨by rw[hP.1];lia,λc hk=>?_⟩⟩;have s2:=aL.upd (o:=.lst vs) hk;have sA:=s1.trans s2;have h':=h.grow sA;refine⟨ar,RS,.ref c,rfl,rfl,sA _ _ g,by rw[hR.1];lia,?_⟩;refine k _ (h'.Ej n ((hR.mono (jW sA)).append (.one (iI aX (h.out (jS s1 hk))) ?_)));exact(hP.mono s2).del λv hv a e=>h.out (hn v hv a e)
theorem Rh{td ty tv:TE}(h:tv σ H λv H1=>td σ H1 λx H2=>ty σ H2 λy H3=>∃a H4,x=.ref a∧sO H3 a y v H4∧u D σ H4):cy (y8 td ty tv) u D σ H:=h
theorem Er{v:V}(h:Q v H):tC v σ H Q:=h
structure rW(H Hk:Hp)(ld t:Addr)(l r:List Nat):Prop where
 ex:∃a b,(t≠ld∧a≠ld∧b≠ld)∧(H t=none∧H a=none∧H b=none)∧Hk t=some (.tup [.ref a,.ref b])∧Hk a=some (.lst (cD l))∧Hk b=some (.lst (cD r))
theorem rW.upd{H Hk:Hp}{ld t:Addr}{l r:List Nat}{o:HO}(h:rW H Hk ld t l r):rW H (upd Hk ld o) ld t l r:=by
 obtain⟨a,b,⟨n1,n2,n3⟩,hn,g1,g2,g3⟩:=h.ex;exact⟨a,b,⟨n1,n2,n3⟩,hn,by rw[bZ n1];exact g1,by rw[bZ n2];exact g2,by rw[bZ n3];exact g3⟩
theorem rW.mono{Hk Hm:Hp}{ld t:Addr}(h:rW H Hk ld t l r)(s:aL Hk Hm):rW H Hm ld t l r:=by
 obtain⟨a,b,n,hn,g1,g2,g3⟩:=h.ex;exact⟨a,b,n,hn,s _ _ g1,s _ _ g2,s _ _ g3⟩
theorem xC{Hk:Hp}{ld:Addr}(s:aL H Hk)(hd:Hk ld=some o)(ha:rV ta σ Hk l)(hb:rV tb σ Hk r)(ll:l.length≤100)(lr:r.length≤100)(q:∀t Hm,aL Hk Hm→rW H Hm ld t l r→Q (.ref t) Hm):nL ta tb σ Hk Q:=
 Rg ha hb ll lr λt a b H' s' na nb nt ht hA hB=>q t H' s' ⟨a,b,⟨λz=>(by rw[z,hd]at nt;cases nt),λz=>(by rw[z,hd]at na;cases na),λz=>by rw[z,hd]at nb;cases nb⟩,⟨jS s nt,jS s na,jS s nb⟩,ht,hA,hB⟩
theorem Ri:∀(more aU:List (Key×V)),((aU++more).map (·.1)).Nodup→uF aU more=aU++more
 | [],aU,_=>by rw[iK];rfl
 |p::more,aU,h=>by
  have hv:eV aU p.1=none:=by
   unfold eV;rw[Option.map_eq_none_iff,List.find?_eq_none];intro q hq z;rw[aF]at z;rw[cY,nP,List.nodup_append]at h;exact h.2.2 q.1 (xV hq) p.1 cP z
  show uF (gS aU p.1 p.2) more=_;rw[Hi _ hv,Ri more (aU++[(p.1,p.2)]) (by rw[gH];exact h),gH];rfl
theorem valN{aU:List (Key×V)}{ks:List Key}{k:Key}(e:aU.map (·.1)=ks)(h:(ks++[k]).Nodup):eV aU k=none:=by
 unfold eV;rw[Option.map_eq_none_iff,List.find?_eq_none];intro x hx z;rw[aF]at z;rw[List.nodup_append]at h;exact h.2.2 x.1 (e▸xV hx) k cP z
noncomputable def jE(t1 t2 t3 t4:Addr):List (Key×V):=[(.inr "id",.ref t1),(.inr "swap",.ref t2),(.inr "copy",.ref t3),(.inr "end",.ref t4)]
noncomputable def oI(t1 t2 t3 t4 t5 t6:Addr):List (Key×V):=[(.inr "id",.ref t1),(.inr "swap",.ref t2),(.inr "copy",.ref t3),(.inr "end",.ref t4),(.inr "cup",.ref t5),(.inr "empty",.ref t6)]
theorem abk{f:V}(hx:x="id"∨x="swap"∨x="copy"∨x="end"∨x="cup"∨x="empty")
  (q:∀ld t Hm,aL H Hm→rW H Hm ld t (cV x N).l (cV x N).r→D.rt (.ref t) Hm):Em D [some (.str x),some f,some (.ref ar),some (.ref am),some (.ref aw),some (.int (N:Int)),none] H:=by
 have V0:∀{H:Hp}{u:Option V},dS iJ [some (.str x),some f,some (.ref ar),some (.ref am),some (.ref aw),some (.int (N:Int)),u] H (N:Int):=e9 rfl;have V1:∀{H:Hp}{u:Option V},dS qx [some (.str x),some f,some (.ref ar),some (.ref am),some (.ref aw),some (.int (N:Int)),u] H ((N+1:Nat):Int):=λ{H u}=>by
  rw[show((N+1:Nat):Int)=(N:Int)+1 by lia];exact nF (e9 rfl) jT
 unfold Em El;intro ld oq;have s0:aL H (upd H ld (.dK [])):=.upd oq;have g0:(upd H ld (.dK [])) ld=some (.dK []):=aX;generalize upd H ld (.dK [])=H0 at s0 g0 ⊢;unfold sP;refine Er ?_;refine xC (l:=[N]) (r:=[N]) s0 g0 (jf V0 je) (jf V0 je) (by simp) (by simp) λt1 H1 s1 p1=>?_;unfold sP;refine Er ?_;refine xC (l:=[N,N+1]) (r:=[N+1,N]) (s0.trans s1) (s1 _ _ g0) (jf V0 (jf V1 je)) (jf V1 (jf V0 je)) (by simp) (by simp) λt2 H2 s2 p2=>?_;unfold sP;refine Er ?_;refine xC (l:=[N]) (r:=[N,N]) (s0.trans (s1.trans s2)) ((s1.trans s2) _ _ g0) (jf V0 je) (jf V0 (jf V0 je)) (by simp) (by simp) λt3 H3 s3 p3=>?_;unfold sP;refine Er ?_;refine xC (l:=[N]) (r:=[]) (s0.trans (s1.trans (s2.trans s3))) ((s1.trans (s2.trans s3)) _ _ g0) (jf V0 je) je (by simp) (by simp) λt4 H4 s4 p4=>?_;unfold sP;have sA:=s0.trans (s1.trans (s2.trans (s3.trans s4)));refine⟨(s1.trans (s2.trans (s3.trans s4))) _ _ g0,jE t1 t2 t3 t4,rfl,by show 4≤15;decide,?_⟩;rw[Ri (jE t1 t2 t3 t4) [] (by show([.inr "id",.inr "swap",.inr "copy",.inr "end"]:List Key).Nodup;decide +kernel),List.nil_append];have Ay:=(p1.mono (s2.trans (s3.trans s4))).upd (o:=.dK (jE t1 t2 t3 t4));have Az:=(p2.mono (s3.trans s4)).upd (o:=.dK (jE t1 t2 t3 t4));have AA:=(p3.mono s4).upd (o:=.dK (jE t1 t2 t3 t4));have AB:=p4.upd (o:=.dK (jE t1 t2 t3 t4));have sB:aL H (upd H4 ld (.dK (jE t1 t2 t3 t4))):=vi sA oq;have gB:(upd H4 ld (.dK (jE t1 t2 t3 t4))) ld=some (.dK (jE t1 t2 t3 t4)):=aX;generalize upd H4 ld (.dK (jE t1 t2 t3 t4))=H5 at Ay Az AA AB sB gB ⊢;show(cy (y8 (aW 6) (tC (.str "cup")) (nL bG (xB iJ iJ))) _) D [some (.str x),some f,some (.ref ar),some (.ref am),some (.ref aw),some (.int (N:Int)),some (.ref ld)] H5;refine Rh ?_;refine xC (l:=[]) (r:=[N,N]) sB gB je (jf V0 (jf V0 je)) (by simp) (by simp) λt5 H6 s6 p5=>?_;refine⟨_,rfl,ld,_,rfl,sO.k (k:=.inr "cup") (s6 _ _ gB) (by show 4<sizeLine;decide),?_⟩;rw[Hi _ (valN (ks:=[.inr "id",.inr "swap",.inr "copy",.inr "end"]) rfl (by decide +kernel))];have sC:aL H (upd H6 ld (.dK (jE t1 t2 t3 t4++[(.inr "cup",.ref t5)]))):=vi (sB.trans s6) oq;have gC:(upd H6 ld (.dK (jE t1 t2 t3 t4++[(.inr "cup",.ref t5)]))) ld=some (.dK (jE t1 t2 t3 t4++[(.inr "cup",.ref t5)])):=aX;have Ay:=(Ay.mono s6).upd (o:=.dK (jE t1 t2 t3 t4++[(.inr "cup",.ref t5)]));have Az:=(Az.mono s6).upd (o:=.dK (jE t1 t2 t3 t4++[(.inr "cup",.ref t5)]));have AA:=(AA.mono s6).upd (o:=.dK (jE t1 t2 t3 t4++[(.inr "cup",.ref t5)]));have AB:=(AB.mono s6).upd (o:=.dK (jE t1 t2 t3 t4++[(.inr "cup",.ref t5)]));have Rj:=p5.upd (o:=.dK (jE t1 t2 t3 t4++[(.inr "cup",.ref t5)]));generalize upd H6 ld (.dK (jE t1 t2 t3 t4++[(.inr "cup",.ref t5)]))=H7 at Ay Az AA AB Rj sC gC ⊢;refine Rh ?_;refine xC (l:=[]) (r:=[]) sC gC je je (by simp) (by simp) λt6 H8 s8 p6=>?_;refine⟨_,rfl,ld,_,rfl,sO.k (k:=.inr "empty") (s8 _ _ gC) (by show 5<sizeLine;decide),?_⟩;rw[Hi _ (valN (ks:=[.inr "id",.inr "swap",.inr "copy",.inr "end",.inr "cup"]) rfl (by decide +kernel))];have sD:aL H (upd H8 ld (.dK (oI t1 t2 t3 t4 t5 t6))):=vi (sC.trans s8) oq;have gD:(upd H8 ld (.dK (oI t1 t2 t3 t4 t5 t6))) ld=some (.dK (oI t1 t2 t3 t4 t5 t6)):=aX;show(eh (Ck (aW 6) (aW 0))) D [some (.str x),some f,some (.ref ar),some (.ref am),some (.ref aw),some (.int (N:Int)),some (.ref ld)] (upd H8 ld (.dK (oI t1 t2 t3 t4 t5 t6)));have fin:∀{t:Addr},eV (oI t1 t2 t3 t4 t5 t6) (.inr x)=some (.ref t)→rW H (upd H8 ld (.dK (oI t1 t2 t3 t4 t5 t6))) ld t (cV x N).l (cV x N).r→(eh (Ck (aW 6) (aW 0))) D [some (.str x),some f,some (.ref ar),some (.ref am),some (.ref aw),some (.int (N:Int)),some (.ref ld)] (upd H8 ld (.dK (oI t1 t2 t3 t4 t5 t6))):=λ{t} hv hp=>by
  refine⟨_,rfl,_,rfl,ld,.ref t,rfl,?_,q ld t _ sD hp⟩
  have:=rh.k (k:=.inr x) gD
  rw[hv]at this;exact this
 have ng:∀{y z:Str}{v:Addr}{r:List (Key×V)},z≠y→eV ((Sum.inr y,V.ref v)::r) (Sum.inr z:Key)=eV r (.inr z):=λh=>oj λe=>h (Sum.inr.inj e).symm;rcases hx with rfl|rfl|rfl|rfl|rfl|rfl
 ·exact fin (t:=t1) (kf rfl) (by rw[xm];exact(Ay.mono s8).upd)
 ·exact fin (t:=t2) (by unfold oI;rw[ng (by decide +kernel)];exact kf rfl) (by rw[xn];exact(Az.mono s8).upd)
 ·exact fin (t:=t3) (by unfold oI;rw[ng (by decide +kernel),ng (by decide +kernel)];exact kf rfl) (by rw[xo];exact(AA.mono s8).upd)
 ·exact fin (t:=t4) (by unfold oI;rw[ng (by decide +kernel),ng (by decide +kernel),ng (by decide +kernel)];exact kf rfl) (by rw[xp];exact(AB.mono s8).upd)
 ·exact fin (t:=t5) (by unfold oI;rw[ng (by decide +kernel),ng (by decide +kernel),ng (by decide +kernel),ng (by decide +kernel)];exact kf rfl) (by rw[xq];exact(Rj.mono s8).upd)
 ·exact fin (t:=t6) (by unfold oI;rw[ng (by decide +kernel),ng (by decide +kernel),ng (by decide +kernel),ng (by decide +kernel),ng (by decide +kernel)];exact kf rfl) (by rw[Af];exact p6.upd)
theorem abl{f:V}{A:Net}(hW:Ax x f N A)(n:rT L ar am aw)(h:fQ K (cM [ar,am,aw] H) L ar am aw rs N ws H)(my:rs.length≤1000)(mn:ws.length≤1000)
  (q:∀t H',fQ K (cM [ar,am,aw] H) L ar am aw (rs++A.rules) (N+3) (A.ws++ws) H'→oH K (cM L H') (.ref t) A.l A.r→D.rt (.ref t) H') :
  En K D [some (.str x),some f,some (.ref ar),some (.ref am),some (.ref aw),none,none] H:=by
 have z:(2000:Nat)≤sizeLine:=by decide
 obtain⟨n1,n2,n3,n4,n5,n6,n7,n8,n9,a2,a3,a4,a5,a6,a7,a8,a9,c3,c4,c5,c6,c7,c8,c9,d4,d5,d6,d7,d8,d9⟩:=nmw;unfold En;refine⟨_,rfl,am,_,0,.int (N:Int),rfl,rfl,.of h.m,bE (j:=0) rfl,?_⟩;refine⟨_,rfl,am,_,0,.int (N:Int),rfl,rfl,.of h.m,bE (j:=0) rfl,_,_,rfl,rfl,_,rfl,am,[.int (N:Int)],0,0,rfl,rfl,h.m,rfl,?_⟩;have h1:=h.setM n (N+3);have e:([V.int (N:Int)].set 0 (.int ((N:Int)+3)))=[.int ((N+3:Nat):Int)]:=by
  show[V.int ((N:Int)+3)]=_;rw[show(N:Int)+3=((N+3:Nat):Int) by lia]
 show(cy (dW (vj "times") _ gi) _) D [some (.str x),some f,some (.ref ar),some (.ref am),some (.ref aw),some (.int (N:Int)),none] (upd H am (.lst ([V.int (N:Int)].set 0 (.int ((N:Int)+3)))));rw[e];generalize upd H am (.lst [.int ((N+3:Nat):Int)])=H1 at h1 ⊢;have V0:∀{H:Hp}{f:V},dS iJ [some (.str x),some f,some (.ref ar),some (.ref am),some (.ref aw),some (.int (N:Int)),none] H (N:Int):=e9 rfl;have V1:∀{H:Hp}{f:V},dS qx [some (.str x),some f,some (.ref ar),some (.ref am),some (.ref aw),some (.int (N:Int)),none] H ((N+1:Nat):Int):=λ{H f}=>by
  rw[show((N+1:Nat):Int)=(N:Int)+1 by lia];exact nF (e9 rfl) jT
 have V2:∀{H:Hp}{f:V},dS J0 [some (.str x),some f,some (.ref ar),some (.ref am),some (.ref aw),some (.int (N:Int)),none] H ((N+2:Nat):Int):=λ{H f}=>by
  rw[show((N+2:Nat):Int)=(N:Int)+2 by lia];exact nF (e9 rfl) jT
 have Vn:∀{H:Hp}{f:V},dS xA [some (.str x),some f,some (.ref ar),some (.ref am),some (.ref aw),some (.int (N:Int)),none] H (-1):=λ{H f} H' s R r=>⟨1,rfl,r⟩;cases hW with
 |times k M=>
  refine Eo rfl ?_;refine J2 (q:=[(N,k),(N+1,-1)]) rfl n h1 my rfl (by show 2≤10;decide) (λi c t e1 e2=>?_) λH2 h2=>?_
  ·match i,e1,e2 with
   |0,e1,e2=>cases e1;cases e2;exact⟨V0,e9 rfl⟩
   |1,e1,e2=>cases e1;cases e2;exact⟨V1,Vn⟩
   |i+2,e1,_=>cases e1
  ·exact Ep (l:=[N]) (r:=[N+1]) h2 (jf V0 je) (jf V1 je) (by simp) (by simp) q
 |box x f M hx=>
  rcases hx with rfl|rfl|rfl|hx
  ·rw[DY]at q;refine qz rfl n1 (Eo rfl ?_);refine J2 (q:=[(N,1),(N+1,1),(N+2,-1)]) rfl n h1 my rfl (by show 3≤10;decide) (λi c t e1 e2=>?_) λH2 h2=>?_
   ·match i,e1,e2 with
    |0,e1,e2=>cases e1;cases e2;exact⟨V0,jT⟩
    |1,e1,e2=>cases e1;cases e2;exact⟨V1,jT⟩
    |2,e1,e2=>cases e1;cases e2;exact⟨V2,Vn⟩
    |i+3,e1,_=>cases e1
   ·exact Ep (l:=[N,N+1]) (r:=[N+2]) h2 (jf V0 (jf V1 je)) (jf V2 je) (by simp) (by simp) q
  ·rw[DZ]at q;refine qz rfl n2 (qz rfl a2 (Eo rfl ?_));refine J2 (q:=[(N,1)]) rfl n h1 my rfl (by show 1≤10;decide) (λi c t e1 e2=>?_) λH2 h2=>?_
   ·match i,e1,e2 with
    |0,e1,e2=>cases e1;cases e2;exact⟨V0,jT⟩
    |i+1,e1,_=>cases e1
   ·exact Ep (l:=[]) (r:=[N]) h2 je (jf V0 je) (by simp) (by simp) q
  ·rw[D0]at q;refine qz rfl n3 (qz rfl a3 (qz rfl c3 (Eo rfl ?_)));obtain⟨WS,g,hP⟩:=h1.w;have hl:WS.length=ws.length:=by rw[hP.1,bj]
   unfold J1;refine⟨_,rfl,.inl ⟨rfl,_,.of g⟩,V1 H1 (.refl _) _ (V0 H1 (.refl _) _ ⟨by show 2≤sizeLine;lia,λt ht=>?_⟩)⟩;have s1:=aL.upd (o:=.tup [.int ((N+1:Nat):Int),.int (N:Int)]) ht;refine⟨aw,WS,0,0,.ref t,rfl,rfl,rfl,s1 _ _ g,by lia,by lia,by lia,?_⟩;have h2:=(h1.grow s1).abj n (WS:=WS.take 0++.ref t::WS.drop 0) (JX:=(N+1,N)::ws) (jX.cons (.of (iI aX (h1.out ht))) (hP.mono (jW s1)));refine Ep (l:=[N]) (r:=[N+1]) h2 (jf V0 je) (jf V1 je) (by simp) (by simp) λt H' h3 hp=>q t H' ?_ hp;show fQ K _ _ ar am aw (rs++[]) _ _ H';rw[iK];exact h3
  ·have t1:x ≠ "times":=by rcases hx with rfl|rfl|rfl|rfl|rfl|rfl<;>assumption
   have t2:x ≠ "add":=by rcases hx with rfl|rfl|rfl|rfl|rfl|rfl<;>assumption
   have t3:x ≠ "none":=by rcases hx with rfl|rfl|rfl|rfl|rfl|rfl<;>assumption
   have t4:x ≠ "late":=by rcases hx with rfl|rfl|rfl|rfl|rfl|rfl<;>assumption
   refine qz rfl t1 (qz rfl t2 (qz rfl t3 (qz rfl t4 ?_)));refine abk hx λld t Hm sm hp=>?_;obtain⟨a,b,_,⟨nt,na,nb⟩,g1,g2,g3⟩:=hp.ex;have er:(cV x N).rules=[]:=by rcases hx with rfl|rfl|rfl|rfl|rfl|rfl<;>first|rw[xm] | rw[xn] | rw[xo] | rw[xp] | rw[xq] | rw[Af]
   have ew:(cV x N).ws=[]:=by rcases hx with rfl|rfl|rfl|rfl|rfl|rfl<;>first|rw[xm] | rw[xn] | rw[xo] | rw[xp] | rw[xq] | rw[Af]
   refine q t Hm ?_ ⟨t,a,b,rfl,.of (iI g1 (h1.out nt)),iI g2 (h1.out na),iI g3 (h1.out nb)⟩;rw[er,ew,iK,List.nil_append];exact h1.grow sm
theorem abm(F:cG K "_law_wired" "_law_wired" HZ f fd):bz P w K mg base bx 1 f fd ["word","factor","rules","many","waits"] (Ek K):=by
 refine F.ok JZ (λvs H Q E h=>?_) (λbI A outer s H vs Q E hr h=>?_)
 ·obtain⟨x,f,L,ar,am,aw,rs,N,ws,A,rfl,_⟩:=h;rfl
 ·obtain⟨x,f,L,ar,am,aw,rs,N,ws,A,rfl,hW,n,h,my,mn,hN,q⟩:=h;have sW:=Nat.lt_of_le_of_lt (Nat.add_le_add_left (show 1≤64 by decide) _) hr.units;refine⟨En K,?_,abl hW n h my mn q⟩;unfold En;refine bg ?_ ?_
  ·exact cm (i:=5) (te:=di K 3 0) JZ.nd rfl (.inl rfl) (bc (bV K rfl) (pv 3) aO (λ_ _=>rfl))
  refine bg ?_ ?_
  ·exact sj (te:=nK (di K 3 0) (tC (.int 3))) (aY dt (bc (bV K rfl) (pv 3) aO (λ_ _=>rfl)) aO) (Fp (pv 3) aO FU)
  refine bg ?_ ?_
  ·refine ee ?_ ?_ eK
   ·exact dg hI (pv 0) dH (de _)
   ·refine bg ?_ ?_
    ·dsimp only[tR,tP];exact md (mj jJ qF qG o7 (pv 2) (aJ (cZ (aJ (cE (aJ (pv 5) (aJ (pv 1) aQ))) (aJ (cE (aJ (aY dt (pv 5) aO) (aJ (pR pS aO) aQ))) aQ))) aQ))
    ·refine bQ ?_;exact cI (cE (aJ (cZ (aJ (pv 5) aQ)) (aJ (cZ (aJ (aY dt (pv 5) aO) aQ)) aQ)))
  refine bg ?_ ?_
  ·refine ee ?_ ?_ eK
   ·exact dg hI (pv 0) dH (de _)
   ·refine bg ?_ ?_
    ·dsimp only[tR,tP];exact md (mj jJ qF qG o7 (pv 2) (aJ (cZ (aJ (cE (aJ (pv 5) (aJ aO aQ))) (aJ (cE (aJ (aY dt (pv 5) aO) (aJ aO aQ))) (aJ (cE (aJ (aY dt (pv 5) aO) (aJ (pR pS aO) aQ))) aQ)))) aQ))
    ·refine bQ ?_;exact cI (cE (aJ (cZ (aJ (pv 5) (aJ (aY dt (pv 5) aO) aQ))) (aJ (cZ (aJ (aY dt (pv 5) aO) aQ)) aQ)))
  refine bg ?_ ?_
  ·refine ee ?_ ?_ eK
   ·exact dg hI (pv 0) dH (de _)
   ·refine bg ?_ ?_
    ·dsimp only[tR,tP];exact md (mj jJ qF qG o7 (pv 2) (aJ (cZ (aJ (cE (aJ (pv 5) (aJ aO aQ))) aQ)) aQ))
    ·refine bQ ?_;exact cI (cE (aJ (cZ aQ) (aJ (cZ (aJ (pv 5) aQ)) aQ)))
  refine bg ?_ ?_
  ·refine ee ?_ ?_ eK
   ·exact dg hI (pv 0) dH (de _)
   ·refine bg ?_ ?_
    ·unfold J1;exact md (mj jJ PySem.F.slot_list_insert PySem.F.type_list_insert XC (pv 4) (aJ aO (aJ (cE (aJ (aY dt (pv 5) aO) (aJ (pv 5) aQ))) aQ)))
    ·refine bQ ?_;exact cI (cE (aJ (cZ (aJ (pv 5) aQ)) (aJ (cZ (aJ (aY dt (pv 5) aO) aQ)) aQ)))
  unfold Em;refine bg ?_ ?_
  ·refine cm (i:=6) (te:=El) JZ.nd rfl (.inl rfl) ?_ ?_ ?_
   ·unfold El;refine XR ?_ ?_ ?_ ?_ ?_
    ·refine Co ?_ ?_ ?_
     ·exact dH
     ·exact cE (aJ (cZ (aJ (pv 5) aQ)) (aJ (cZ (aJ (pv 5) aQ)) aQ))
     refine Co ?_ ?_ ?_
     ·exact dH
     ·exact cE (aJ (cZ (aJ (pv 5) (aJ (aY dt (pv 5) aO) aQ))) (aJ (cZ (aJ (aY dt (pv 5) aO) (aJ (pv 5) aQ))) aQ))
     refine Co ?_ ?_ ?_
     ·exact dH
     ·exact cE (aJ (cZ (aJ (pv 5) aQ)) (aJ (cZ (aJ (pv 5) (aJ (pv 5) aQ))) aQ))
     refine Co ?_ ?_ ?_
     ·exact dH
     ·exact cE (aJ (cZ (aJ (pv 5) aQ)) (aJ (cZ aQ) aQ))
     exact XQ
    ·rfl
    ·rfl
    ·exact List.cons_ne_nil _ _
    ·exact Nat.le_of_ble_eq_true rfl
   ·rfl
   ·exact .inl rfl
  refine bg ?_ ?_
  ·exact Hs sW (pv 6) dH (cE (aJ (cZ aQ) (aJ (cZ (aJ (pv 5) (aJ (pv 5) aQ))) aQ))) rfl
  refine bg ?_ ?_
  ·exact Hs sW (pv 6) dH (cE (aJ (cZ aQ) (aJ (cZ aQ) aQ))) rfl
  refine bQ ?_;exact cI (Cm sW (pv 6) (pv 0) (λ_ _=>rfl))
end S21
namespace L2
open PySem PySem.Spec PyProof.Rows
variable{H H1:Hp}{ea:Addr}{h:Heap}
theorem eC.obj{P:Program}{w:World}{a:Addr}{o:HO}(x:eC P w H h a o):∃u,h.get? a=some u:=by
 cases o with
 |lst xs=>exact let ⟨_,_,_,_,e⟩:=x;⟨_,e⟩
 |tup xs=>exact let ⟨_,_,_,u,e,_⟩:=x;⟨u,e⟩
 |dK aU=>exact let ⟨_,_,_,_,u,_,_,e,_⟩:=x;⟨u,e⟩
 |dT aU=>exact let ⟨_,_,_,_,u,_,_,e,_⟩:=x;⟨u,e⟩
 |set S n=>exact let ⟨u,_,_,_,e,_⟩:=x;⟨u,e⟩
 |ins C dx fs=>exact let ⟨_,_,_,e,_⟩:=x;⟨_,e⟩
 |own y=>exact x
 |xd fs=>exact let ⟨_,⟨u,_,_,e,_⟩,_⟩:=x;⟨u,e⟩
 |Bh lo hi=>exact let ⟨_,_,_,e⟩:=x;⟨_,e⟩
 |jK ob u=>exact⟨_,x.1⟩
 |fh ps=>exact⟨_,x⟩
 |met f y=>exact⟨_,x⟩
 |ext φ=>exact x.2.1
noncomputable def Es(C a:Addr):HO:=.ext λh=>∃o,h.get? a=some o∧o.cls=.ref C
inductive vk(P:Program)(w:World)(C:Addr)(outer:List Env)(H:Hp)(s:Shared)(E:XK)(e:Value)(s':Shared):Prop where
 |mk (ea:Addr) (B:Heap) (a0:Value) (H':Hp) (q0:e=.ref ea) (q1:s'.os=s.os) (q2:AllBare s'.gens) (q3:Un (fj outer) [] H H' s.heap s'.heap) (q4:dG P w H' s'.heap)
   (q5:Heap.FlyingW B outer ea (.ref C) a0 s'.heap) (q6:∀b u,H' b=some u→∃o,B.get? b=some o)
   (q7:∀b o,s.heap.get? b=some o→b ∉ fj outer→∃o',B.get? b=some o'∧(H b=none→o'=o)) (q8:E (.ref C) none H'):vk P w C outer H s E e s'
section
variable{P:Program}{w:World}{fs Fc:List Addr}{H H1:Hp}{h h1 h2 B:Heap}
theorem Un.jF(u:Un Fc [] H H1 h h1)(k:B.StaysIn h2)(q7:∀b o,h.get? b=some o→b ∉ fs→∃o',B.get? b=some o'∧(H b=none→o'=o))
  (sl:∀b o,b∈fs→h.get? b=some o→∃z,h2.get? b=some { o with slots:=z }):Un fs [] H H1 h h2 where
 keep:=λb o q n hb _=>let ⟨o',e,z⟩:=q7 b o q hb;k b o (z n▸e)
 slot:=λb o q _ hb _=>sl b o hb q
 free:=u.free
 there:=λb o q _=>by
  by_cases hb:b∈fs
  ·exact let ⟨_,e⟩:=sl b o hb q;⟨_,e⟩
  ·exact let ⟨o',e,_⟩:=q7 b o q hb;⟨o',k b o' e⟩
 l7:=u.l7
 lC:=u.lC
 l8:=u.l8
theorem dG.jF(x:dG P w H h1)(q6:∀b u,H b=some u→∃o,B.get? b=some o)(k1:B.StaysIn h1)(k2:B.StaysIn h2):dG P w H h2:=λa o e=>
 (x a o e).oR (λb u hb q=>by
  have t:∃v,B.get? b=some v:=by
   rcases hb with rfl|hb
   ·exact q6 _ _ e
   ·exact q6 _ _ hb
  obtain⟨v,hv⟩:=t;have z:=k1 b v hv;rw[q]at z;cases z;exact k2 b _ hv) (λ_ q=>q) λ_ _ q=>q
end
theorem abn{l:List Env}:∀env∈l,∀a,env.frame=some a→a∈fj l:=λenv he a ha=>List.mem_filterMap.mpr ⟨env,he,ha⟩
section
variable{P:Program}{w:World}{K:Frag}{mg:Str→Option Value}{base:Heap}{N:List Str}{qual:Str}{scope:Scope}{f C:Addr}{cd:Value}{A:Around}{outer:List Env}{s:Shared}{H:Hp}{E:XK}
theorem abo{aH:List (Addr×Obj)}{σ:St}{s1:Shared}{h':Heap}{us:List Value}(I:Inv (km (vk P w C) P w K mg base N qual scope f cd A outer s H E) aH σ H1 s1)
  (hx:Heap.MadeExcOf s1.heap h' ea (.ref C) us) (hE:E (.ref C) none H1):(km (vk P w C) P w K mg base N qual scope f cd A outer s H E).xe (.ref ea) { s1 with heap:=h' }:=by
 have se:=I.stack;have J3:=I.Bk;have Et:Un (fj outer) [] H H1 s.heap s1.heap:=I.base;have abp:s1.heap.FunFrames base outer:=I.nj;have Rk:dG P w H1 s1.heap:=I.bH;have os1:s1.os=s.os:=I.os;have J4:(A.deeper (envOfC qual scope s.heap.objs.size f cd)).frames=some (envOfC qual scope s.heap.objs.size f cd::outer):=I.ok.frames;have bare:=I.bare;replace se:s1.heap.FunFrames base (envOfC qual scope s.heap.objs.size f cd::outer):=se;replace J3:∀b∈fj (envOfC qual scope s.heap.objs.size f cd::outer),H1 b=none:=J3;have ig:∀b,b∈fj (envOfC qual scope s.heap.objs.size f cd::outer)→b=s.heap.objs.size∨b∈fj outer:=λb hb=>cS.mp hb;refine wpAny_leaves_madeW (base:=PySem.W.hideAll s1.heap (fj (envOfC qual scope s.heap.objs.size f cd::outer))) (h:=s1.heap) J4 rfl (λb o q=>PySem.W.of_hideAll _ q) (PySem.W.funFrames_hide se abn) hx λh2 t jF _ _ up=>?_;have q7:∀b o,s.heap.get? b=some o→b ∉ fj outer→∃o',(PySem.W.hideAll s1.heap (fj (envOfC qual scope s.heap.objs.size f cd::outer))).get? b=some o'∧(H b=none→o'=o):=λb o q hb=>by
  obtain⟨o1,e1⟩:=Et.there b o q (by simp);refine⟨o1,PySem.W.hideAll_get _ e1 λz=>(ig b z).elim (gU (dN q)) hb,λn=>?_⟩;have e2:=Et.keep b o q n hb (by simp);rw[e1]at e2;exact cN e2
 have q6:∀b u,H1 b=some u→∃o,(PySem.W.hideAll s1.heap (fj (envOfC qual scope s.heap.objs.size f cd::outer))).get? b=some o:=λb u e=>by
  obtain⟨o,q⟩:=(Rk b u e).obj;exact⟨o,PySem.W.hideAll_get _ q λz=>by rw[J3 b z]at e;cases e⟩
 refine⟨ea,_,_,H1,rfl,os1,bare,Un.jF Et jF.1 q7 (λb o hb q=>?_),dG.jF Rk q6 (λb o q=>PySem.W.of_hideAll _ q) jF.1,jF,q6,q7,hE⟩;obtain⟨_,o2,uk,nf⟩:=abp.mem hb;obtain⟨z,e1⟩:=Et.any q (by
  have:=I.ok.sf b hb
  exact this) (by simp)
 rw[uk]at e1;cases e1;obtain⟨z2,e3⟩:=up b _ (hx.keeps b _ uk) nf;exact⟨z2,e3⟩
end
section
variable{P:Program}{w:World}{K:Frag}{mg:Str→Option Value}{base:Heap}
theorem cG.okX{CX:oY}{x qual:Str}{st:Stmt}{f:Addr}{fd:FuncData}{N ps:List Str}{k:Nat}{sp:Sp}(F:cG K x qual st f fd)(S:dj N ps (bo st))(len:∀vs H Q E,sp vs H Q E→vs.length=ps.length)
  (hb:∀(bI:Value)(A:Around)(outer:List Env)(s:Shared)(H:Hp)(vs:List V)(Q:VK)(E:XK),dP k (A.deeper (envOfC qual (bo st) s.heap.objs.size f bI))→sp vs H Q E→
   ∃t,jl (km CX P w K mg base N qual (bo st) f bI A outer s H E) (j8 st) t∧t { nx:=λ_ H'=>Q .cg H',rt:=Q } (start N vs) H):bz P w K mg base CX (k+1) f fd ps sp:=by
 obtain⟨oc,od,kV,doc,pm,an,bI,ct,nv,rfl,lk,gI⟩:=F.ex;exact FO lk gI S len λA outer s H vs Q E hr i4=>hb bI A outer s H vs Q E hr i4
end
theorem abq{K:Frag}{C:Addr}{AD:List Value}{newId:String}(X:K.In h)(q:PySem.W.excIn K C AD newId=true) :
  ∃bm N nm q bs hdct sn sub ab col dd k0 k1 k2 k3 k5 mN,h.get? C=some (excClassObj nm q C N bs bm hdct sn sub ab col dd k0 k1 k2 k3 k5 newId)∧h.Ns N mN∧mN "__init__"=none∧OwnTail h AD bm:=by
 unfold PySem.W.excIn at q;split at q
 case h_2=>exact nomatch q
 case h_1 dd cd sl ho=>
  split at q
  case h_2=>exact nomatch q
  case h_1 C' bm k0 k1 k2 k3 n k5 hm hs=>
   rw[fg,fg,fg,fg,fg]at q;obtain⟨⟨⟨⟨⟨e1,e2⟩,e3⟩,e4⟩,e5⟩,e6⟩:=q;have e1:C'=C:=beq_iff_eq.mp e1;have e2:n=newId:=beq_iff_eq.mp e2;have e3:cd.hasDel=false:=by simpa using e3
   have e6:=beq_iff_eq.mp e6;subst e1 e2;obtain⟨nm,bs,mr,ns,qn,hd,sn,sub,ab,col,dl⟩:=cd;have hm:mr=.ref C'::bm:=hm;have e3:dl=false:=e3;have es:sl=#[k0,k1,k2,k3,some (.builtin n),k5]:=Array.toList_inj.mp hs;subst hm e3 es;exact⟨bm,ns,nm,qn,bs,hd,sn,sub,ab,col,dd,k0,k1,k2,k3,k5,_,X _ _ ho,.of_isNs (PySem.W.isNs_of_in X e5),PySem.W.nsMap_none_of_in X e5 e6,PySem.W.tail_of_in X e4⟩
section
variable{X:Cx}{x:Str}{np eO pos:Pos}{C:Addr}{AD:List Value}{B newId abr:String}{e₀:Expr}{dZ:List Expr}{t:TA}{E:XK}
theorem abt(hc:X.calm=true)(hg:Gl X x)(hmC:X.mg x=some (.ref C))(ig:PySem.W.excIn X.K C AD newId=true)(FB:ExcBaseFacts B newId abr AD)(ha:PA X (e₀::dZ) t)
  (hE:∀{aH:List (Addr×Obj)}{σ:St}{H:Hp}{s:Shared}{h':Heap}{ea:Addr}{us:List Value},Inv X aH σ H s→Heap.MadeExcOf s.heap h' ea (.ref C) us→E (.ref C) none H→X.xe (.ref ea) { s with heap:=h' })
  (hd:(x==("__debug__":Str))=false:=by decide) (he:starEach (e₀::dZ) X.env=(false,eval e₀ X.env)::starEach dZ X.env:=by rfl) (i3:(backTo eO (starEach dZ X.env)).any (·.1)=false:=by rfl) :
  PS X (.Raise (some (.Call (.Name x np) (e₀::dZ) [] eO)) none pos) (λ_ σ H=>t σ H λvs H1=>vs.length≤sizeLine∧E (.ref C) none H1):=by
 intro aH s σ H D I h;obtain⟨bm,N,nm,q,bs,hdct,sn,sub,ab,col,dd,k0,k1,k2,k3,k5,mN,hC,hN,J5,T⟩:=abq I.ok.mod.qI ig;have hh:=I.ok.hd hc;have hpp:(backTo eO (starEach (e₀::dZ) X.env)).any (·.1)=false:=by rw[he];exact i3
 refine wpAny_Raise_call_subT (nm:=nm) (q:=q) (C:=C) (N:=N) (bs:=bs) (bm:=bm) (hdct:=hdct) (sn:=sn) (sub:=sub) (ab:=ab) (col:=col) (dd:=dd) (k0:=k0) (k1:=k1) (k2:=k2) (k3:=k3) (k5:=k5) (mN:=mN) FB (T.hasType FB.hasBase) hh hpp J5 ?_;refine yh I hg hmC ⟨rfl,?_⟩ hd;have gT:=ha eO aH s σ H _ I h;rw[he]at gT ⊢;exact Calls.evalArgs_plain (bf gT λus s1 ⟨vs,H1,I1,r,z,q1⟩=>⟨rfl,r.length▸z,I1.bk _ _ hC,hN.keeps I1.bk,T.keeps I1.bk,λh' e hm=>hE I1 hm q1⟩)
end
noncomputable def Rl(b:Bool)(K:Frag)(a:Addr):It:=match b with
 |true=>qP K a
 |false=>uh K a
def iSq(b:Bool)(K:Frag)(tl:TE):TI:=λσ H R=>tl σ H λx H1=>∃a,x=.ref a∧(∃xs,Sq b K H1 a xs)∧R (Rl b K a) H1
theorem Rm{X:Cx}(K:Frag)(hK:X.K=K)(b:Bool){tg l:Expr}{tl:TE}(hl:PE X l tl):PI X tg l (iSq b K tl):=by
 cases b with
 |true=>exact lI K hK hl
 |false=>exact lJ K hK hl
theorem Rn{b:Bool}{K:Frag}{a:Addr}{xs:List V}{tt:TT}{te:TE}{Q:VK}{cp:St}(Pv:Nat→Hp→List V→Prop)(hq:Sq b K H1 a xs)(hz:xs.length≤sizeLine)(h0:Pv 0 H1 [])(cO:∀i H zs,Pv i H zs→zs.length≤i)
  (step:∀i x H zs,xs[i]?=some x→aL H1 H→Pv i H zs→tt (some x::cp) H λc H4=>if c=true then te (some x::cp) H4 λv H5=>mw 1 cp H1 (Pv (i+1)) (some x::cp) H5 (zs++[v])else mw 1 cp H1 (Pv (i+1)) (some x::cp) H4 zs)
  (done:∀H zs,aL H1 H→Pv xs.length H zs→∀p,H p=none→Q (.ref p) (upd H p (.lst zs))) :
  ∃W:Nat→Nat→St→Hp→List V→Prop,(∃m,W 0 m (List.replicate 1 none++cp) H1 [])∧mq (Rl b K a) (cq 0) tt te Q W:=by
 cases b with
 |true=>exact pZ Pv hq hz h0 cO step done
 |false=>exact ux Pv hq hz h0 cO step done
open PySem.W (Looks)
open PySem.Builtin PySem.Builtin.ObjectAttr PySem.Builtin.Getset_descriptor
theorem abu{P:Program}{w:World}{C:Addr}{o:Obj}(x:dG P w H h)(hn:H ea=none)(e:h.get? ea=some o)(c:o.cls=.ref C):dG P w (upd H ea (Es C ea)) h:=λb u q=>by
 by_cases hb:b=ea
 ·subst hb;rw[aX]at q;cases q;exact⟨⟨o,e,c⟩,⟨o,e⟩,λh1 h2 ⟨o1,z1,z2⟩ k=>⟨o1,k o1 z1,z2⟩⟩
 ·rw[bZ hb]at q;exact(x b u q).oR (λ_ _ _ z=>z) (λc z=>by rw[bZ (eQ z hn)];exact z) λc xs z=>by rw[bZ (eQ z hn)];exact z
theorem Un.more{fs:List Addr}{h1:Heap}{u:HO}(x:Un fs [] H H1 h h1)(hn:H1 ea=none)(cB:∀b o,h.get? b=some o→H b=none→b≠ea):Un fs [] H (upd H1 ea u) h h1 where
 keep:=x.keep
 slot:=x.slot
 free:=λb o q n z=>by rw[bZ (cB b o q n)];exact x.free b o q n z
 there:=x.there
 l7:=λb xs q=>by rw[bZ (eQ (x.l7 b xs q) hn)];exact x.l7 b xs q
 lC:=λb o xs q=>by rw[bZ (eQ (x.lC b o xs q) hn)];exact x.lC b o xs q
 l8:=λb ps q=>let ⟨m,z⟩:=x.l8 b ps q;⟨m,by rw[bZ (eQ z hn)];exact z⟩
section
variable{X:Cx}{C W ea:Addr}{aH:List (Addr×Obj)}{σ:St}{H1 H':Hp}{s1 s':Shared}{B:Heap}{a0:Value}
theorem Inv.Ro{h2:Heap}{tk:Nat}(I:Inv X aH σ H1 s1)(os:s'.os=s1.os)(bare:AllBare s'.gens)(un:Un (fj X.stack) [] H1 H' s1.heap s'.heap)(bH:dG X.prog X.w H' s'.heap)(jF:Heap.FlyingW B X.stack ea (.ref C) a0 s'.heap)
  (q6:∀b u,H' b=some u→∃o,B.get? b=some o) (q7:∀b o,s1.heap.get? b=some o→b ∉ fj X.stack→∃o',B.get? b=some o'∧(H1 b=none→o'=o))
  (J6:Heap.FlyingW B X.stack ea (.ref C) a0 h2) (up:s'.heap.UpToSlots h2):H' ea=none∧Inv X aH σ H' { s' with heap:=h2,toks:=tk }∧Inv X aH σ (upd H' ea (Es C ea)) { s' with heap:=h2,toks:=tk }:=by
 have hB:B.get? ea=none:=jF.2.1;have hn:H' ea=none:=by
  cases e:H' ea with
  |none=>rfl
  |some u=>
   obtain⟨o,z⟩:=q6 _ _ e;rw[hB]at z;cases z
 have cB:∀b o,s1.heap.get? b=some o→H1 b=none→b≠ea:=λb o q _ z=>by
  subst z;by_cases hb:b∈fj X.stack
  ·obtain⟨_,o1,e1,nf⟩:=jF.2.2.1.mem hb;obtain⟨oe,vs,_,_,_,e2,_,hd,_⟩:=jF.2.2.2;rw[e1]at e2;cases e2;exact nf vs hd
  ·obtain⟨o',e,_⟩:=q7 b o q hb;rw[hB]at e;cases e
 have u2:Un (fj X.stack) [] H1 H' s1.heap h2:=Un.jF un J6.1 q7 λb o hb q=>by
  obtain⟨z1,e1⟩:=un.any q (I.Bk b hb) (by simp);obtain⟨_,o3,Rp,nf⟩:=jF.2.2.1.mem hb;rw[Rp]at e1;cases e1;exact let ⟨z3,e3⟩:=up b _ Rp nf;⟨z3,e3⟩
 have k2:=dG.jF bH q6 jF.1 J6.1;obtain⟨oe,he,hc⟩:=J6.there;have no:∀b∈([]:List Addr),(b∈X.ex∨X.s₀.heap.objs.size≤b)∧b≠X.env.locals∧(∀x c,X.env.cells.lookup x=some c→c≠b)∧∀p∈X.pn++aH,p.1≠b:=λb z=>nomatch z;exact⟨hn,I.Fh (s':={ s' with heap:=h2,toks:=tk }) os u2 k2 bare no,I.Fh (s':={ s' with heap:=h2,toks:=tk }) os (u2.more hn cB) (abu k2 hn he hc) bare no⟩
end
section
variable{X:Cx}{C W f:Addr}{k:Nat}{fd:FuncData}{ps:List Str}{sp:Sp}{x wn n y:Str}{p cp ep wp np yp ap hp pos:Pos}{e:Expr}{es:List Expr}{t:TA}{ix ie:Nat}
end
structure abv(K:Frag)(C:Addr):Prop where
 cls:(PySem.W.clsIn K C).isSome=true
 ga:PySem.W.findIn K (.ref C) "__getattribute__"=some (some (.builtin "BaseException.__getattribute__"))
 gt:PySem.W.findIn K (.ref C) "__getattr__"=some none
 cl:PySem.W.findIn K (.ref C) "__class__"=some (some (.builtin "object.__class__"))
 gn:PySem.W.specialIn K (.builtin "object.__class__") "__get__"=some (some (.builtin "getset_descriptor.__get__"))
 tk:PySem.W.takesIn K (.builtin "object.__class__")=some true
 mo:PySem.W.mroIn K C (.type "object")=some true
 mb:PySem.W.mroIn K C (.type "BaseException")=some true
section
variable{prog:Program}{w:World}{A:Around}{E:QV}{K:Frag}{C a:Addr}
end
section
variable{X:Cx}(K:Frag)(hK:X.K=K)
include hK
theorem abw{T:String}:jL X (.builtin "isinstance") (λxs H Q=>∃x b,xs=[.str x,.ty T]∧kitOne K (.type "str") (.type T)=some b∧Q (.bl b) H):=by
 subst hK;intro aH s σ H vs us Q I r ⟨x,b,e,k,q⟩;exact GZ aH s σ H vs us Q I r ⟨_,_,b,e,.str x,k,q⟩
end
end L2
namespace S21
open PySem L2 Bw
variable{A C:Net}{D:Ends}{f:Addr}{fd:FuncData}{ns:List Net}{p:Int}{dy s7 s8 s9:Option V}{u:TS}{v:V}{x:Str}{σ:St}
theorem abx{X:Cx}(K:Frag)(hK:X.K=K){T:String}:jL X (.builtin "isinstance") (λxs H Q=>∃(x:V)(b:Bool),xs=[x,.ty T]∧((∃i,x=.int i∧kitOne K (.type "int") (.type T)=some b)∨∃s,x=.str s∧kitOne K (.type "str") (.type T)=some b)∧Q (.bl b) H):=by
 rintro aH s σ H vs us Q I r ⟨x,b,e,h|h,q⟩
 ·obtain⟨i,rfl,k⟩:=h;exact W6 K hK aH s σ H vs us Q I r ⟨i,b,e,k,q⟩
 ·obtain⟨y,rfl,k⟩:=h;exact abw K hK aH s σ H vs us Q I r ⟨y,b,e,k,q⟩
structure FN where
 parts:List Net
 rules:List iu
 ws:List (Nat×Nat)
 N:Nat
noncomputable def cb:List Itm→FN
 | []=>⟨[],[],[],0⟩
 | .num _::ts=>cb ts
 | .bu d::ts=>⟨(aV d (cb ts).N).1::(cb ts).parts,(cb ts).rules++(aV d (cb ts).N).1.rules,(aV d (cb ts).N).1.ws++(cb ts).ws,(aV d (cb ts).N).2⟩
theorem Rq(xs ys:List Nat):(jV xs ys).length=min xs.length ys.length:=by unfold jV;rw[List.length_zipWith]
theorem aby(x:Str)(N:Nat):(cV x N).rules.length≤1:=by
 unfold cV
 repeat' split
 all_goals simp
section
variable{p:Int}
theorem vm:∀{d:Drw}{N:Nat},d.cK p→2*(aV d N).1.rules.length+d.aI+d.aM≤6*d.aR.length∧(aV d N).2≤N+3*d.aR.length
 | .box x l r aN,N,h=>by
  have hl:l≤2∧r≤2:=by
   rcases h with h|⟨_,h2,h3⟩
   ·obtain⟨h1,h2,_⟩:=uT _ h;exact⟨h1,h2⟩
   ·lia
  have:=aby x N
  exact⟨by show 2*(cV x N).rules.length+l+r≤6*1;lia,by show N+3≤N+3*1;lia⟩
 | .times n,N,_=>⟨by show 2*1+1+1≤6*2;decide,by show N+3≤N+3*2;lia⟩
 | .back d,N,h=>by
  obtain⟨a,b⟩:=vm (d:=d) (N:=N) h;have e:(Drw.back d).aR.length=d.aR.length+1:=by show(V.str "back"::d.aR).length=_;rw[dB]
  rw[e];exact⟨by show 2*(aV d N).1.rules.length+d.aM+d.aI≤_;lia,by show(aV d N).2≤_;lia⟩
 | .cJ x y,N,h=>by
  obtain⟨a,b⟩:=vm (d:=y) (N:=N) h.2;obtain⟨a',b'⟩:=vm (d:=x) (N:=(aV y N).2) h.1;have e:(Drw.cJ x y).aR.length=x.aR.length+y.aR.length+1:=by show(V.str "beside"::(x.aR++y.aR)).length=_;rw[dB,cx]
  rw[e];refine⟨?_,by show(aV x (aV y N).2).2≤_;lia⟩;show 2*((aV y N).1.rules++(aV x (aV y N).2).1.rules).length+(x.aI+y.aI)+(x.aM+y.aM)≤_;rw[cx];lia
 | .bf x y,N,h=>by
  obtain⟨a,b⟩:=vm (d:=y) (N:=N) h.2.1;obtain⟨a',b'⟩:=vm (d:=x) (N:=(aV y N).2) h.1;obtain⟨_,l2,_⟩:=jD (d:=x) (N:=(aV y N).2) h.1;have hm:=h.2.2;have e:(Drw.bf x y).aR.length=x.aR.length+y.aR.length+1:=by show(V.str "then"::(x.aR++y.aR)).length=_;rw[dB,cx]
  rw[e];refine⟨?_,by show(aV x (aV y N).2).2≤_;lia⟩;show 2*((aV y N).1.rules++(aV x (aV y N).2).1.rules++jV (aV x (aV y N).2).1.r (aV y N).1.l).length+x.aI+y.aM≤_;rw[cx,cx,Rq];lia
theorem J7:∀{ts:List Itm},(∀t∈ts,t.cK p)→(cb ts).rules.length≤3*(ts.flatMap Itm.aR).length∧(cb ts).N≤3*(ts.flatMap Itm.aR).length∧2*(cb ts).ws.length≤2*(ts.flatMap Itm.aR).length∧(cb ts).parts.length≤(ts.flatMap Itm.aR).length
 | [],_=>⟨cf 0,cf 0,cf 0,cf 0⟩
 | .num n::ts,h=>by
  obtain⟨a,b,c,e⟩:=J7 (ts:=ts) λt ht=>h t (dU _ ht);have ew:((Itm.num n::ts).flatMap Itm.aR).length=(ts.flatMap Itm.aR).length+1:=by
   rw[xY,cx];show 1+_=_;lia
  rw[ew];exact⟨by show(cb ts).rules.length≤_;lia,by show(cb ts).N≤_;lia,by show 2*(cb ts).ws.length≤_;lia,by show(cb ts).parts.length≤_;lia⟩
 | .bu d::ts,h=>by
  obtain⟨a,b,c,e⟩:=J7 (ts:=ts) λt ht=>h t (dU _ ht);have hd:=(h (.bu d) cP).1;obtain⟨f1,f2⟩:=vm (d:=d) (N:=(cb ts).N) hd;obtain⟨_,_,l3⟩:=jD (d:=d) (N:=(cb ts).N) hd;obtain⟨g1,_⟩:=lV hd;have ew:((Itm.bu d::ts).flatMap Itm.aR).length=d.aR.length+(ts.flatMap Itm.aR).length:=by
   rw[xY,cx];rfl
  have dp:=d.pos;rw[ew];refine⟨?_,by show(aV d (cb ts).N).2≤_;lia,?_,?_⟩
  ·show((cb ts).rules++(aV d (cb ts).N).1.rules).length≤_;rw[cx];lia
  ·show 2*((aV d (cb ts).N).1.ws++(cb ts).ws).length≤_;rw[cx,l3];lia
  ·show(cb ts).parts.length+1≤_;lia
theorem abz{l r:Nat}{aN:LL}(h:(x,l,r,aN)∈e8):(x="add"∨x="none"∨x="late"∨x="id"∨x="swap"∨x="copy"∨x="end"∨x="cup"∨x="empty"):=
 D3 (C:=λx _ _ _=>x="add"∨x="none"∨x="late"∨x="id"∨x="swap"∨x="copy"∨x="end"∨x="cup"∨x="empty") h (.inr (.inr (.inr (.inl rfl)))) (.inr (.inr (.inr (.inr (.inl rfl))))) (.inr (.inr (.inr (.inr (.inr (.inl rfl)))))) (.inr (.inr (.inr (.inr (.inr (.inr (.inl rfl))))))) (.inl rfl) (.inr (.inl rfl)) (.inr (.inr (.inr (.inr (.inr (.inr (.inr (.inl rfl)))))))) (.inr (.inr (.inr (.inr (.inr (.inr (.inr (.inr rfl))))))))
theorem abA(h:x="add"∨x="none"∨x="late"∨x="id"∨x="swap"∨x="copy"∨x="end"∨x="cup"∨x="empty"):x ≠ "back"∧x ≠ "beside"∧x ≠ "then":=by
 rcases h with rfl|rfl|rfl|rfl|rfl|rfl|rfl|rfl|rfl<;>decide +kernel
end
def kZ(K:Frag)(H:Hp)(PS:List V)(ns:List Net):Prop:=PS.length=ns.length∧∀(i:Nat)(v:V)(A:Net),PS[i]?=some v→ns[i]?=some A→oH K H v A.l A.r
section
variable{K:Frag}{B H H':Hp}
theorem kZ.mono{PS:List V}{ns:List Net}(h:kZ K H PS ns)(s:aL H H'):kZ K H' PS ns:=⟨h.1,λi v A e1 e2=>(h.2 i v A e1 e2).mono s⟩
theorem kZ.nil:kZ K H [] []:=⟨rfl,λi v A e=>by cases e⟩
theorem kZ.snoc{PS:List V}(h:kZ K H PS ns)(hv:oH K H v A.l A.r):kZ K H (PS++[v]) (ns++[A]):=by
 refine⟨by rw[cx,cx,h.1];rfl,λi u C e1 e2=>?_⟩;by_cases hi:i<PS.length
 ·rw[iA hi]at e1;rw[iA (by rw[← h.1];exact hi)]at e2;exact h.2 i u C e1 e2
 ·rw[iL (by lia)]at e1;rw[iL (by rw[← h.1];lia),← h.1]at e2;generalize i-PS.length=j at e1 e2;cases j with
  |zero=>cases e1;cases e2;exact hv
  |succ j=>cases e1
theorem kZ.init{PS:List V}(h:kZ K H PS (ns++[A])):∃jg v,PS=jg++[v]∧kZ K H jg ns∧oH K H v A.l A.r:=by
 have ne:PS≠[]:=λe=>by have:=h.1;rw[e]at this;simp at this
 obtain⟨jg,v,rfl⟩:∃jg v,PS=jg++[v]:=⟨PS.dropLast,PS.getLast ne,(List.dropLast_concat_getLast ne).symm⟩;have l:jg.length=ns.length:=by have:=h.1;simpa using this
 refine⟨jg,v,rfl,⟨l,λi u C e1 e2=>h.2 i u C ?_ ?_⟩,h.2 jg.length v A (by simp) (by rw[l];simp)⟩
 ·rw[iA (dO.mp e1).1];exact e1
 ·rw[iA (dO.mp e2).1];exact e2
theorem abB{L M:List Addr}(hM:∀x∈M,x∈L)(s:aL (cM M H) H'):aL (cM L H) (cM L H'):=λb o e=>by
 have z:=oG e;refine iI (s b o (iI z.2 λhb=>z.1 (hM b hb))) z.1
structure gu(K:Frag)(B:Hp)(ap ar am aw bK:Addr)(ws:List V)(F:FN)(H:Hp):Prop where
 n:fQ K B [ap,ar,am,aw] ar am aw F.rules F.N F.ws H
 ba:B ap=none
 bw:B bK=some (.tup ws)
 p:∃PS,H ap=some (.lst PS)∧kZ K (cM [ap,ar,am,aw] H) PS F.parts.reverse
structure rX(ap ar am aw:Addr):Prop where
 t:rT [ap,ar,am,aw] ar am aw
 a1:ap≠ar
 a2:ap≠am
 a3:ap≠aw
variable{ap ar am aw bK:Addr}{ws:List V}{F:FN}
theorem gu.grow(h:gu K B ap ar am aw bK ws F H)(s:aL H H'):gu K B ap ar am aw bK ws F H':=⟨h.n.grow s,h.ba,h.bw,let ⟨PS,g,k⟩:=h.p;⟨PS,s _ _ g,k.mono (jW s)⟩⟩
theorem gu.vn(h:gu K B ap ar am aw bK ws F H)(n:rX ap ar am aw){PS:List V}(hk:kZ K (cM [ap,ar,am,aw] H) PS ns.reverse):gu K B ap ar am aw bK ws ⟨ns,F.rules,F.ws,F.N⟩ (upd H ap (.lst PS)):=by
 have ha:ap∈[ap,ar,am,aw]:=cP;refine⟨⟨h.n.b,vi h.n.sm h.ba,Ei h.n.al,?_,by rw[bZ n.a2.symm];exact h.n.m,?_⟩,h.ba,h.bw,⟨PS,aX,by rw[lW ha];exact hk⟩⟩
 ·obtain⟨RS,g,k⟩:=h.n.r;exact⟨RS,by rw[bZ n.a1.symm];exact g,by rw[lW ha];exact k⟩
 ·obtain⟨WS,g,k⟩:=h.n.w;exact⟨WS,by rw[bZ n.a3.symm];exact g,by rw[lW ha];exact k⟩
end
noncomputable abbrev Rr:List Str:=["words","rules","many","waits","parts","at","word","left","right","one","other"]
theorem qA:dj Rr ["words","rules","many","waits"] (bo CQ):=dQ rfl rfl rfl (by decide +kernel) rfl
theorem abC:(["k","one","other"]:List Str).Nodup:=by decide +kernel
abbrev tS(x:Str):TT:=jm (cA qS (aW 6) (tC (.str x)))
abbrev tT(K:Frag):TE:=FW K "list" F0 (aW 4)
abbrev Eu(K:Frag)(te:TE):TS:=yi (uq K "list" BK (aW 4) (aZ te bG))
abbrev rY(K:Frag)(i n:Nat):TE:=cA (pV K) (aW i) (tC (.int (n:Int)))
def AE(K:Frag):TS:=cy (dC (tT K) (yj K 2 (si (cq 7) (si (cq 8) Bp)))) (Eu K (eS (aZ (aW 8) (aZ (aW 7) bG))))
def AF(K:Frag):TS:=cy (dC (tT K) (cq 9)) (cy (dC (tT K) (cq 10)) (Eu K (eS (aZ (cA so (rY K 9 0) (rY K 10 0)) (aZ (cA so (rY K 9 1) (rY K 10 1)) bG)))))
def J8(K:Frag):TE:=jM (tP [(cA (pU K) (rY K 1 1) (aW 0),tC (.int 1)),(cA (pU K) (rY K 2 0) (aW 0),xA)])
def Ew(K:Frag):TE:=j9 (Bs (aZ (lD (λxs H Q=>∃p ys,xs=[.ref p]∧(dw K H p ys∨bh K H p ys)∧Q (.int ys.length) H) (aZ (rY K 9 1) bG)) bG)) 1 [9,10] (cq 0) iP (J8 K)
def AG(K:Frag):TS:=cy (dC (tT K) (cq 9)) (cy (dC (tT K) (cq 10)) (cy (yi (uq K "list" FY (aW 1) (aZ (Ew K) bG))) (Eu K (eS (aZ (rY K 9 0) (aZ (rY K 10 1) bG))))))
def Ex(K:Frag):TE:=cA (pV K) (cA qq (aW 0) (eS (aZ (tC (.int 0)) bG))) (nK (aW 5) (tC (.int 1)))
def AH(K:Frag):TS:=Eu K (iY (Ek K) [] E0 (aZ (aW 6) (aZ (Ex K) (aZ (aW 1) (aZ (aW 2) (aZ (aW 3) bG))))))
def J9(K:Frag):TT:=Fl (tB (lD (λxs H Q=>∃(x:V)(b:Bool),xs=[x,.ty "int"]∧((∃i,x=.int i∧kitOne K (.type "int") (.type "int")=some b)∨∃s,x=.str s∧kitOne K (.type "str") (.type "int")=some b)∧Q (.bl b) H) (aZ (aW 6) (aZ (tC (.ty "int")) bG))))
def Ey(K:Frag):TS:=cy (dC (cA (pV K) (aW 0) (aW 5)) (cq 6)) (dW (tS "back") (AE K) (dW (tS "beside") (AF K) (dW (tS "then") (AG K) (dW (J9 K) (AH K) gi))))
def Ez(K:Frag):TS:=cy (dC (jM bG) (cq 4)) (cy (L7 (OD (aZ (Ef (lD (λxs H Q=>∃p ys,xs=[.ref p]∧(dw K H p ys∨bh K H p ys)∧Q (.int ys.length) H) (aZ (aW 0) bG)) (tC (.int 1))) (aZ xA (aZ xA bG)))) (cq 5) (Ey K)) (eh (di K 4 0)))
def Rt(K:Frag):Sp:=λvs H Q _=>∃(p:Int)(bK ar am aw:Addr)(d:Drw),vs=[.ref bK,.ref ar,.ref am,.ref aw]∧d.cK p∧d.sm∧d.aR.length≤170∧H bK=some (.tup d.aR)∧rT [ar,am,aw] ar am aw∧fQ K (cM [ar,am,aw] H) [ar,am,aw] ar am aw [] 0 [] H∧
 ∀t H',fQ K (cM [ar,am,aw] H) [ar,am,aw] ar am aw (aV d 0).1.rules (aV d 0).2 (aV d 0).1.ws H'→oH K (cM [ar,am,aw] H') (.ref t) (aV d 0).1.l (aV d 0).1.r→Q (.ref t) H'
theorem Ka{H:Hp}{ap:Addr}{PS:List V}{Q:VK}(h4:σ[4]?=some (some (.ref ap)))(g:H ap=some (.lst (PS++[v])))(q:Q v (upd H ap (.lst PS))):tT K σ H Q:=by
 refine⟨_,h4,.inl ⟨rfl,_,.of g⟩,ap,PS++[v],v,rfl,rfl,g,by simp,?_⟩;rw[List.dropLast_concat];exact q
variable{B H:Hp}{ap ar am aw bK:Addr}{ws:List V}{F:FN}
noncomputable abbrev pA(bK ar am aw ap:Addr)(k:Nat)(v:V)(s7 s8 s9 dy:Option V):St:=[some (.ref bK),some (.ref ar),some (.ref am),some (.ref aw),some (.ref ap),some (.int (k:Int)),some v,s7,s8,s9,dy]
theorem abD{k:Nat}(n:rX ap ar am aw)(h:gu K B ap ar am aw bK ws F H)(hp:F.parts=A::ns)(hl:F.parts.length≤1000)
  (q:∀s7 s8 H',gu K B ap ar am aw bK ws ⟨⟨A.r,A.l,A.rules,A.ws⟩::ns,F.rules,F.ws,F.N⟩ H'→D.nx (pA bK ar am aw ap k v s7 s8 s9 dy) H'):AE K D (pA bK ar am aw ap k v s7 s8 s9 dy) H:=by
 have z:(2000:Nat)≤sizeLine:=by decide
 obtain⟨PS,g,hP⟩:=h.p;rw[hp,ua]at hP;obtain⟨jg,u,rfl,xD,t,a,b,rfl,ht,ha,hb⟩:=hP.init;unfold AE;refine Ka rfl g ?_;have h1:=h.vn n (PS:=jg) (ns:=ns) xD;have e:cM [ap,ar,am,aw] (upd H ap (.lst jg))=cM [ap,ar,am,aw] H:=lW cP;have g1:(upd H ap (.lst jg)) ap=some (.lst jg):=aX;have uN:bh K (upd H ap (.lst jg)) t [.ref a,.ref b]:=aL.bq (by rw[← e];exact vh) ht;have pB:kZ K (cM [ap,ar,am,aw] (upd H ap (.lst jg))) jg ns.reverse:=by rw[e];exact xD
 have zt:cM [ap,ar,am,aw] (upd H ap (.lst jg)) a=some (.lst (cD A.l)):=by rw[e];exact ha
 have Ru:cM [ap,ar,am,aw] (upd H ap (.lst jg)) b=some (.lst (cD A.r)):=by rw[e];exact hb
 generalize upd H ap (.lst jg)=H1 at h1 e g1 uN pB zt Ru ⊢;refine⟨t,_,rfl,uN,rfl,_,_,rfl,_,_,rfl,rfl,?_⟩;refine⟨_,rfl,.inl ⟨rfl,_,.of g1⟩,_,rfl,_,rfl,by show 2≤sizeLine;lia,λt2 k2=>?_⟩;have s2:=aL.upd (o:=.tup [.ref b,.ref a]) k2;refine⟨ap,jg,.ref t2,rfl,rfl,s2 _ _ g1,by have:=xD.1;rw[xZ]at this;rw[hp,dB]at hl;lia,?_⟩;refine q _ _ _ ((h1.grow s2).vn n (ns:=⟨A.r,A.l,A.rules,A.ws⟩::ns) ?_);rw[ua];exact(pB.mono (jW s2)).snoc ⟨t2,b,a,rfl,.of (iI aX (h1.n.out k2)),jW s2 _ _ Ru,jW s2 _ _ zt⟩
variable{B H:Hp}{ap ar am aw bK:Addr}{ws:List V}{F:FN}
theorem gu.Ej(h:gu K B ap ar am aw bK ws F H)(n:rX ap ar am aw){RS SS:List V}{ss:List iu}(hk:lX K (cM [ap,ar,am,aw] H) (RS++SS) (F.rules++ss)):gu K B ap ar am aw bK ws ⟨F.parts,F.rules++ss,F.ws,F.N⟩ (upd H ar (.lst (RS++SS))):=
 ⟨h.n.Ej n.t hk,h.ba,h.bw,let ⟨PS,g,k⟩:=h.p;⟨PS,by rw[bZ n.a1];exact g,by rw[lW n.t.r];exact k⟩⟩
theorem Rv{k:Nat}(n:rX ap ar am aw)(h:gu K B ap ar am aw bK ws F H)(hp:F.parts=A::C::ns)
  (q:∀t a b t' a' b' PS H',gu K B ap ar am aw bK ws ⟨ns,F.rules,F.ws,F.N⟩ H'→H' ap=some (.lst PS)→kZ K (cM [ap,ar,am,aw] H') PS ns.reverse→bh K H' t [.ref a,.ref b]→cM [ap,ar,am,aw] H' a=some (.lst (cD A.l))→cM [ap,ar,am,aw] H' b=some (.lst (cD A.r))→
   bh K H' t' [.ref a',.ref b']→cM [ap,ar,am,aw] H' a'=some (.lst (cD C.l))→cM [ap,ar,am,aw] H' b'=some (.lst (cD C.r))→u D (pA bK ar am aw ap k v s7 s8 (some (.ref t)) (some (.ref t'))) H') :
  cy (dC (tT K) (cq 9)) (cy (dC (tT K) (cq 10)) u) D (pA bK ar am aw ap k v s7 s8 s9 dy) H:=by
 obtain⟨PS,g,hP⟩:=h.p;rw[hp,ua,ua]at hP;obtain⟨PS1,x,rfl,pB,t,a,b,rfl,ht,ha,hb⟩:=hP.init;obtain⟨vo,y,rfl,Rx,t',a',b',rfl,lL,jd,e7⟩:=pB.init;have ml:ap∈[ap,ar,am,aw]:=cP;have e2:cM [ap,ar,am,aw] (upd (upd H ap (.lst (vo++[.ref t']))) ap (.lst vo))=cM [ap,ar,am,aw] H:=by rw[lW ml,lW ml]
 have h1:=h.vn n (PS:=vo++[.ref t']) (ns:=C::ns) (by rw[ua];exact pB);have h2:=h1.vn n (PS:=vo) (ns:=ns) (by rw[lW ml];exact Rx);refine Ka rfl g ?_;refine Ka rfl aX ?_;have hs:aL (cM [ap,ar,am,aw] H) (upd (upd H ap (.lst (vo++[.ref t']))) ap (.lst vo)):=by rw[← e2];exact vh
 exact q t a b t' a' b' vo _ h2 aX (by rw[e2];exact Rx) (hs.bq ht) (by rw[e2];exact ha) (by rw[e2];exact hb) (hs.bq lL) (by rw[e2];exact jd) (by rw[e2];exact e7)
theorem vq(l m:List Nat):cD l++cD m=cD (l++m):=by unfold cD;rw[cY]
theorem jG(l:List Nat):(cD l).length=l.length:=by unfold cD;rw[bj]
theorem abE{k:Nat}(n:rX ap ar am aw)(h:gu K B ap ar am aw bK ws F H)(hp:F.parts=A::C::ns)(hl:F.parts.length≤1000)(l1:A.l.length≤200)(l2:A.r.length≤200)(l3:C.l.length≤200)(l4:C.r.length≤200)
  (rl:List iu) (wl:List (Nat×Nat))
  (q:∀s9 dy H',gu K B ap ar am aw bK ws ⟨⟨A.l++C.l,A.r++C.r,rl,wl⟩::ns,F.rules,F.ws,F.N⟩ H'→D.nx (pA bK ar am aw ap k v s7 s8 s9 dy) H'):AF K D (pA bK ar am aw ap k v s7 s8 s9 dy) H:=by
 have z:(2000:Nat)≤sizeLine:=by decide
 unfold AF;refine Rv n h hp λt a b t' a' b' PS H1 h1 g1 pB ht ha hb lL jd e7=>?_;refine⟨_,rfl,.inl ⟨rfl,_,.of g1⟩,_,rfl,t,_,0,.ref a,rfl,rfl,ht,bE (j:=0) rfl,_,rfl,t',_,0,.ref a',rfl,rfl,lL,bE (j:=0) rfl,a,a',_,_,rfl,rfl,(oG ha).2,(oG jd).2,by rw[jG,jG];lia,λc k1=>?_⟩;have s1:=aL.upd (o:=.lst (cD A.l++cD C.l)) k1;refine⟨_,rfl,t,_,1,.ref b,rfl,rfl,s1.bq ht,bE (j:=1) rfl,_,rfl,t',_,1,.ref b',rfl,rfl,s1.bq lL,bE (j:=1) rfl,b,b',_,_,rfl,rfl,s1 _ _ (oG hb).2,s1 _ _ (oG e7).2,by rw[jG,jG];lia,λe k2=>⟨by show 2≤sizeLine;lia,λt2 k3=>?_⟩⟩;have s2:=aL.upd (o:=.lst (cD A.r++cD C.r)) k2;have s3:=aL.upd (o:=.tup [.ref c,.ref e]) k3;have sA:=s1.trans (s2.trans s3);have h2:=h1.grow sA;refine⟨ap,PS,.ref t2,rfl,rfl,sA _ _ g1,by have:=pB.1;rw[xZ]at this;rw[hp,dB,dB]at hl;lia,?_⟩;refine q _ _ _ (h2.vn n (ns:=⟨A.l++C.l,A.r++C.r,rl,wl⟩::ns) ?_);rw[ua];refine(pB.mono (jW sA)).snoc ⟨t2,c,e,rfl,.of (iI aX (h1.n.out (jS (s1.trans s2) k3))),iI ?_ (h1.n.out k1),iI ?_ (h1.n.out (jS s1 k2))⟩
 ·rw[← vq];exact(s2.trans s3) _ _ aX
 ·rw[← vq];exact s3 _ _ aX
theorem Ry{l:List Nat}{i s:Nat}(h:l[i]?=some s):(cD l)[i]?=some (.int (s:Int)):=by unfold cD;rw[du,h];rfl
theorem abF{k:Nat}(n:rX ap ar am aw)(h:gu K B ap ar am aw bK ws F H)(hp:F.parts=A::C::ns)(hl:F.parts.length≤1000)(hR:F.rules.length≤1000)(l2:A.r.length≤200)(hm:A.r.length=C.l.length)
  (rl:List iu) (wl:List (Nat×Nat))
  (q:∀s9 dy H',gu K B ap ar am aw bK ws ⟨⟨A.l,C.r,rl,wl⟩::ns,F.rules++jV A.r C.l,F.ws,F.N⟩ H'→D.nx (pA bK ar am aw ap k v s7 s8 s9 dy) H'):AG K D (pA bK ar am aw ap k v s7 s8 s9 dy) H:=by
 have z:(2000:Nat)≤sizeLine:=by decide
 unfold AG;refine Rv n h hp λt a b t' a' b' PS H1 h1 g1 pB ht ha hb lL jd e7=>?_;obtain⟨RS,gR,tU⟩:=h1.n.r;have el:(jV A.r C.l).length=A.r.length:=by rw[Rq,← hm];lia
 refine⟨_,rfl,.inl ⟨rfl,_,.of gR⟩,?_⟩;unfold Ew;refine⟨_,rfl,t,_,1,.ref b,rfl,rfl,ht,bE (j:=1) rfl,b,_,rfl,.inl (.of (oG hb).2),((A.r.length:Nat):Int),by rw[jG],by lia,by lia,p7 (n:=A.r.length) (lo:=0) (cp:=[some (.ref t),some (.ref t')]) (λi H' zs=>lX K (cM [ap,ar,am,aw] H') zs ((jV A.r C.l).take i)) (by lia) .nil (λi H' zs h=>by rw[h.1,dv];exact Nat.min_le_left _ _) ?_ ?_⟩
 ·rintro i H2 zs hi sm hz;rw[lA];have h2:=h1.grow sm;have ex:A.r[i]?=some (A.r[i]'hi):=cn hi;have ey:C.l[i]?=some (C.l[i]'(by lia)):=cn (by lia);have eq:(jV A.r C.l)[i]?=some [(A.r[i]'hi,1),(C.l[i]'(by lia),-1)]:=by
   unfold jV;rw[List.getElem?_zipWith,ex,ey]
  unfold J8;refine iC (JY (K:=K) (q:=[(A.r[i]'hi,1),(C.l[i]'(by lia),-1)]) (λj c u e1 e2=>?_) rfl λvs H3 s3 hP hn=>⟨by rw[hP.1];show 2≤sizeLine;lia,λc k3=>?_⟩)
  ·match j,e1,e2 with
   |0,e1,e2=>
    cases e1;cases e2;exact⟨λH' s R r=>⟨_,rfl,t,_,1,.ref b,rfl,rfl,(sm.trans s).bq ht,bE (j:=1) rfl,_,rfl,b,_,(i:Int),_,rfl,rfl,.of ((sm.trans s) _ _ (oG hb).2),bE (Ry ex),r⟩,jT⟩
   |1,e1,e2=>
    cases e1;cases e2;exact⟨λH' s R r=>⟨_,rfl,t',_,0,.ref a',rfl,rfl,(sm.trans s).bq lL,bE (j:=0) rfl,_,rfl,a',_,(i:Int),_,rfl,rfl,.of ((sm.trans s) _ _ (oG jd).2),bE (Ry ey),r⟩,λH' s R r=>⟨1,rfl,r⟩⟩
   |j+2,e1,_=>cases e1
  ·have s4:=aL.upd (o:=.lst vs) k3;refine⟨⟨[_],rfl,rfl⟩,sm.trans (s3.trans s4),?_⟩;rw[gZ,eq];exact(hz.mono (jW (s3.trans s4))).append (.one (iI aX (h2.n.out (jS s3 k3))) ((hP.mono s4).del λv hv a e=>h2.n.out (hn v hv a e)))
 ·rintro H2 zs sm hz lq mQ;rw[lB (by rw[el];exact cf _)]at hz;have s3:=aL.upd (o:=.lst zs) mQ;have sA:=sm.trans s3;refine⟨ar,lq,RS,zs,rfl,rfl,sA _ _ gR,aX,?_,?_⟩
  ·rw[tU.1,hz.1,el];show F.rules.length+_≤_;lia
  have h3:=(h1.grow sA).Ej n (RS:=RS) (SS:=zs) (ss:=jV A.r C.l) ((tU.mono (jW sA)).append (hz.mono (jW s3)));have e3:cM [ap,ar,am,aw] (upd (upd H2 lq (.lst zs)) ar (.lst (RS++zs)))=cM [ap,ar,am,aw] (upd H2 lq (.lst zs)):=lW n.t.r;have hs:aL (cM [ap,ar,am,aw] H1) (cM [ap,ar,am,aw] (upd (upd H2 lq (.lst zs)) ar (.lst (RS++zs)))):=by rw[e3];exact jW sA
  have sq:∀{c:Addr}{xs:List V},bh K H1 c xs→bh K (upd (upd H2 lq (.lst zs)) ar (.lst (RS++zs))) c xs:=λ{c xs} hc=>by
   have jO:=sA.bq hc;have ne:∀{o:HO},(upd H2 lq (.lst zs)) c=some o→(∀ys,o≠.lst ys)→(upd (upd H2 lq (.lst zs)) ar (.lst (RS++zs))) c=some o:=λ{o} e cB=>by
    rw[bZ λzz=>by rw[zz,sA _ _ gR]at e;exact cB _ (cN e).symm];exact e
   rcases jO with(jO|⟨ob,jO⟩)|jO
   ·exact .inl (.inl (ne jO λ_ zz=>nomatch zz))
   ·exact .inl (.inr ⟨ob,ne jO λ_ zz=>nomatch zz⟩)
   ·exact .inr jO
  have g3:(upd (upd H2 lq (.lst zs)) ar (.lst (RS++zs))) ap=some (.lst PS):=by rw[bZ n.a1];exact sA _ _ g1
  have wW:=sq ht;have Rz:=sq lL;generalize upd (upd H2 lq (.lst zs)) ar (.lst (RS++zs))=H3 at h3 hs wW Rz g3 ⊢;refine⟨_,rfl,.inl ⟨rfl,_,.of g3⟩,_,rfl,t,_,0,.ref a,rfl,rfl,wW,bE (j:=0) rfl,_,rfl,t',_,1,.ref b',rfl,rfl,Rz,bE (j:=1) rfl,by show 2≤sizeLine;lia,λt2 k4=>?_⟩;have s5:=aL.upd (o:=.tup [.ref a,.ref b']) k4;refine⟨ap,PS,.ref t2,rfl,rfl,s5 _ _ g3,by have:=pB.1;rw[xZ]at this;rw[hp,dB,dB]at hl;lia,?_⟩;refine q _ _ _ ((h3.grow s5).vn n (ns:=⟨A.l,C.r,rl,wl⟩::ns) ?_);rw[ua];exact((pB.mono hs).mono (jW s5)).snoc ⟨t2,a,b',rfl,.of (iI aX (h3.n.out k4)),jW s5 _ _ (hs _ _ ha),jW s5 _ _ (hs _ _ e7)⟩
theorem RA{k:Nat}{f:V}(n:rX ap ar am aw)(h:gu K B ap ar am aw bK ws F H)(hW:Ax x f F.N A)(hf:(ws++[.int 0])[k+1]?=some f)(mn:ws.length≤1000)(hl:F.parts.length≤1000)(hR:F.rules.length≤1000)(tM:F.ws.length≤1000)(hN:F.N≤100000)
  (q:∀H',gu K B ap ar am aw bK ws ⟨A::F.parts,F.rules++A.rules,A.ws++F.ws,F.N+3⟩ H'→D.nx (pA bK ar am aw ap k (.str x) s7 s8 s9 dy) H'):AH K D (pA bK ar am aw ap k (.str x) s7 s8 s9 dy) H:=by
 have z:(2000:Nat)≤sizeLine:=by decide
 obtain⟨PS,g,hP⟩:=h.p;unfold AH;refine⟨_,rfl,.inl ⟨rfl,_,.of g⟩,_,rfl,?_⟩;unfold Ex;refine⟨_,rfl,by show 1≤sizeLine;lia,λt0 k0=>?_⟩;have s0:=aL.upd (o:=.tup [.int 0]) k0;refine⟨bK,t0,_,_,rfl,rfl,s0 _ _ (h.n.sm _ _ h.bw),aX,by show _+1≤sizeLine;lia,λt1 H2 s2 h1=>?_⟩;have sA:=s0.trans s2;have h2:=h.grow sA;refine⟨_,rfl,(k:Int),1,rfl,rfl,t1,_,((k+1:Nat):Int),f,rfl,ai V.int (by lia),.of h1,bE hf,_,rfl,_,rfl,_,rfl,?_⟩;have nM:ap ∉ [ar,am,aw]:=λzz=>by
  rcases(cS.mp zz)with(e|zz)
  ·exact n.a1 e
  rcases(cS.mp zz)with(e|zz)
  ·exact n.a2 e
  ·exact n.a3 (cQ.mp zz)
 refine⟨x,f,[ap,ar,am,aw],ar,am,aw,F.rules,F.N,F.ws,A,rfl,hW,n.t,⟨⟨qw cP,qw (dU _ cP),qw (dU _ (dU _ cP))⟩,vh,h2.n.al,h2.n.r,h2.n.m,h2.n.w⟩,hR,tM,hN,λt H3 vw hPt=>?_⟩;have g3:H3 ap=some (.lst PS):=vw.sm _ _ (iI (sA _ _ g) nM);have sd:aL (cM [ap,ar,am,aw] H2) (cM [ap,ar,am,aw] H3):=abB (λy hy=>dU _ hy) vw.sm;refine⟨ap,PS,.ref t,rfl,rfl,g3,by have:=hP.1;rw[xZ]at this;lia,?_⟩;have h3:gu K B ap ar am aw bK ws ⟨F.parts,F.rules++A.rules,A.ws++F.ws,F.N+3⟩ H3:=⟨⟨h.n.b,λb o e=>vw.sm b o (iI (h2.n.sm b o e) λhb=>by
   obtain⟨b1,b2,b3⟩:=h.n.b;rcases(cS.mp hb)with(rfl|hb)
   ·rw[b1]at e;cases e
   rcases(cS.mp hb)with(rfl|hb)
   ·rw[b2]at e;cases e
   ·rw[cQ.mp hb,b3]at e;cases e),vw.al,vw.r,vw.m,vw.w⟩,h.ba,h.bw,PS,g3,(hP.mono (jW sA)).mono sd⟩
 refine q _ (h3.vn n (ns:=A::F.parts) ?_);rw[ua];exact((hP.mono (jW sA)).mono sd).snoc hPt
variable{B H:Hp}{ap ar am aw bK:Addr}
theorem oJ{t:TS}(h6:σ[6]?=some (some v))(hs:FE v (.str x)=true)(n:v≠.str x)(h:u D σ H):dW (tS x) t u D σ H:=⟨_,h6,hs,_,rfl,by rw[aa n];exact fi h⟩
theorem Kb{t:TS}(h6:σ[6]?=some (some (.str x)))(h:t D σ H):dW (tS x) t u D σ H:=⟨_,h6,rfl,_,rfl,uO h⟩
theorem abG{d:Drw}{k:Nat}{s6:Option V}(hd:d.cK p)(jx:d.sm)(hl:d.aR.length≤170)(n:rX ap ar am aw)(hk:k<d.aR.length)(h:gu K B ap ar am aw bK d.aR (cb (dz [.bu d] (k+1))) H)
  (q:∀s6 s7 s8 s9 dy H',gu K B ap ar am aw bK d.aR (cb (dz [.bu d] k)) H'→D.nx [some (.ref bK),some (.ref ar),some (.ref am),some (.ref aw),some (.ref ap),some (.int (k:Int)),s6,s7,s8,s9,dy] H') :
  Ey K D [some (.ref bK),some (.ref ar),some (.ref am),some (.ref aw),some (.ref ap),some (.int (k:Int)),s6,s7,s8,s9,dy] H:=by
 have ew:([Itm.bu d]).flatMap Itm.aR=d.aR:=by simp[Itm.aR]
 have rJ:∀t∈[Itm.bu d],t.cK p:=λt ht=>by rw[cQ.mp ht];exact⟨hd,jx⟩
 obtain⟨t,r,e1,e2,e3⟩:=qi (ts:=[.bu d]) (i:=k) (by rw[ew];exact hk);rw[ew]at e2;have hts:=xj k rJ;have RB:=xj (k+1) rJ;have fl:∀i,((dz [Itm.bu d] i).flatMap Itm.aR).length≤170:=λi=>by rw[uU,ew,fE];lia
 obtain⟨f1,f2,f3,f4⟩:=J7 RB;have fk:=fl (k+1);have ht:=hts t (by rw[e1];exact cP);have EA:∀{x:Drw},.bu x∈t.kids→x.cK p∧x.aR.length≤170:=λ{x} hx=>by
  have hm:Itm.bu x∈dz [.bu d] (k+1):=by rw[e3];exact nc _ hx
  refine⟨(RB _ hm).1,?_⟩
  have:x.aR.length≤((dz [Itm.bu d] (k+1)).flatMap Itm.aR).length:=by
   obtain⟨s,u,e⟩:=List.append_of_mem hm;rw[e,List.flatMap_append,xY,cx,cx];show x.aR.length≤_+(x.aR.length+_);lia
  lia
 rw[e1]at q;rw[e3]at h f1 f2 f3 f4;unfold Ey;refine⟨_,rfl,_,rfl,bK,_,(k:Int),t.head,rfl,rfl,.of (h.n.sm _ _ h.bw),bE e2,?_⟩;show(dW (tS "back") (AE K) (dW (tS "beside") (AF K) (dW (tS "then") (AG K) (dW (J9 K) (AH K) gi)))) D (pA bK ar am aw ap k t.head s7 s8 s9 dy) H;cases t with
 |num m=>
  refine oJ rfl rfl (λe=>nomatch e) (oJ rfl rfl (λe=>nomatch e) (oJ rfl rfl (λe=>nomatch e) ?_));exact⟨_,rfl,.int m,true,rfl,.inl ⟨m,rfl,Nt K⟩,true,rfl,fi (q _ _ _ _ _ H h)⟩
 |bu c=>
  cases c with
  |box x l r' aN=>
   have hx:x="add"∨x="none"∨x="late"∨x="id"∨x="swap"∨x="copy"∨x="end"∨x="cup"∨x="empty":=by
    rcases ht.1 with hb|⟨hb,_,_⟩
    ·exact abz hb
    ·exact .inr (.inr (.inl hb))
   obtain⟨n1,n2,n3⟩:=abA hx;refine oJ rfl rfl (λe=>n1 (V.str.inj e)) (oJ rfl rfl (λe=>n2 (V.str.inj e)) (oJ rfl rfl (λe=>n3 (V.str.inj e)) ?_));refine⟨_,rfl,.str x,false,rfl,.inr ⟨x,rfl,G2 K⟩,false,rfl,gQ ?_⟩;obtain⟨f,hf⟩:∃f,(d.aR++[.int 0])[k+1]?=some f:=⟨_,cn (by rw[cx];show k+1<_+1;lia)⟩;exact RA n h (.box x f _ hx) hf (by lia) (by lia) (by lia) (by lia) (by lia) λH' h'=>q _ _ _ _ _ H' h'
  |times m=>
   refine oJ rfl rfl (λe=>absurd (V.str.inj e) (by decide +kernel)) (oJ rfl rfl (λe=>absurd (V.str.inj e) (by decide +kernel)) (oJ rfl rfl (λe=>absurd (V.str.inj e) (by decide +kernel)) ?_));refine⟨_,rfl,.str "times",false,rfl,.inr ⟨"times",rfl,G2 K⟩,false,rfl,gQ ?_⟩;have hf:(d.aR++[.int 0])[k+1]?=some (.int m):=by
    have e:=uU (k+1) [.bu d];rw[e3,ew]at e;have e:V.int m::r.flatMap Itm.aR=d.aR.drop (k+1):=e
    have:(d.aR.drop (k+1))[0]?=some (.int m):=by rw[← e];rfl
    rw[t8,Nat.add_zero]at this;rw[iA (dO.mp this).1];exact this
   exact RA n h (.times m _) hf (by lia) (by lia) (by lia) (by lia) (by lia) λH' h'=>q _ _ _ _ _ H' h'
  |back c=>
   refine Kb rfl ?_;exact abD n h rfl (by lia) λs7 s8 H' h'=>q _ s7 s8 _ _ H' h'
  |cJ a b=>
   refine oJ rfl rfl (λe=>absurd (V.str.inj e) (by decide +kernel)) (Kb rfl ?_);obtain⟨wa,la⟩:=EA (x:=a) cP;obtain⟨wb,lb⟩:=EA (x:=b) (dU _ cP);obtain⟨_,b1,b2⟩:=lV wa;obtain⟨_,b3,b4⟩:=lV wb;obtain⟨c1,c2,_⟩:=jD (d:=a) (N:=(aV b (cb r).N).2) wa;obtain⟨c3,c4,_⟩:=jD (d:=b) (N:=(cb r).N) wb;refine abE (A:=(aV a (aV b (cb r).N).2).1) (C:=(aV b (cb r).N).1) (ns:=(cb r).parts) n h rfl (by lia) (by lia) (by lia) (by lia) (by lia) ((aV b (cb r).N).1.rules++(aV a (aV b (cb r).N).2).1.rules) ((aV a (aV b (cb r).N).2).1.ws++(aV b (cb r).N).1.ws) λs9 dy H' h'=>q _ _ _ s9 dy H' ?_;have er:(cb r).rules++(aV b (cb r).N).1.rules++(aV a (aV b (cb r).N).2).1.rules=(cb r).rules++((aV b (cb r).N).1.rules++(aV a (aV b (cb r).N).2).1.rules):=gH _ _ _;have Kc:(aV a (aV b (cb r).N).2).1.ws++((aV b (cb r).N).1.ws++(cb r).ws)=(aV a (aV b (cb r).N).2).1.ws++(aV b (cb r).N).1.ws++(cb r).ws:=(gH _ _ _).symm;have h':gu K B ap ar am aw bK d.aR ⟨_,(cb r).rules++(aV b (cb r).N).1.rules++(aV a (aV b (cb r).N).2).1.rules,(aV a (aV b (cb r).N).2).1.ws++((aV b (cb r).N).1.ws++(cb r).ws),_⟩ H':=h';rw[er,Kc]at h';exact h'
  |bf a b=>
   refine oJ rfl rfl (λe=>absurd (V.str.inj e) (by decide +kernel)) (oJ rfl rfl (λe=>absurd (V.str.inj e) (by decide +kernel)) (Kb rfl ?_));obtain⟨wa,la⟩:=EA (x:=a) cP;obtain⟨wb,lb⟩:=EA (x:=b) (dU _ cP);obtain⟨_,b1,b2⟩:=lV wa;obtain⟨c1,c2,_⟩:=jD (d:=a) (N:=(aV b (cb r).N).2) wa;obtain⟨c3,c4,_⟩:=jD (d:=b) (N:=(cb r).N) wb;have hm:=ht.1.2.2;refine abF (A:=(aV a (aV b (cb r).N).2).1) (C:=(aV b (cb r).N).1) (ns:=(cb r).parts) n h rfl (by lia) (by lia) (by lia) (by rw[c2,c3];exact hm) ((aV b (cb r).N).1.rules++(aV a (aV b (cb r).N).2).1.rules++jV (aV a (aV b (cb r).N).2).1.r (aV b (cb r).N).1.l) ((aV a (aV b (cb r).N).2).1.ws++(aV b (cb r).N).1.ws) λs9 dy H' h'=>q _ _ _ s9 dy H' ?_;have er:(cb r).rules++(aV b (cb r).N).1.rules++(aV a (aV b (cb r).N).2).1.rules++jV (aV a (aV b (cb r).N).2).1.r (aV b (cb r).N).1.l=(cb r).rules++((aV b (cb r).N).1.rules++(aV a (aV b (cb r).N).2).1.rules++jV (aV a (aV b (cb r).N).2).1.r (aV b (cb r).N).1.l):=by rw[gH,gH,gH]
   have Kc:(aV a (aV b (cb r).N).2).1.ws++((aV b (cb r).N).1.ws++(cb r).ws)=(aV a (aV b (cb r).N).2).1.ws++(aV b (cb r).N).1.ws++(cb r).ws:=(gH _ _ _).symm;have h':gu K B ap ar am aw bK d.aR ⟨_,(cb r).rules++(aV b (cb r).N).1.rules++(aV a (aV b (cb r).N).2).1.rules++jV (aV a (aV b (cb r).N).2).1.r (aV b (cb r).N).1.l,(aV a (aV b (cb r).N).2).1.ws++((aV b (cb r).N).1.ws++(cb r).ws),_⟩ H':=h';rw[er,Kc]at h';exact h'
theorem abH{d:Drw}(hd:d.cK p)(jx:d.sm)(hl:d.aR.length≤170)(hw:H bK=some (.tup d.aR))(n:rT [ar,am,aw] ar am aw)(h:fQ K (cM [ar,am,aw] H) [ar,am,aw] ar am aw [] 0 [] H)
  (q:∀t H',fQ K (cM [ar,am,aw] H) [ar,am,aw] ar am aw (aV d 0).1.rules (aV d 0).2 (aV d 0).1.ws H'→oH K (cM [ar,am,aw] H') (.ref t) (aV d 0).1.l (aV d 0).1.r→D.rt (.ref t) H') :
  Ez K D [some (.ref bK),some (.ref ar),some (.ref am),some (.ref aw),none,none,none,none,none,none,none] H:=by
 have z:(2000:Nat)≤sizeLine:=by decide
 obtain⟨RS,gR,hR⟩:=h.r;obtain⟨WS,gW,hW⟩:=h.w;unfold Ez;refine⟨by decide,λap tV=>?_⟩;have s0:=aL.upd (o:=.lst []) tV;have na1:ap≠ar:=λe=>by rw[e,gR]at tV;cases tV
 have na2:ap≠am:=λe=>by rw[e,h.m]at tV;cases tV
 have na3:ap≠aw:=λe=>by rw[e,gW]at tV;cases tV
 have n4:rX ap ar am aw:=⟨⟨dU _ n.r,dU _ n.m,dU _ n.w,n.n1,n.n2,n.n3⟩,na1,na2,na3⟩;have nww:bK ∉ [ar,am,aw]:=λzz=>by
  rcases(cS.mp zz)with(e|zz)
  ·rw[e,gR]at hw;cases hw
  rcases(cS.mp zz)with(e|zz)
  ·rw[e,h.m]at hw;cases hw
  ·rw[cQ.mp zz,gW]at hw;cases hw
 have bap:cM [ar,am,aw] H ap=none:=by
  by_cases hb:ap∈[ar,am,aw]
  ·exact qw hb
  ·rw[vg hb];exact tV
 have h0:gu K (cM [ar,am,aw] H) ap ar am aw bK d.aR ⟨[],[],[],0⟩ (upd H ap (.lst [])):=by
  refine⟨⟨h.b,h.sm.trans s0,λy hy=>?_,⟨RS,s0 _ _ gR,?_⟩,s0 _ _ h.m,⟨WS,s0 _ _ gW,?_⟩⟩,bap,iI hw nww,⟨[],aX,.nil⟩⟩
  ·rcases(cS.mp hy)with(rfl|hy)
   ·exact⟨_,aX⟩
   ·obtain⟨o,e⟩:=h.al y hy;exact⟨o,s0 _ _ e⟩
  ·have:RS=[]:=List.eq_nil_of_length_eq_zero hR.1
   rw[this];exact .nil
  ·have:WS=[]:=List.eq_nil_of_length_eq_zero hW.1
   rw[this];exact .nil
 have RC:=s0 _ _ hw;generalize upd H ap (.lst [])=H1 at h0 RC ⊢;have ew:([Itm.bu d]).flatMap Itm.aR=d.aR:=by simp[Itm.aR]
 have dp:=d.pos;refine⟨_,rfl,bK,_,rfl,.inr (.of RC),_,_,rfl,rfl,1,rfl,1,rfl,((d.aR.length-1:Nat):Int),?_,⟨by lia,by lia⟩,?_⟩
 ·show[V.int ((d.aR.length:Int)-1),V.int (-1),V.int (-1)]=_;rw[show(d.aR.length:Int)-1=((d.aR.length-1:Nat):Int) by lia]
 rw[show((((d.aR.length-1:Nat):Int)+1).toNat)=d.aR.length by lia];refine OF (λi σ H'=>i≤d.aR.length∧∃s5 s6 s7 s8 s9 dy,σ=[some (.ref bK),some (.ref ar),some (.ref am),some (.ref aw),some (.ref ap),s5,s6,s7,s8,s9,dy]∧gu K (cM [ar,am,aw] H) ap ar am aw bK d.aR (cb (dz [.bu d] (d.aR.length-i))) H') ⟨kj _,none,none,none,none,none,none,rfl,?_⟩ ?_ ?_
 ·have e:=DD (ts:=[.bu d]);rw[ew]at e;rw[Nat.sub_zero,e];exact h0
 ·rintro i σ H2 hi ⟨_,s5,s6,s7,s8,s9,dy,rfl,h2⟩;dsimp only[cq];have ek:((d.aR.length-1:Nat):Int)-(i:Int)=((d.aR.length-1-i:Nat):Int):=by lia
  rw[ek];have e1:d.aR.length-i=(d.aR.length-1-i)+1:=by lia
  rw[e1]at h2;refine abG hd jx hl n4 (by lia) h2 λs6 s7 s8 s9 dy H' h'=>⟨by lia,_,s6,s7,s8,s9,dy,rfl,?_⟩;rw[show d.aR.length-(i+1)=d.aR.length-1-i by lia];exact h'
 ·rintro σ H2 ⟨_,s5,s6,s7,s8,s9,dy,rfl,h2⟩;rw[Nat.sub_self]at h2;obtain⟨PS,g,hP⟩:=h2.p;have hP:kZ K (cM [ap,ar,am,aw] H2) PS [(aV d 0).1]:=hP;obtain⟨v,rfl⟩:∃v,PS=[v]:=by
   match PS,hP.1 with
   | [v],_=>exact⟨v,rfl⟩
  have hv:=hP.2 0 v _ rfl rfl;obtain⟨t,a,b,rfl,ht⟩:=hv;have sub:∀y∈[ar,am,aw],y∈[ap,ar,am,aw]:=λy hy=>dU _ hy;refine⟨_,rfl,ap,_,0,.ref t,rfl,rfl,.of g,bE (j:=0) rfl,?_⟩;refine q t H2 ⟨h2.n.b,h2.n.sm,λy hy=>h2.n.al y (sub y hy),?_,h2.n.m,?_⟩ (oH.mono ⟨t,a,b,rfl,ht⟩ (JW sub))
  ·obtain⟨Dq,g',k'⟩:=h2.n.r;exact⟨Dq,g',k'.mono (JW sub)⟩
  ·obtain⟨RD,g',k'⟩:=h2.n.w;have k':jX K (cM [ap,ar,am,aw] H2) RD (((aV d 0).1.ws++[]).map Eh):=k';rw[iK]at k';exact⟨RD,g',k'.mono (JW sub)⟩
theorem abI{fW:Addr}{tG:FuncData}(F:cG K "_law_net" "_law_net" CQ f fd)(T:Txt mg)
  (GW:bz P w K mg base bx 1 fW tG ["word","factor","rules","many","waits"] (Ek K)) (kW:Kp K fW) (bW:Binds K tG ["word","factor","rules","many","waits"] []) (mW:Mg mg "_law_wired" fW):bz P w K mg base bx 2 f fd ["words","rules","many","waits"] (Rt K):=by
 refine F.ok qA (λvs H Q E h=>?_) (λbI A outer s H vs Q E hr h=>?_)
 ·obtain⟨p,bK,ar,am,aw,d,rfl,_⟩:=h;rfl
 ·obtain⟨p,bK,ar,am,aw,d,rfl,hd,jx,hl,hw,n,h,q⟩:=h;refine⟨Ez K,?_,abH hd jx hl hw n h q⟩;unfold Ez;refine bg ?_ ?_
  ·exact cm (i:=4) (te:=jM bG) qA.nd rfl (.inl rfl) (cZ aQ)
  refine bg ?_ ?_
  ·refine mf nS rfl ?_ (cF (i:=5) qA.nd rfl (.inl rfl)) ?_
   ·exact OE rfl T.range (aJ (aY nk (iN (ko K rfl) rfl T.len kq (aJ (pv 0) aQ)) aO) (aJ (pR pS aO) (aJ (pR pS aO) aQ)))
   unfold Ey;refine bg ?_ ?_
   ·exact cm (i:=6) qA.nd rfl (.inl rfl) (bc (cC K rfl) (pv 0) (pv 5) (λ_ _=>rfl))
   refine bQ ?_;refine ee ?_ ?_ ?_
   ·exact dg hI (pv 6) dH (de _)
   ·unfold AE;refine bg ?_ ?_
    ·exact sj (v7 jJ xW xX v8 (pv 4)) (uy (n:=2) K rfl rfl (iM (cF (i:=7) qA.nd rfl (.inl rfl)) (iM (cF (i:=8) qA.nd rfl (.inl rfl)) qN)))
    ·refine bQ ?_;exact md (mj jJ qF qG o7 (pv 4) (aJ (cE (aJ (pv 8) (aJ (pv 7) aQ))) aQ))
   refine bQ ?_;refine ee ?_ ?_ ?_
   ·exact dg hI (pv 6) dH (de _)
   ·unfold AF;refine bg ?_ ?_
    ·exact cm (i:=9) qA.nd rfl (Or.inr rfl) (v7 jJ xW xX v8 (pv 4))
    refine bg ?_ ?_
    ·exact cm (i:=10) qA.nd rfl (Or.inr rfl) (v7 jJ xW xX v8 (pv 4))
    refine bQ ?_;exact md (mj jJ qF qG o7 (pv 4) (aJ (cE (aJ (aY o8 (bc (cC K rfl) (pv 9) aO (λ_ _=>rfl)) (bc (cC K rfl) (pv 10) aO (λ_ _=>rfl))) (aJ (aY o8 (bc (cC K rfl) (pv 9) aO (λ_ _=>rfl)) (bc (cC K rfl) (pv 10) aO (λ_ _=>rfl))) aQ))) aQ))
   refine bQ ?_;refine ee ?_ ?_ ?_
   ·exact dg hI (pv 6) dH (de _)
   ·unfold AG;refine bg ?_ ?_
    ·exact cm (i:=9) qA.nd rfl (Or.inr rfl) (v7 jJ xW xX v8 (pv 4))
    refine bg ?_ ?_
    ·exact cm (i:=10) qA.nd rfl (Or.inr rfl) (v7 jJ xW xX v8 (pv 4))
    refine bg ?_ ?_
    ·refine md (te:=uq K "list" FY (aW 1) (aZ (Ew K) bG)) ?_ ?_
     ·refine mj jJ PySem.F.slot_list_extend PySem.F.type_list_extend Vf (pv 1) ?_;refine aJ ?_ aQ ?_
      ·unfold Ew;refine fY (N:=["k","one","other"]) (own:=1) (caps:=[9,10]) rfl ?_ ?_ ?_ ?_ ?_
       ·exact j6 rfl T.range (aJ (iN (ko K rfl) rfl T.len kq (aJ (bc (cC K rfl) (pv 9) aO (λ_ _=>rfl)) aQ)) aQ)
       ·exact(show dk Rr (bo CQ) ["k","one","other"] 1 [9,10] _ from .mk' (by decide +kernel))
       ·exact λ_ _ _ _ _=>cF (i:=0) abC rfl (.inl rfl)
       ·exact λ_ _ _ _ _=>eU
       ·intro _ _ _ _ _;dsimp only[J8,tP];exact cZ (aJ (cE (aJ (bc (bV K rfl) (bc (cC K rfl) (pv 1) aO (λ_ _=>rfl)) (pv 0) (λ_ _=>rfl)) (aJ aO aQ))) (aJ (cE (aJ (bc (bV K rfl) (bc (cC K rfl) (pv 2) aO (λ_ _=>rfl)) (pv 0) (λ_ _=>rfl)) (aJ (pR pS aO) aQ))) aQ))
      ·rfl
     ·rfl
    refine bQ ?_;exact md (mj jJ qF qG o7 (pv 4) (aJ (cE (aJ (bc (cC K rfl) (pv 9) aO (λ_ _=>rfl)) (aJ (bc (cC K rfl) (pv 10) aO (λ_ _=>rfl)) aQ))) aQ))
   refine bQ ?_;refine ee ?_ ?_ eK
   ·unfold J9;exact LW (Fj (iN (abx K rfl (T := "int")) rfl T.isinstance Nz (aJ (pv 6) (aJ (Nu rfl T.int G4) aQ))))
   ·unfold AH;refine bQ ?_;refine md (te:=uq K "list" BK (aW 4) (aZ (iY (Ek K) [] E0 (aZ (aW 6) (aZ (Ex K) (aZ (aW 1) (aZ (aW 2) (aZ (aW 3) bG)))))) bG)) ?_ ?_
    ·refine mj jJ qF qG o7 (pv 4) ?_;refine aJ ?_ aQ ?_
     ·refine cT GW hr rfl mW kW bW .nil cU ?_;refine aJ (pv 6) ?_ ?_
      ·refine aJ ?_ ?_ ?_
       ·unfold Ex;exact bc (cC K rfl) (aY kQ (pv 0) (cE (aJ aO aQ))) (aY dt (pv 5) aO) (λ_ _=>rfl)
       ·exact aJ (pv 1) (aJ (pv 2) (aJ (pv 3) aQ))
       ·rfl
      ·rfl
     ·rfl
    ·rfl
  refine bQ ?_;exact cI (te:=di K 4 0) (bc (bV K rfl) (pv 4) aO (λ_ _=>rfl))
theorem RE:(["row"]:List Str).Nodup:=by decide +kernel
theorem nt2:(["k","at","head","p","row"]:List Str).Nodup:=by decide +kernel
def Kd(K:Frag):Sp:=λvs H Q _=>∃(p:Int)(a b:Addr)(x h:List Int)(n j:Nat)(i:Int),vs=[.int p,.ref a,.ref b,.int i]∧i=j∧2≤p∧p≤97∧n≤900∧j<n∧H a=some (.lst (x.map V.int))∧H b=some (.lst (h.map V.int))∧Rw p n x∧Rw p n h∧
 ∀l H',aL H H'→H l=none→H' l=some (.lst ((nC p j h x).map V.int))→Q (.ref l) H'
theorem abJ:dj ["p","row","head","at"] ["p","row","head","at"] (bo CP):=dQ rfl rfl rfl (by decide +kernel) rfl
theorem abK(F:cG K "_law_less" "_law_less" CP f fd)(T:Txt mg):bz P w K mg base bx 1 f fd ["p","row","head","at"] (Kd K):=by
 refine F.ok abJ (λvs H Q E h=>?_) (λbI A outer s H vs Q E hr h=>?_)
 ·obtain⟨p,a,b,x,h,n,j,i,rfl,_⟩:=h;rfl
 ·obtain⟨p,a,b,x,h,n,j,i,rfl,rfl,p2,gq,hn,hj,ga,gb,hx,hh,k⟩:=h;have oA:(1000:Nat)≤sizeLine:=by decide
  refine⟨_,bQ (cI (fY (N:=["k","at","head","p","row"]) (own:=1) (caps:=[3,2,0,1]) rfl (j6 rfl T.range (aJ (iN (ko K rfl) rfl T.len kq (aJ (pv 1) aQ)) aQ)) (show dk ["p","row","head","at"] (bo CP) ["k","at","head","p","row"] 1 [3,2,0,1] _ from .mk' (by decide +kernel)) (λ_ _ _ _ _=>cF (i:=0) nt2 rfl (.inl rfl)) (λ_ _ _ _ _=>eU) (λ_ _ _ _ _=>aY gj (aY nk (bc (bV K rfl) (pv 4) (pv 0) (λ_ _=>rfl)) (aY nq (bc (bV K rfl) (pv 4) (pv 1) (λ_ _=>rfl)) (bc (bV K rfl) (pv 2) (pv 0) (λ_ _=>rfl)))) (pv 3)))),?_⟩
  have ex:(x.map V.int).length=n:=by rw[bj,hx.1]
  have hxj:=hx.at (by lia) j;refine⟨_,rfl,a,_,rfl,.inl (.of ga),(((x.map V.int).length:Nat):Int),rfl,by lia,by rw[ex];lia,p7 (n:=(x.map V.int).length) (lo:=0) (cp:=[some (.int (j:Int)),some (.ref b),some (.int p),some (.ref a)]) (λi H' zs=>zs=((nC p j h x).take i).map V.int) (by rw[ex];lia) rfl (λi H' zs e=>by rw[e,bj];exact pK _ _) ?_ ?_⟩
  ·rintro i H1 zs hi sm rfl;rw[ex]at hi;rw[lA];have wk:i<x.length:=by rw[hx.1];exact hi
   have RF:i<h.length:=by rw[hh.1];exact hi
   refine iC ⟨_,rfl,_,rfl,a,_,(i:Int),_,rfl,rfl,.of (sm _ _ ga),bE (nB wk),_,rfl,_,rfl,a,_,(j:Int),_,rfl,rfl,.of (sm _ _ ga),bE (nB (by rw[hx.1];exact hj)),_,rfl,_,rfl,b,_,(i:Int),_,rfl,rfl,.of (sm _ _ gb),bE (nB RF),_,_,rfl,rfl,.inl ⟨by lia,by lia⟩,_,_,rfl,rfl,_,rfl,_,_,rfl,rfl,(by show(0:Int)<p;lia),⟨[_],rfl,rfl⟩,sm,?_⟩;have e3:(nC p j h x)[i]?=some ((x.getD i 0-x.getD j 0*h.getD i 0)%p):=by
    unfold nC fZ;rw[List.getElem?_zipWith,zm wk,zm RF];show some ((x.getD i 0 + -(x.getD j 0)*h.getD i 0)%p)=_;rw[Int.neg_mul,← Int.sub_eq_add_neg]
   rw[gZ,e3];simp
  ·rintro H1 zs sm rfl lq mQ;rw[ex,lB (by unfold nC fZ;rw[List.length_zipWith,hx.1,hh.1];lia)];exact k lq _ (sm.trans (.upd mQ)) (jS sm mQ) aX
theorem nu1:(["k","at","left"]:List Str).Nodup:=by decide +kernel
theorem nu2:(["k","at","head","p"]:List Str).Nodup:=by decide +kernel
theorem nu3:(["number","p","turn"]:List Str).Nodup:=by decide +kernel
theorem RG:(["row","at","head","p"]:List Str).Nodup:=by decide +kernel
theorem RH{H:Hp}{la lh:Addr}{LS:List V}{L:LL}{n k:Nat}{h:List Int}{N:Addr→Prop}{Q:VK}{te:TE}(p2:2≤p)(gq:p≤97)(hn:n≤900)(hk:k<n)(g:H la=some (.lst LS))(hL:LR N H LS L)(hR:ck p n L)(gh:H lh=some (.lst (h.map V.int)))(hh:Rw p n h)(hz:LS.length≤1000)
  (Ik:∀(x:Addr)(H1:Hp)(R:VK),Kd K [.int p,.ref x,.ref lh,.int (k:Int)] H1 R (λ_ _ _=>False)→te [some (.ref x),some (.int (k:Int)),some (.ref lh),some (.int p)] H1 R)
  (done:∀H' MS,aL H H'→LR (λa=>H a=none) H' MS (L.map (nC p k h))→∀l,H' l=none→Q (.ref l) (upd H' l (.lst MS))) :
  ∃W:Nat→Nat→St→Hp→List V→Prop,(∃m,W 0 m (List.replicate 1 none++[some (.int (k:Int)),some (.ref lh),some (.int p)]) H [])∧mq (qP K la) (cq 0) iP te Q W:=by
 refine pZ (xs:=LS) (cp:=[some (.int (k:Int)),some (.ref lh),some (.int p)]) (λi H' zs=>LR (λa=>H a=none) H' zs ((L.take i).map (nC p k h))) (.of g) (qD (BO hz)) LR.nil
  (λi H' zs h=>by rw[h.1,bj];exact pK _ _) ?_ ?_
 ·rintro i x H' zs i6 sm h';obtain⟨a,r,rfl,hr,_,ga⟩:=hL.get i6;have zu:=hR r (dY hr);refine iC (Ik a H' _ ⟨p,a,lh,r,h,n,k,(k:Int),rfl,rfl,p2,gq,hn,hk,sm _ _ ga,sm _ _ gh,zu,hh,λl H2 s2 DF gl=>?_⟩);refine⟨⟨[_],rfl,rfl⟩,sm.trans s2,?_⟩;rw[gZ,hr];show LR _ H2 _ ((L.take i++[r]).map (nC p k h));rw[cY];exact(h'.mono s2).snoc (jS sm DF) gl
 ·rintro H' zs sm h' l hl;rw[hL.1,r9]at h';exact done H' zs sm h' l hl
def RI(K:Frag):Sp:=λvs H Q _=>∃(p:Int)(a:Addr)(b:Bool)(XS:List V)(rs:LL)(n:Nat)(m:Int),vs=[.int p,.ref a,.int m]∧m=n∧p∈cX∧Sq b K H a XS∧LR (λ_=>True) H XS rs∧rs.length≤1000∧n≤900∧ck p n rs∧
 ∀t H' DS,aL H H'→bh K H' t DS→br K H' DS ((dI p rs).map cw)→Q (.ref t) H'
noncomputable abbrev vx:List Str:=["p","rows","width","left","done","at","some","head","turn"]
theorem qB:dj ["p","rows","width","left","done","at","some","head","turn"] ["p","rows","width"] (bo qe):=dQ rfl rfl rfl (by decide +kernel) rfl
theorem abL{fL:Addr}{ow:FuncData}(F:cG K "_law_reduced" "_law_reduced" qe f fd)(T:Txt mg)
  (GL:bz P w K mg base bx 1 fL ow ["p","row","head","at"] (Kd K)) (kL:Kp K fL) (bL:Binds K ow ["p","row","head","at"] []) (mL:Mg mg "_law_less" fL) :
  bz P w K mg base bx 2 f fd ["p","rows","width"] (RI K):=by
 refine F.ok qB (λvs H Q E h=>?_) (λbI A outer s H vs Q E hr h=>?_)
 ·obtain⟨p,a,b,XS,rs,n,m,rfl,_⟩:=h;rfl
 ·obtain⟨p,a,b,XS,rs,n,m,rfl,rfl,pp,hq,hA,hz,hn,hR,q⟩:=h;obtain⟨p2,gq⟩:=fI p pp;have p0:0<p:=by lia
  have oA:(1000:Nat)≤sizeLine:=by decide
  have hXl:=hA.1;refine⟨_,bg (cm (i:=3) qB.nd rfl (Or.inr rfl) (fY (N:=["row"]) (own:=1) (caps:=[]) rfl (Rm K rfl b (pv 1)) (show dk vx (bo qe) ["row"] 1 [] _ from .mk' (by decide +kernel)) (λ_ _ _ _ _=>cF (i:=0) RE rfl (.inl rfl)) (λ_ _ _ _ _=>eU) (λ_ _ _ _ _=>mi (Nw K rfl) rfl T.list Ny (aJ (pv 0) aQ)))) (bg (cm (i:=4) qB.nd rfl (.inl rfl) (cZ aQ)) (bg (mf nS rfl (j6 rfl T.range (aJ (pv 2) aQ)) (cF (i:=5) qB.nd rfl (Or.inr rfl)) (bg (nY (i:=6) (N:=["k","at","left"]) (own:=1) (caps:=[5,3]) rfl qB.nd rfl rfl (j6 rfl T.range (aJ (iN (ko K rfl) rfl T.len kq (aJ (pv 3) aQ)) aQ)) (show dk vx (bo qe) ["k","at","left"] 1 [5,3] _ from .mk' (by decide +kernel)) (λ_ _ _ _ _=>cF (i:=0) nu1 rfl (.inl rfl)) (λ_ _ _ _ _=>wg (dg yo (bc (bV K rfl) (bc (bV K rfl) (pv 2) (pv 0) (λ_ _=>rfl)) (pv 1) (λ_ _=>rfl)) aO (de _))) (λ_ _ _ _ _=>pv 0)) (bQ (ee (dg FF (iN (ko K rfl) rfl T.len kq (aJ (pv 6) aQ)) aO (de _)) (bg (cm (i:=7) qB.nd rfl (Or.inr rfl) (mj jJ xW xX Vi (pv 3) (aJ (bc (bV K rfl) (pv 6) aO (λ_ _=>rfl)) aQ))) (bg (cm (i:=8) qB.nd rfl (Or.inr rfl) (bc (bV K rfl) (fY (N:=["k","at","head","p"]) (own:=1) (caps:=[5,7,0]) rfl (Uz rfl T.range (aJ aO (aJ (pv 0) aQ))) (show dk vx (bo qe) ["k","at","head","p"] 1 [5,7,0] _ from .mk' (by decide +kernel)) (λ_ _ _ _ _=>cF (i:=0) nu2 rfl (.inl rfl)) (λ_ _ _ _ _=>wg (dg hI (aY gj (aY nq (pv 0) (bc (bV K rfl) (pv 2) (pv 1) (λ_ _=>rfl))) (pv 3)) aO (de _))) (λ_ _ _ _ _=>pv 0)) aO (λ_ _=>rfl))) (bg (cm (i:=7) qB.nd rfl (Or.inr rfl) (fY (N:=["number","p","turn"]) (own:=1) (caps:=[0,8]) rfl (lI K rfl (pv 7)) (show dk vx (bo qe) ["number","p","turn"] 1 [0,8] _ from .mk' (by decide +kernel)) (λ_ _ _ _ _=>cF (i:=0) nu3 rfl (.inl rfl)) (λ_ _ _ _ _=>eU) (λ_ _ _ _ _=>aY gj (aY nq (pv 0) (pv 2)) (pv 1)))) (bg (cm (i:=3) qB.nd rfl (Or.inr rfl) (fY (N:=["row","at","head","p"]) (own:=1) (caps:=[5,7,0]) rfl (lI K rfl (pv 3)) (show dk vx (bo qe) ["row","at","head","p"] 1 [5,7,0] _ from .mk' (by decide +kernel)) (λ_ _ _ _ _=>cF (i:=0) RG rfl (.inl rfl)) (λ_ _ _ _ _=>eU) (λ_ _ _ _ _=>cT GL hr rfl mL kL bL .nil cU (aJ (pv 3) (aJ (pv 0) (aJ (pv 2) (aJ (pv 1) aQ))))))) (bQ (cm (i:=4) qB.nd rfl (.inl rfl) (aY o8 (fY (N:=["row","at","head","p"]) (own:=1) (caps:=[5,7,0]) rfl (lI K rfl (pv 4)) (show dk vx (bo qe) ["row","at","head","p"] 1 [5,7,0] _ from .mk' (by decide +kernel)) (λ_ _ _ _ _=>cF (i:=0) RG rfl (.inl rfl)) (λ_ _ _ _ _=>eU) (λ_ _ _ _ _=>cT GL hr rfl mL kL bL .nil cU (aJ (pv 3) (aJ (pv 0) (aJ (pv 2) (aJ (pv 1) aQ)))))) (cZ (aJ (pv 7) aQ)))))))))
     eK)))) (bQ (cI (mi (o9 K rfl) rfl T.tuple pb (aJ (fY (N:=["row"]) (own:=1) (caps:=[]) rfl (lI K rfl (pv 4)) (show dk vx (bo qe) ["row"] 1 [] _ from .mk' (by decide +kernel)) (λ_ _ _ _ _=>cF (i:=0) RE rfl (.inl rfl)) (λ_ _ _ _ _=>eU) (λ_ _ _ _ _=>mi (o9 K rfl) rfl T.tuple pb (aJ (pv 0) aQ))) aQ)))))),?_⟩
  refine⟨_,rfl,a,rfl,⟨_,hq⟩,Rn (b:=b) (cp:=[]) (λi H' zs=>LR (λ_=>True) H' zs (rs.take i)) hq (by lia) LR.nil (λi H' zs h=>by rw[h.1];exact pK _ _) ?_ ?_⟩
  ·rintro i x H1 zs hx sm h1;obtain⟨ra,r,rfl,kH,_,gr⟩:=hA.get hx;refine iC ⟨_,rfl,ra,_,rfl,.inl (.of (sm _ _ gr)),λl hl=>⟨⟨[_],rfl,rfl⟩,sm.trans (.upd hl),?_⟩⟩;rw[gZ,kH];exact(h1.mono (.upd hl)).snoc trivial aX
  rintro H1 LS pe oi ll p8;rw[hXl,r9]at oi;refine⟨by decide,λld oq=>?_⟩;have AI:ld≠ll:=λz=>by rw[z,aX]at oq;cases oq
  have ju:aL H (upd (upd H1 ll (.lst LS)) ld (.lst [])):=(pe.trans (.upd p8)).trans (.upd oq);refine⟨_,rfl,(n:Int),rfl,by lia,by lia,sk (n:=n) (λk σ H'=>aL H H'∧∃(ll ld:Addr)(LS DS:List V)(L D:LL)(s5 s6 s7 s8:Option V),σ=[some (.int p),some (.ref a),some (.int (n:Int)),some (.ref ll),some (.ref ld),s5,s6,s7,s8]∧H ll=none∧ld≠ll∧H' ll=some (.lst LS)∧LR (·≠ll) H' LS L∧H' ld=some (.lst DS)∧LR (·≠ll) H' DS D∧jQ p n rs k (D,L)∧L.length≤1000) ⟨ju,ll,ld,LS,[],rs,[],_,_,_,_,rfl,jS pe p8,AI,aL.upd oq _ _ aX,(oi.fresh p8).mono (.upd oq),aX,LR.nil,.start hR,hz⟩ ?_ ?_⟩
  ·rintro k σ H2 hk ⟨sm,ll,ld,LS,DS,L,D,s5,s6,s7,s8,rfl,Ke,AI,gL,hL,gD,hD,RO,RJ⟩;rw[lA];have Kf:ck p n L:=RO.r;have RK:ck p n D:=RO.d;have Kg:=hL.1;have RL:=hD.1;have RM:=RO.len (qD hk);refine⟨_,rfl,ll,_,rfl,.inl (.of gL),(LS.length:Int),rfl,by lia,by lia,p7 (n:=LS.length) (lo:=0) (cp:=[some (.int (k:Int)),some (.ref ll)]) (λj H' zs=>zs=((List.range j).filter λu=>(L.map λr=>r.getD k 0).getD u 0≠0).map λ(u:Nat)=>V.int u) (by lia) rfl (λj H' zs e=>by rw[e,bj];exact eJ (vP _ _) (by rw[oM];exact cf _)) ?_ ?_⟩
   ·rintro j H' zs hj eI rfl;rw[lA];have Kh:j<L.length:=by lia
    obtain⟨ra,dJ,_,gr⟩:=hL.at (cn Kh);have hkr:k<(L[j]).length:=by rw[(Kf _ (gY Kh)).1];exact hk
    have ec:(L.map λr=>r.getD k 0).getD j 0=(L[j]).getD k 0:=by rw[cz,du,cn Kh];rfl
    refine⟨_,rfl,_,rfl,ll,_,(j:Int),.ref ra,rfl,rfl,.of (eI _ _ gL),bE dJ,_,rfl,ra,_,(k:Int),_,rfl,rfl,.of (eI _ _ gr),bE (nB hkr),rfl,_,rfl,wL (λcB=>?_) (λheq=>?_)⟩
    ·have uJ:(L.map λr=>r.getD k 0).getD j 0≠0:=λz=>cB (ai V.int (ec▸z));refine⟨_,rfl,⟨[_],rfl,rfl⟩,eI,?_⟩;rw[oP,pI,vO (by simpa using uJ),pJ,cY];rfl
    ·have uK:(L.map λr=>r.getD k 0).getD j 0=0:=ec.trans (V.int.inj heq);refine⟨⟨[_],rfl,rfl⟩,eI,?_⟩;rw[oP,pI,xU (by simpa using uK),pJ,iK]
   rintro H3 zs sT ez ls hls;have ez:zs=(js (L.map λr=>r.getD k 0)).map λ(u:Nat)=>V.int u:=by
    unfold js;rw[bj,← Kg];exact ez
   have ip:aL H2 (upd H3 ls (.lst zs)):=sT.trans (.upd hls);have g4:(upd H3 ls (.lst zs)) ls=some (.lst zs):=aX;generalize upd H3 ls (.lst zs)=H4 at ip g4 ⊢;subst ez;have Ki:=ip _ _ gL;have BS:=ip _ _ gD;have Kj:=hL.mono ip;have RN:=hD.mono ip;refine⟨_,rfl,ls,_,rfl,.inl (.of g4),_,_,rfl,rfl,_,rfl,pX (λhc=>?_) (λhc=>?_)⟩
   ·cases i3:js (L.map λr=>r.getD k 0) with
    |nil=>
     rw[i3]at hc;exact absurd (aG hc) (by simp)
    |cons i tl=>
     obtain⟨c1,c2,c3⟩:=NX i3;rw[bj]at c1;have hi:=cn c1;have ec:∀{j:Nat}{r:List Int},L[j]?=some r→(L.map λr=>r.getD k 0).getD j 0=r.getD k 0:=λe=>by rw[cz,du,e];rfl
     rw[ec hi]at c2;have hf:∀j r,j<i→L[j]?=some r→r.getD k 0=0:=λj r hj e=>by rw[← ec e];exact c3 j hj
     have ox:Rw p n L[i]:=Kf _ (gY c1);have EB:=RO.head pp hk hi c2 hf;obtain⟨ha,ik,neh,gh⟩:=Kj.at hi;generalize L[i]=h at hi c2 ox EB gh;rw[i3]at g4;refine⟨_,rfl,.inl ⟨rfl,_,dw.of Ki⟩,_,rfl,ls,_,0,.int (i:Int),rfl,rfl,.of g4,bE (j:=0) rfl,ll,LS,(i:Int),i,.ref ha,rfl,rfl,Ki,by lia,by lia,?_,ik,?_⟩
     ·unfold seqIndex?;simp;lia
     have sV:aL H (upd H4 ll (.lst (LS.eraseIdx i))):=(sm.trans ip).write Ke;have gA:(upd H4 ll (.lst (LS.eraseIdx i))) ll=some (.lst (LS.eraseIdx i)):=aX;have ED:(upd H4 ll (.lst (LS.eraseIdx i))) ha=some (.lst (h.map V.int)):=by rw[bZ neh];exact gh
     have RP:LR (·≠ll) (upd H4 ll (.lst (LS.eraseIdx i))) (LS.eraseIdx i) (L.eraseIdx i):=(Kj.erase i).wr;have RQ:LR (·≠ll) (upd H4 ll (.lst (LS.eraseIdx i))) DS D:=RN.wr;have Kk:(upd H4 ll (.lst (LS.eraseIdx i))) ld=some (.lst DS):=by rw[bZ AI];exact BS
     generalize upd H4 ll (.lst (LS.eraseIdx i))=H5 at sV gA ED RP RQ Kk ⊢;have hkh:k<h.length:=by rw[ox.1];exact hk
     have hxh:=ox.at p0 k;have yr:=yT (n:=h.getD k 0) pp (by lia) hxh.2;refine⟨_,rfl,1,p,rfl,⟨by decide,by decide,by lia,by lia⟩,p7 (n:=(p-1).toNat) (lo:=1) (cp:=[some (.int (k:Int)),some (.ref ha),some (.int p)]) (λj H' zs=>zs=((List.range j).filter λ(u:Nat)=>(1+(u:Int))*h.getD k 0%p=1).map λ(u:Nat)=>V.int (1+(u:Int))) (by lia) rfl (λj H' zs e=>by rw[e,bj];exact eJ (vP _ _) (by rw[oM];exact cf _)) ?_ ?_⟩
     ·rintro j H' zs hj eI rfl;refine⟨_,rfl,_,rfl,_,rfl,ha,_,(k:Int),_,rfl,rfl,.of (eI _ _ ED),bE (nB hkh),_,_,rfl,rfl,.inl ⟨by lia,by lia⟩,_,rfl,_,_,rfl,rfl,(by show(0:Int)<p;lia),rfl,_,rfl,pX (λheq=>?_) (λcB=>?_)⟩
      ·have uK:(1+(j:Int))*h.getD k 0%p=1:=V.int.inj (aG heq);refine⟨_,rfl,⟨[_],rfl,rfl⟩,eI,?_⟩;rw[oP,pI,vO (by simpa using uK),pJ,cY];rfl
      ·have uJ:¬(1+(j:Int))*h.getD k 0%p=1:=λz=>cB (aD (ai V.int z));refine⟨⟨[_],rfl,rfl⟩,eI,?_⟩;rw[oP,pI,xU (by simpa using uJ),pJ,iK]
     rintro H8 zs rE RR lc zL;have RT:(eE p (h.getD k 0)-1).toNat∈(List.range (p-1).toNat).filter λ(u:Nat)=>(1+(u:Int))*h.getD k 0%p=1:=by
      refine jZ.mpr ⟨nN.mpr (by lia),?_⟩
      have:(1:Int)+((eE p (h.getD k 0)-1).toNat:Int)=eE p (h.getD k 0):=by lia
      simp only[this,aF];exact yr.2.2
     cases uH:(List.range (p-1).toNat).filter λ(u:Nat)=>(1+(u:Int))*h.getD k 0%p=1 with
     |nil=>rw[uH]at RT;cases RT
     |cons u us=>
      have sW:u∈(List.range (p-1).toNat).filter λ(u:Nat)=>(1+(u:Int))*h.getD k 0%p=1:=by rw[uH];exact cP
      have RU:=jZ.mp sW;have RV:(1+(u:Int))*h.getD k 0%p=1:=by simpa using RU.2
      have hu4:=nN.mp RU.1;rw[uH]at RR;have oy:aL H5 (upd H8 lc (.lst zs)):=rE.trans (.upd zL);have g9:(upd H8 lc (.lst zs)) lc=some (.lst zs):=aX;generalize upd H8 lc (.lst zs)=H9 at oy g9 ⊢;subst RR;refine⟨lc,_,0,.int (1+(u:Int)),rfl,rfl,.of g9,bE (j:=0) rfl,?_⟩;have RW:1≤1+(u:Int):=by lia
      have RX:1+(u:Int)<p:=by lia
      generalize 1+(u:Int)=cu at RV RW RX ⊢;have ehl:=YM pp ox c2 RW RX RV;refine⟨_,rfl,ha,rfl,⟨_,.of (oy _ _ ED)⟩,pZ (cp:=[some (.int p),some (.int cu)]) (λj H' zs=>zs=((h.take j).map λy=>y*cu%p).map V.int) (.of (oy _ _ ED)) (by rw[bj,ox.1];lia) rfl (λj H' zs e=>by rw[e,bj,bj];exact pK _ _) ?_ ?_⟩
      ·rintro j y H' zs hy eI rfl;rw[du]at hy;cases f1:h[j]? with
       |none=>rw[f1]at hy;cases hy
       |some y'=>
        rw[f1]at hy;cases hy;refine iC ⟨_,rfl,_,rfl,_,_,rfl,rfl,.inr ⟨by lia,by lia⟩,_,rfl,_,_,rfl,rfl,(by show(0:Int)<p;lia),⟨[_],rfl,rfl⟩,eI,?_⟩;rw[gZ,f1];simp
      rintro HA zs smB rfl lh C2;rw[bj,r9,ehl];have jo:=yX (place:=k) p0 ox;have oz:aL H5 (upd HA lh (.lst ((dR p n h k).map V.int))):=(oy.trans smB).trans (.upd C2);have gC:(upd HA lh (.lst ((dR p n h k).map V.int))) lh=some (.lst ((dR p n h k).map V.int)):=aX;generalize upd HA lh (.lst ((dR p n h k).map V.int))=HC at oz gC ⊢;generalize dR p n h k=hd at jo gC EB;have RY:∀{M:LL},ck p n M→M.map (eA p hd k)=M.map (nC p k hd):=λhM=>Bc λr hr=>(YK p0 jo (hM r hr)).symm;have RZ:ck p n (L.eraseIdx i):=λr hr=>Kf r (List.mem_of_mem_eraseIdx hr);rw[RY RK,RY RZ]at EB;refine⟨_,rfl,ll,rfl,⟨_,.of (oz _ _ gA)⟩,RH p2 gq hn hk (oz _ _ gA) (RP.mono oz) RZ gC jo (by rw[List.length_eraseIdx];split<;>lia) (λx H1 R z=>⟨_,rfl,_,rfl,_,rfl,_,rfl,z⟩) ?_⟩
      rintro HD MS AJ hM lm sM;have AK:aL H5 (upd HD lm (.lst MS)):=(oz.trans AJ).trans (.upd sM);have gE:(upd HD lm (.lst MS)) lm=some (.lst MS):=aX;have Kl:(upd HD lm (.lst MS)) lh=some (.lst (hd.map V.int)):=aL.upd sM _ _ (AJ _ _ gC);have R0:LR (·≠lm) (upd HD lm (.lst MS)) MS ((L.eraseIdx i).map (nC p k hd)):=hM.fresh sM;have lmH:H lm=none:=jS ((sV.trans oz).trans AJ) sM;have abM:lh≠lm:=λz=>by
       have:=AJ _ _ gC
       rw[z,sM]at this;cases this
      have acR:∀{x:Addr}{o:HO},H5 x=some o→x≠lm:=λe z=>by
       have:=(oz.trans AJ) _ _ e
       rw[z,sM]at this;cases this
      generalize upd HD lm (.lst MS)=HE at AK gE Kl R0 ⊢;refine⟨_,rfl,ld,rfl,⟨_,.of (AK _ _ Kk)⟩,RH p2 gq hn hk (AK _ _ Kk) (RQ.mono AK) RK Kl jo (by lia) (λx H1 R z=>⟨_,rfl,_,rfl,_,rfl,_,rfl,z⟩) ?_⟩;rintro HF NS R1 hN l1 h1;have hNl:=hN.1;rw[bj]at hNl;refine⟨_,rfl,(by show 1≤sizeLine;lia),λl2 h2=>⟨l1,l2,NS,[.ref lh],rfl,rfl,aL.upd h2 _ _ aX,aX,by show NS.length+1≤sizeLine;lia,λl3 h3=>?_⟩⟩;have EE:aL HE (upd (upd (upd HF l1 (.lst NS)) l2 (.lst [.ref lh])) l3 (.lst (NS++[.ref lh]))):=(R1.trans (.upd h1)).trans ((aL.upd h2).trans (.upd h3));have smH:=AK.trans EE;have ne3:l3≠lm:=λz=>by
       have:=((R1.trans (aL.upd h1 (o:=.lst NS))).trans (aL.upd h2 (o:=.lst [.ref lh]))) _ _ gE
       rw[z]at h3;rw[h3]at this;cases this
      have hN2:LR (·≠lm) HF NS (D.map (nC p k hd)):=⟨hN.1,λi v r e1 e2=>by
       obtain⟨x,e,hx,gx⟩:=hN.2 i v r e1 e2;have nx:x≠lm:=λz=>by rw[z,gE]at hx;cases hx
       exact⟨x,e,nx,gx⟩⟩
      refine⟨sV.trans smH,lm,l3,MS,NS++[.ref lh],_,_,_,_,_,_,rfl,lmH,ne3,EE _ _ gE,R0.mono EE,aX,?_,EB,by rw[bj,List.length_eraseIdx];split<;>lia⟩
      exact(hN2.mono ((aL.upd h1).trans ((aL.upd h2).trans (.upd h3)))).snoc abM (EE _ _ Kl)
   ·have abN:js (L.map λr=>r.getD k 0)=[]:=by
     cases i3:js (L.map λr=>r.getD k 0) with
     |nil=>rfl
     |cons i tl=>rw[i3]at hc;exact absurd (aD (by simp)) hc
    refine⟨sm.trans ip,ll,ld,LS,DS,L,D,_,_,_,_,rfl,Ke,AI,Ki,Kj,BS,RN,RO.skip λr hr=>?_,RJ⟩;obtain⟨j,hj,rfl⟩:=l5.mp hr
    have:=NW abN j (by rw[bj];exact hj)
    rwa[cz,du,cn hj]at this
  ·rintro σ H2 ⟨sm,ll,ld,LS,DS,L,D,s5,s6,s7,s8,rfl,Ke,AI,gL,hL,gD,hD,RO,RJ⟩;have eD:=RO.done pp hR;have RM:=RO.len (cf n);have RL:=hD.1;refine⟨_,rfl,ld,rfl,⟨_,.of gD⟩,pZ (cp:=[]) (λi H' zs=>br K H' zs ((D.take i).map cw)) (.of gD) (by lia) .nil (λi H' zs h=>by rw[gN h];exact pK _ _) ?_ ?_⟩
   ·rintro i x H3 zs hx sT h3;obtain⟨ra,r,rfl,kG,_,gr⟩:=hD.get hx;refine iC ⟨_,rfl,ra,_,rfl,.inl ⟨.of (sT _ _ gr),λt ht=>⟨⟨[_],rfl,rfl⟩,sT.trans (.upd ht),?_⟩⟩⟩;rw[gZ,kG];show br K _ _ ((D.take i++[r]).map cw);rw[cY];exact(h3.mono (.upd ht)).append (.cons (ke (.of aX)) .nil)
   ·rintro H3 TS sT h3 lt cL;rw[RL,r9,eD]at h3;refine⟨lt,_,rfl,.inl ⟨.of aX,λt ht=>q t _ TS ((sm.trans sT).trans ((aL.upd cL).trans (.upd ht))) (.of aX) (h3.mono ((aL.upd cL).trans (.upd ht)))⟩⟩
def Km(K:Frag):Sp:=λvs H Q _=>∃(i:Int)(x:Str)(pa:Addr)(ps:List V),vs=[.int i,.str x,.ref pa]∧H pa=some (.lst ps)∧aao K x ps H Q
theorem abO{aS aB fU fJ:Addr}{AL Aw:FuncData}(F:cG K "measure" "measure" wK f fd)(B:nE K mg aS aB)(M:uW K aS=true)
  (GU:bz P w K mg base bx 1 fU AL ["parts"] (P8 K)) (kU:Kp K fU) (bU:Binds K AL ["parts"] []) (mU:Mg mg "first_unmet" fU)
  (GJ:bz P w K mg base bx 1 fJ Aw ["word","parts"] (Qa K)) (kJ:Kp K fJ) (bJ:Binds K Aw ["word","parts"] []) (mJ:Mg mg "joined_sides" fJ) :
  bz P w K mg base bx 2 f fd ["place","word","parts"] (Km K):=by
 refine F.ok Df (λvs H Q E h=>?_) (λbI A outer s H vs Q E hr h=>?_)
 ·obtain⟨i,x,pa,ps,rfl,_⟩:=h;rfl
 ·obtain⟨i,x,pa,ps,rfl,hp,h⟩:=h;obtain⟨⟨tt,JI,Dx⟩,eb,es,et,tl,etl,htl⟩:=P7 M;refine⟨_,bg (ee (Fi (HI B.tabS (pv 1) (qK (v:=.ref _) rfl B.zB rfl)) rfl) (bQ (cI (aY (ft K rfl) (HH B.tabS (qK (v:=.ref _) rfl B.zB rfl) (pv 1) (λ_ _=>rfl)) (cE (aJ uf aQ))))) eK) (bg (cm (i:=3) Df.nd rfl (.inl rfl) (cT GU hr rfl mU kU bU .nil cU (aJ (pv 2) aQ))) (bg (ee (PW.pt (oU (dg hI (pv 1) dH (de _)) (oU (dg Mi (pv 3) uf (de _)) (ug (dg yo (bc (cC K rfl) (bc (bV K rfl) (pv 2) aO (λ_ _=>rfl)) aO (λ_ _=>rfl)) (bc (cC K rfl) (bc (bV K rfl) (pv 2) aO (λ_ _=>rfl)) aO (λ_ _=>rfl)) (de _)))))) (bQ (cm (i:=3) Df.nd rfl (.inl rfl) (pv 0))) eK) (bQ (cI (aY (ft K rfl) (cT GJ hr rfl mJ kJ bJ .nil cU (aJ (pv 1) (aJ (pv 2) aQ))) (cE (aJ (pv 3) aQ))))))),?_⟩;have z1:1≤sizeLine:=by decide
  have boxed:∀{t:Addr}{l r:Int},PyProof.Rows.KTD.datumAt x (fK K aS)=some (.ref t)→(∀H,bh K H t [.int l,.int r])→ic K H [.int l,.int r,.cg] Q→∀{u:TS}{D:Ends},D.rt=Q→cy (dW (tB (CA aS (fK K aS) (aW 1) (tC (.ref aS)))) (eh (cA (wB K) (Cz aS (fK K aS) (tC (.ref aS)) (aW 1)) (eS (aZ (tC .cg) bG)))) gi) u D [some (.int i),some (.str x),some (.ref pa),none] H:=λ{t l r} e ht q {u D} hD=>by
   refine⟨_,rfl,x,rfl,rfl,_,rfl,?_⟩;rw[e];refine gQ ⟨_,rfl,x,_,rfl,rfl,e,z1,λt1 g1=>?_⟩;refine⟨t,t1,_,_,rfl,rfl,ht _,.of aX,(by show 2+1≤sizeLine;decide),λa' H' s' h'=>?_⟩;show D.rt _ _;rw[hD];exact q a' H' ((aL.upd g1).trans s') h'
  have Kn:PyProof.Rows.KTD.datumAt x (fK K aS)=none→∀{u:TS}{D:Ends},u D [some (.int i),some (.str x),some (.ref pa),none] H→cy (dW (tB (CA aS (fK K aS) (aW 1) (tC (.ref aS)))) (eh (cA (wB K) (Cz aS (fK K aS) (tC (.ref aS)) (aW 1)) (eS (aZ (tC .cg) bG)))) gi) u D [some (.int i),some (.str x),some (.ref pa),none] H:=λe {u D} h=>by
   refine⟨_,rfl,x,rfl,rfl,_,rfl,?_⟩;rw[e];exact fi h
  cases h with
  |box l r aN hx q=>
   obtain⟨⟨t,e,ht⟩,_⟩:=B.at_ hx;exact boxed e ht q rfl
  |times hx q=>
   subst hx;exact boxed JI Dx q rfl
  |rL hx q=>
   subst hx;exact boxed etl htl q rfl
  |back a l r hx wU ha q=>
   subst hx;subst wU;refine Kn eb ⟨_,rfl,pa,_,rfl,hp,by simp,λj v hv=>?_,λH1 s1=>?_⟩
   ·match j,hv with
    |0,hv=>cases hv;exact⟨a,l,r,rfl,ha⟩
    |j+1,hv=>simp at hv
   refine⟨_,rfl,rfl,_,rfl,?_⟩;rw[aa (by decide)];refine fi (fi ?_);refine⟨_,rfl,_,rfl,_,pa,_,rfl,s1 _ _ hp,.inl ⟨a,l,r,rfl,rfl,s1.bq ha,λt H2 s2 ht=>⟨_,rfl,z1,λt1 g1=>?_⟩⟩⟩;exact⟨t,t1,_,_,rfl,rfl,(aL.upd g1).bq ht,.of aX,(by show 2+1≤sizeLine;decide),λa' H' s' h'=>q a' H' ((s1.trans s2).trans ((aL.upd g1).trans s')) h'⟩
  |cJ a b l r l' r' hx wU ha hb q=>
   subst hx;subst wU;refine Kn es ⟨_,rfl,pa,_,rfl,hp,by simp,λj v hv=>?_,λH1 s1=>?_⟩
   ·match j,hv with
    |0,hv=>cases hv;exact⟨a,l,r,rfl,ha⟩
    |1,hv=>cases hv;exact⟨b,l',r',rfl,hb⟩
    |j+2,hv=>simp at hv
   refine⟨_,rfl,rfl,_,rfl,?_⟩;rw[aa (by decide)];refine fi (fi ?_);refine⟨_,rfl,_,rfl,_,pa,_,rfl,s1 _ _ hp,.inr (.inl ⟨a,b,l,r,l',r',rfl,rfl,s1.bq ha,s1.bq hb,λt H2 s2 ht=>⟨_,rfl,z1,λt1 g1=>?_⟩⟩)⟩;exact⟨t,t1,_,_,rfl,rfl,(aL.upd g1).bq ht,.of aX,(by show 2+1≤sizeLine;decide),λa' H' s' h'=>q a' H' ((s1.trans s2).trans ((aL.upd g1).trans s')) h'⟩
  |bf a b l m r hx wU ha hb q=>
   subst hx;subst wU;refine Kn et ⟨_,rfl,pa,_,rfl,hp,by simp,λj v hv=>?_,λH1 s1=>?_⟩
   ·match j,hv with
    |0,hv=>cases hv;exact⟨a,l,m,rfl,ha⟩
    |1,hv=>cases hv;exact⟨b,m,r,rfl,hb⟩
    |j+2,hv=>simp at hv
   refine⟨_,rfl,rfl,_,rfl,?_⟩;rw[aD rfl];refine gQ ⟨_,rfl,rfl,_,rfl,?_⟩;rw[aD rfl];refine gQ ⟨_,rfl,pa,_,0,.ref a,rfl,rfl,.of (s1 _ _ hp),bE (j:=0) rfl,a,_,1,.int (m:Int),rfl,rfl,s1.bq ha,bE (j:=1) rfl,_,rfl,pa,_,1,.ref b,rfl,rfl,.of (s1 _ _ hp),bE (j:=1) rfl,b,_,0,.int (m:Int),rfl,rfl,s1.bq hb,bE (j:=0) rfl,rfl,_,rfl,wL (λz=>absurd rfl z) (λ_=>?_)⟩;refine⟨_,rfl,_,rfl,_,pa,_,rfl,s1 _ _ hp,.inr (.inr ⟨a,b,l,m,m,r,rfl,rfl,s1.bq ha,s1.bq hb,λt H2 s2 ht=>⟨_,rfl,z1,λt1 g1=>?_⟩⟩)⟩;exact⟨t,t1,_,_,rfl,rfl,(aL.upd g1).bq ht,.of aX,(by show 2+1≤sizeLine;decide),λa' H' s' h'=>q a' H' ((s1.trans s2).trans ((aL.upd g1).trans s')) h'⟩
theorem R3{z:Str}{ws:List V}{i:Nat}(h:ws[i]?=some v):dh z (ws.take (i+1))=dh z (ws.take i)+if fq v (.str z)=true then 1 else 0:=by
 rw[gZ,h,Ab];show _+dh z [v]=_;rw[DV];show _+(0+_)=_;rw[Nat.zero_add]
theorem R4:mE "late"=0:=by decide +kernel
theorem R5{c Pt fF fX fD:Addr}{pj R6 i7:FuncData}(F:cG K "ticks" "ticks" jR f fd)(gI:fd.code=.ref c)(C:CodeHd base c Pt)(BB:rm mg base)
  (GF:rn P w K mg base 10 fF pj ["words","made"] (Dg 8 P w K mg base)) (kF:Kp K fF) (bF:Binds K pj ["words","made"] []) (mF:Mg mg "folded" fF)
  (GX:bz P w K mg base bx 7 fX R6 ["p","words","place","parts"] (Qw K)) (kX:Kp K fX) (bX:Binds K R6 ["p","words","place","parts"] []) (mX:Mg mg "tick_form" fX)
  (GD:bz P w K mg base bx 3 fD i7 ["p","rows"] (rq K)) (kD:Kp K fD) (bD:Binds K i7 ["p","rows"] []) (mD:Mg mg "reduced" fD) :
  bz P w K mg base bx 11 f fd ["p","words"] (DW K Pt):=by
 refine F.Oy xl (λvs H Q E h=>?_) (λbI A outer s H vs Q E Jg hr h=>?_)
 ·obtain⟨p,aw,d,rfl,_⟩:=h;rfl
 ·obtain⟨p,aw,d,rfl,pp,hd,jx,rH,ir,gg,uV,q⟩:=h;have vU:bI=.ref c:=Jg.symm.trans gI;subst vU;have AM:dP 3 _:=hr.mono (by decide);refine⟨_,bg (cm (i:=2) (te:=rM rN (aW 1) (aZ (tC (.str "late")) bG)) xl.nd rfl (.inl rfl) (zS E8 E9 zT (pv 1) (aJ dH aQ))) (bg (cm (i:=3) xl.nd rfl (.inl rfl) (zd GF hr rfl mF kF bF (aJ (pv 1) (aJ (Oj (c:=c) (Pt:=Pt) (cl:=Ae s.heap.objs.size) rfl C BB aaQ) aQ)))) (bg (cm (i:=4) (te:=dD K 3 0) xl.nd rfl (Or.inr rfl) (bc (cC K rfl) (pv 3) aO (λ_ _=>rfl))) (bg (cm (i:=5) (te:=kg (aW 4) (dD K 3 1)) xl.nd rfl (Or.inr rfl) (aY dt (pv 4) (bc (cC K rfl) (pv 3) aO (λ_ _=>rfl)))) (bg (cm (i:=6) (te:=kg (aW 5) (aW 2)) xl.nd rfl (Or.inr rfl) (aY dt (pv 5) (pv 2))) (bQ (cI (te:=JN K) ?ret)))))),?_⟩
  case ret=>
   unfold JN;refine cT GD AM rfl mD kD bD .nil cU ?_;refine aJ (pv 0) ?_ ?_
   ·refine aJ ?_ aQ ?_
    ·refine fY (N:=["row","kept","left","onward"]) (own:=1) (caps:=[5,4,6]) rfl ?_ ?_ ?_ ?_ ?_
     ·exact lJ K rfl (bc (cC K rfl) (pv 3) aO (λ_ _=>rfl))
     ·exact(show dk JM (bo jR) ["row","kept","left","onward"] 1 [5,4,6] _ from .mk' (by decide +kernel))
     ·exact λ_ _ _ _ _=>cF (i:=0) ntk rfl (.inl rfl)
     ·exact λ_ _ _ _ _=>eU
     ·intro _ _ _ _ _;unfold DX;refine aY (ft K rfl) ?_ ?_
      ·refine aY (ft K rfl) ?_ ?_
       ·refine aY (ft K rfl) ?_ ?_
        ·exact gk (gK K rfl) (pv 0) iO (fb (pv 2))
        ·exact gk (gK K rfl) (pv 0) (fb (pv 1)) (fb (pv 3))
       ·exact gk (gK K rfl) (pv 0) (fb (pv 2)) (fb (pv 1))
      ·exact gk (gK K rfl) (pv 0) (fb (pv 3)) iO
    ·rfl
   ·rfl
  obtain⟨Z9,hP⟩:=uV.tab;refine⟨_,rfl,⟨aw,_,rfl,gg⟩,aw,_,"late",rfl,rfl,gg,rQ d,?_⟩;rw[oE hd];refine⟨_,rfl,uV,λfl HL Cq Jh Ji Jj aH sI I=>?_⟩;have sL:=y9.same Jh;have R7:HL aw=some (.tup d.aR):=sL _ _ (oB hP gg λ_ z=>nomatch z);have oT:∀(j:Nat)(y:Str)(v:V),JM[j]?=some y→([some (.int p),some (.ref aw),some (.int (d.aK:Int)),none,none,none,none]:St)[j]?=some (some v)→(bo jR).names.lookup y=some .cell→∃u,RelV v u∧sI.heap.IsCell (xk s.heap.objs.size y) (some u)∧HL (xk s.heap.objs.size y)=none:=λj y v hj hv hk=>by
   obtain⟨mm,hn,hl⟩:=I.loc;obtain⟨u,r,l⟩:=hl j y v hj hv (.inr (.inl hk));rcases l with⟨hU,_⟩|⟨_,c',jk,oT⟩
   ·have hU:(bo jR).names.lookup y=some .local:=hU;rw[hk]at hU;cases hU
   ·have jO:(cellsFrom (s.heap.objs.size+1) (bo jR).names []).lookup y=some c':=jk;rw[JK hk]at jO;cases jO;exact⟨u,r,oT,I.nU _ _ jk⟩
  have ew:([Itm.bu d]).flatMap Itm.aR=d.aR:=by simp[Itm.aR]
  have rJ:∀t∈[Itm.bu d],t.cK p:=λt ht=>by rw[cQ.mp ht];exact⟨hd,jx⟩
  refine⟨aw,fl,d.aR,λvs H' Q=>∃(i:Nat)(x:Str)(pa:Addr)(ps:List V),vs=[.int i,.str x,.ref pa]∧d.aR[i]?=some (.str x)∧H' pa=some (.lst ps)∧u9 K p d.aK (dh "late" (d.aR.take i)) x ps H' Q,λi vs H=>iw K p d.aK H (dh "late" (d.aR.take i)) (dz [.bu d] i) vs.reverse,rfl,?_⟩;refine⟨.of R7,rH,?_,?_,λi vs H1 H2 h tp=>h.tup tp,λi vs H1 h=>?_,λi hi=>?_,λi n vs H1 h g=>?_,λi x vs H1 h g=>?_,?_,λtd aU vs v H' s' h1 h2 h3=>?_⟩
  ·refine O4 (k:=7) (names:=["p","words"]) (caps:=[.int p,.ref aw]) (aaR I.ok.inj) Jj (λ_ _ _ us hu=>match us,hu with | [_,_,_],_=>rfl) (λj y hj=>?_) rfl (λvs H' Q ⟨i,x,pa,ps,e,_⟩=>by rw[e];rfl) (λc' A' aaa s' H' vs Q' kG eI Jk=>?_)
   ·match j,hj with
    |0,hj=>
     have e : "p"=y:=cN hj;subst e;obtain⟨u,r,h4,h5⟩:=oT 0 "p" (.int p) rfl rfl rfl;exact⟨_,_,u,rfl,rfl,r,h4,h5⟩
    |1,hj=>
     have e : "words"=y:=cN hj;subst e;obtain⟨u,r,h4,h5⟩:=oT 1 "words" (.ref aw) rfl rfl rfl;exact⟨_,_,u,rfl,rfl,r,h4,h5⟩
    |j+2,hj=>simp at hj
   ·obtain⟨i,x,pa,ps,rfl,hi,gT,hF⟩:=Jk;refine⟨_,cT GX kG rfl mX kX bX .nil cU (aJ (pv 3) (aJ (pv 4) (aJ (pv 0) (aJ (pv 2) aQ)))),?_⟩;refine⟨_,rfl,_,rfl,_,rfl,_,rfl,p,aw,pa,d.aR,ps,i,x,rfl,pp,eI _ _ R7,rQ d,hi,gT,?_,?_⟩
    ·rw[oE hd];exact ir
    ·rw[oE hd];exact hF
  ·show iw K p d.aK HL _ (dz [.bu d] d.aR.length) _;have e:=DD (ts:=[.bu d]);rw[ew]at e;rw[e];exact .nil
  ·have e:=h.len;have z:=Jc (ts:=[.bu d]) (i:=i);rw[xZ]at e;rw[ew]at z;lia
  ·obtain⟨t,r,e1,e2,e3⟩:=qi (ts:=[.bu d]) (i:=i) (by rw[ew];exact hi);rw[ew]at e2;rw[e2];cases t with
   |num n=>exact .inr ⟨n,rfl⟩
   |bu d'=>cases d'<;>exact .inl ⟨_,rfl⟩
  ·obtain⟨t,r,e1,e2,e3⟩:=qi (ts:=[.bu d]) (i:=i) (by rw[ew];exact(dO.mp h).1);rw[ew,h]at e2;cases t with
   |num m=>
    have e2:n=m:=V.int.inj (cN e2);subst e2;have g:iw K p d.aK H1 (dh "late" (d.aR.take (i+1))) (dz [.bu d] (i+1)) vs.reverse:=g;rw[e3,R3 h]at g;show iw K p d.aK H1 _ (dz [.bu d] i) (vs++[V.int n]).reverse;rw[e1,pM];exact .cons rfl g
   |bu d'=>cases d'<;>cases e2
  ·obtain⟨t,r,e1,e2,e3⟩:=qi (ts:=[.bu d]) (i:=i) (by rw[ew];exact(dO.mp h).1);rw[ew,h]at e2;have rK:t.cK p:=xj i rJ t (by rw[e1];exact cP);have hb:=aaN rJ i;rw[e1,ew,oE hd]at hb;have hb:dh "late" (d.aR.take i)+(t.aK+qm r)=d.aK:=hb;have g:iw K p d.aK H1 (dh "late" (d.aR.take (i+1))) (dz [.bu d] (i+1)) vs.reverse:=g;rw[e3,R3 h]at g;have wz:=Itm.aaO rK;rw[← cN e2]at wz;obtain⟨xs,ys,ev,g1,g2⟩:=g.split;rw[l6,← wz]at g2;generalize hcE:dh "late" (d.aR.take i)=c0 at hb g1 g2 ⊢;have zQ:vs=ys.reverse++xs.reverse:=by rw[← pM,← ev,Be]
   refine⟨ys.reverse,xs,zQ,?_,?_⟩
   ·have el:=g1.len;rw[el];cases t with
    |num m=>cases e2
    |bu d'=>
     cases d' with
     |box x' l' r' bY=>
      have e2:x=x':=V.str.inj (cN e2);subst e2;rcases rK.1 with z|⟨z,_⟩
      ·exact(Jd _ z).symm
      ·rw[z];exact R4.symm
     |times n=>have e2:x=_:=V.str.inj (cN e2);subst e2;exact IJ.symm
     |back d'=>have e2:x=_:=V.str.inj (cN e2);subst e2;exact II.symm
     |cJ a b=>have e2:x=_:=V.str.inj (cN e2);subst e2;exact Je.symm
     |bf a b=>have e2:x=_:=V.str.inj (cN e2);subst e2;exact Jf.symm
   ·intro pa H2 Q' tp hp hq;refine⟨i,x,pa,_,rfl,h,hp,?_⟩;rw[hcE];have g1:=g1.tup tp;have g2:=g2.tup tp;have fin:∀v H3,aL H2 H3→Ad K p d.aK c0 H3 t v→Q' v H3:=λv H3 s3 hv=>hq v H3 s3 (by
     show iw K p d.aK H3 c0 (dz [.bu d] i) _;rw[e1,pM,Be];exact .cons hv (g2.tup s3.tup))
    cases t with
    |num m=>cases e2
    |bu d'=>
     obtain⟨vy,cL⟩:=rK;have hb:c0+(d'.aK+qm r)=d.aK:=hb;cases d' with
     |box x' l' r' bY=>
      have e2:x=x':=V.str.inj (cN e2);subst e2;rcases vy with z|⟨z,zl,zr⟩
      ·refine .box l' r' bY z λv H3 s3 hv=>fin _ H3 s3 ⟨v,rfl,?_⟩;unfold Drw.eB;rw[af (tH _ z)];exact hv
      ·subst z zl zr;have hb:c0+(1+qm r)=d.aK:=hb;refine .rL rfl (by lia) λv H3 s3 hv=>fin _ H3 s3 ⟨v,rfl,?_⟩;unfold Drw.eB;rw[ae rfl];exact hv
     |times n=>
      have e2:x=_:=V.str.inj (cN e2);subst e2;cases g1 with
      |cons h1 r1=>
       cases r1;have h1:_=V.int n:=h1;subst h1;exact .times n rfl rfl λv H3 s3 hv=>fin _ H3 s3 ⟨v,rfl,hv⟩
     |back d'=>
      have e2:x=_:=V.str.inj (cN e2);subst e2;have hb:c0+(d'.aK+qm r)=d.aK:=hb;have g1:iw K p d.aK H2 c0 [.bu d'] xs:=g1;cases g1 with
      |cons h1 r1=>
       cases r1;obtain⟨a,rfl,hf⟩:=h1;obtain⟨b1,b2,b3,b4⟩:=Drw.jA pp ir (d:=d') (c:=c0) vy cL (by lia);exact .made (.inl rfl) (.old (.back a _ _ (2*d.aK) _ rfl rfl hf b1 b2 (by lia) (by lia) b4 λv H3 s3 hv=>fin _ H3 s3 ⟨v,rfl,hv⟩))
     |cJ a b=>
      have e2:x=_:=V.str.inj (cN e2);subst e2;have hb:c0+(a.aK+b.aK+qm r)=d.aK:=hb;have g1:iw K p d.aK H2 c0 [.bu a,.bu b] xs:=g1;cases g1 with
      |cons h1 r1=>
       cases r1 with
       |cons h2 r2=>
        cases r2;obtain⟨a1,rfl,hf⟩:=h1;obtain⟨a2,rfl,mI⟩:=h2;obtain⟨b1,b2,b3,b4⟩:=Drw.jA pp ir (d:=a) (c:=c0) vy.1 cL.1 (by lia);obtain⟨c1,c2,c3,c4⟩:=Drw.jA pp ir (d:=b) (c:=c0+a.aK) vy.2 cL.2.1 (by lia);exact .made (.inr (.inl rfl)) (.cJ a1 a2 _ _ _ _ _ _ (2*d.aK) rfl rfl hf mI b1 b2 c1 c2 (by lia) b3 c3 b4 c4 λv H3 s3 hv=>fin _ H3 s3 ⟨v,rfl,hv⟩)
     |bf a b=>
      have e2:x=_:=V.str.inj (cN e2);subst e2;have hb:c0+(a.aK+b.aK+qm r)=d.aK:=hb;have g1:iw K p d.aK H2 c0 [.bu a,.bu b] xs:=g1;cases g1 with
      |cons h1 r1=>
       cases r1 with
       |cons h2 r2=>
        cases r2;obtain⟨a1,rfl,hf⟩:=h1;obtain⟨a2,rfl,mI⟩:=h2;obtain⟨b1,b2,b3,b4⟩:=Drw.jA pp ir (d:=a) (c:=c0) vy.1 cL.1 (by lia);obtain⟨c1,c2,c3,c4⟩:=Drw.jA pp ir (d:=b) (c:=c0+a.aK) vy.2.1 cL.2 (by lia);rw[← vy.2.2]at mI c4;exact .made (.inr (.inr rfl)) (.bf a1 a2 _ _ _ _ _ (2*d.aK) rfl rfl hf mI b1 b2 c2 (by lia) b3 c3 b4 c4 λv H3 s3 hv=>fin _ H3 s3 ⟨v,rfl,hv⟩)
  ·cases d<;>exact⟨_,rfl⟩
  ·have h3:iw K p d.aK H' 0 [.bu d] (vs++[v]).reverse:=h3;rw[pM]at h3;cases h3 with
   |cons hv r=>
    obtain⟨a,rfl,hf⟩:=hv;obtain⟨b1,b2,b3,b4⟩:=Drw.jA pp ir (d:=d) (c:=0) hd jx (by lia);exact⟨td,aU,_,rfl,h1,h2,aaT pp hf b3 b1 b2 ir b4 λv' DS ph nu zZ hD=>q v' DS ph (sL.trans (s'.trans nu)) ((Ji.mono s').mono nu) zZ hD⟩
def AN(K:Frag)(H:Hp):Itm→V→Prop
 | .num n,v=>v=.int n
 | .bu d,v=>∃a,v=.ref a∧nI K H a d.aI d.aM
inductive jh(K:Frag)(H:Hp):List Itm→List V→Prop where
 |nil:jh K H [] []
 |cons {t:Itm} {ts:List Itm} {v:V} {vs:List V} (h:AN K H t v) (r:jh K H ts vs):jh K H (t::ts) (v::vs)
section
variable{K:Frag}{H H':Hp}
theorem AN.tup{t:Itm}(h:AN K H t v)(s:fw H H'):AN K H' t v:=by
 cases t with
 |num n=>exact h
 |bu d=>
  obtain⟨a,e,hf⟩:=h;exact⟨a,e,s.bq hf⟩
theorem jh.tup{ts:List Itm}{vs:List V}(h:jh K H ts vs)(s:fw H H'):jh K H' ts vs:=by
 induction h with
 |nil=>exact .nil
 |cons h r ih=>exact .cons (h.tup s) ih
theorem jh.len{ts:List Itm}{vs:List V}(h:jh K H ts vs):vs.length=ts.length:=by
 induction h with
 |nil=>rfl
 |cons h r ih=>rw[dB,dB,ih]
theorem jh.split:∀{ts us:List Itm}{vs:List V},jh K H (ts++us) vs→∃xs ys,vs=xs++ys∧jh K H ts xs∧jh K H us ys
 | [],us,vs,h=>⟨[],vs,rfl,.nil,h⟩
 |t::ts,us,_,.cons h r=>by
  obtain⟨xs,ys,e,h1,h2⟩:=jh.split (ts:=ts) r;exact⟨_::xs,ys,by rw[e];rfl,.cons h h1,h2⟩
end
def R8(K:Frag):Sp:=λvs H Q _=>∃(p:Int)(aw:Addr)(d:Drw),vs=[.ref aw]∧d.cK p∧d.sm∧d.aR.length≤900000∧bh K H aw d.aR∧∀v H',aL H H'→nI K H' v d.aI d.aM→Q (.ref v) H'
theorem abP{fF fM:Addr}{pj gO:FuncData}(F:cG K "measured" "measured" CK f fd)
  (GF:rn P w K mg base 4 fF pj ["words","made"] (Dg 2 P w K mg base)) (kF:Kp K fF) (bF:Binds K pj ["words","made"] []) (mF:Mg mg "folded" fF)
  (GM:bz P w K mg base bx 2 fM gO ["place","word","parts"] (Km K)) (FM:cG K "measure" "measure" wK fM gO) (bM:Binds K gO ["place","word","parts"] []) (mM:Mg mg "measure" fM):bz P w K mg base bx 5 f fd ["words"] (R8 K):=by
 refine F.ok Pa (λvs H Q E h=>?_) (λbI A outer s H vs Q E hr h=>?_)
 ·obtain⟨p,aw,d,rfl,_⟩:=h;rfl
 ·obtain⟨p,aw,d,rfl,hd,jx,rH,hw,q⟩:=h;have ew:([Itm.bu d]).flatMap Itm.aR=d.aR:=by simp[Itm.aR]
  have rJ:∀t∈[Itm.bu d],t.cK p:=λt ht=>by rw[cQ.mp ht];exact⟨hd,jx⟩
  refine⟨_,bQ (cI (zd GF hr rfl mF kF bF (aJ (pv 0) (aJ (qK (v:=.ref _) rfl mM rfl) aQ)))),?_⟩;refine⟨_,rfl,λaH s1 I=>⟨aw,fM,d.aR,λvs H' Q=>Km K vs H' Q E0,λi vs H'=>jh K H' (dz [.bu d] i) vs.reverse,rfl,?_⟩⟩;refine⟨hw,rH,pd.OG GM FM bM,?_,λi vs H1 H2 h tp=>h.tup tp,λi vs H1 h=>?_,λi hi=>?_,λi n vs H1 h g=>?_,λi x vs H1 h g=>?_,?_,λtd aU vs v H' s' h1 h2 h3=>?_⟩
  ·show jh K H (dz [.bu d] d.aR.length) _;have e:=DD (ts:=[.bu d]);rw[ew]at e;rw[e];exact .nil
  ·have e:=h.len;have z:=Jc (ts:=[.bu d]) (i:=i);rw[xZ]at e;rw[ew]at z;lia
  ·obtain⟨t,r,e1,e2,e3⟩:=qi (ts:=[.bu d]) (i:=i) (by rw[ew];exact hi);rw[ew]at e2;rw[e2];cases t with
   |num n=>exact .inr ⟨n,rfl⟩
   |bu d'=>cases d'<;>exact .inl ⟨_,rfl⟩
  ·obtain⟨t,r,e1,e2,e3⟩:=qi (ts:=[.bu d]) (i:=i) (by rw[ew];exact(dO.mp h).1);rw[ew,h]at e2;cases t with
   |num m=>
    have e2:n=m:=V.int.inj (cN e2);subst e2;have g:jh K H1 (dz [.bu d] (i+1)) vs.reverse:=g;rw[e3]at g;show jh K H1 (dz [.bu d] i) (vs++[V.int n]).reverse;rw[e1,pM];exact .cons rfl g
   |bu d'=>cases d'<;>cases e2
  ·obtain⟨t,r,e1,e2,e3⟩:=qi (ts:=[.bu d]) (i:=i) (by rw[ew];exact(dO.mp h).1);rw[ew,h]at e2;have rK:t.cK p:=xj i rJ t (by rw[e1];exact cP);have g:jh K H1 (dz [.bu d] (i+1)) vs.reverse:=g;rw[e3]at g;obtain⟨xs,ys,ev,g1,g2⟩:=g.split;have zQ:vs=ys.reverse++xs.reverse:=by rw[← pM,← ev,Be]
   refine⟨ys.reverse,xs,zQ,?_,?_⟩
   ·have el:=g1.len;rw[el];cases t with
    |num m=>cases e2
    |bu d'=>
     cases d' with
     |box x' l' r' bY=>
      have e2:x=x':=V.str.inj (cN e2);subst e2;rcases rK.1 with h|h
      ·exact(Jd _ h).symm
      ·rw[h.1];exact R4.symm
     |times n=>have e2:x=_:=V.str.inj (cN e2);subst e2;exact IJ.symm
     |back d'=>have e2:x=_:=V.str.inj (cN e2);subst e2;exact II.symm
     |cJ a b=>have e2:x=_:=V.str.inj (cN e2);subst e2;exact Je.symm
     |bf a b=>have e2:x=_:=V.str.inj (cN e2);subst e2;exact Jf.symm
   ·intro pa H2 Q' tp hp hq;refine⟨_,_,pa,_,rfl,hp,?_⟩;have g1:=g1.tup tp;have g2:=g2.tup tp;have fin:∀v H3,aL H2 H3→AN K H3 t (.ref v)→Q' (.ref v) H3:=λv H3 s3 hv=>hq (.ref v) H3 s3 (by
     show jh K H3 (dz [.bu d] i) _;rw[e1,pM,Be];exact .cons hv (g2.tup s3.tup))
    cases t with
    |num m=>cases e2
    |bu d'=>
     obtain⟨ir,cL⟩:=rK;cases d' with
     |box x' l' r' bY=>
      have e2:x=x':=V.str.inj (cN e2);subst e2;rcases ir with h|⟨h1,h2,h3⟩
      ·exact .box _ _ _ h λv H3 s3 hv=>fin v H3 s3 ⟨v,rfl,hv⟩
      ·subst h2 h3;exact .rL h1 λv H3 s3 hv=>fin v H3 s3 ⟨v,rfl,hv⟩
     |times n=>
      have e2:x=_:=V.str.inj (cN e2);exact .times e2 λv H3 s3 hv=>fin v H3 s3 ⟨v,rfl,hv⟩
     |back d'=>
      have e2:x=_:=V.str.inj (cN e2);cases g1 with
      |cons h1 r1=>
       cases r1;obtain⟨a,rfl,hf⟩:=h1;exact .back a _ _ e2 rfl hf λv H3 s3 hv=>fin v H3 s3 ⟨v,rfl,hv⟩
     |cJ a b=>
      have e2:x=_:=V.str.inj (cN e2);cases g1 with
      |cons h1 r1=>
       cases r1 with
       |cons h2 r2=>
        cases r2;obtain⟨a1,rfl,hf⟩:=h1;obtain⟨a2,rfl,mI⟩:=h2;exact .cJ a1 a2 _ _ _ _ e2 rfl hf mI λv H3 s3 hv=>fin v H3 s3 ⟨v,rfl,hv⟩
     |bf a b=>
      have e2:x=_:=V.str.inj (cN e2);cases g1 with
      |cons h1 r1=>
       cases r1 with
       |cons h2 r2=>
        cases r2;obtain⟨a1,rfl,hf⟩:=h1;obtain⟨a2,rfl,mI⟩:=h2;rw[← ir.2.2]at mI;exact .bf a1 a2 _ _ _ e2 rfl hf mI λv H3 s3 hv=>fin v H3 s3 ⟨v,rfl,hv⟩
  ·cases d<;>exact⟨_,rfl⟩
  ·have h3:jh K H' [.bu d] (vs++[v]).reverse:=h3;rw[pM]at h3;cases h3 with
   |cons hv r=>
    obtain⟨a,rfl,hf⟩:=hv;exact⟨td,aU,_,rfl,h1,h2,q a H' s' hf⟩
def Ko(K:Frag):Sp:=λvs H Q _=>∃(p:Int)(aw:Addr)(d:Drw),vs=[.ref aw]∧d.cK p∧d.sm∧d.aR.length≤900000∧bh K H aw d.aR∧∀v H',aL H H'→bh K H' v [.int (d.aI:Int),.int (d.aM:Int)]→Q (.ref v) H'
theorem abQ{fM:Addr}{gO:FuncData}(F:cG K "wires" "wires" CI f fd)
  (GM:bz P w K mg base bx 5 fM gO ["words"] (R8 K)) (kM:Kp K fM) (bM:Binds K gO ["words"] []) (mM:Mg mg "measured" fM):bz P w K mg base bx 6 f fd ["words"] (Ko K):=by
 refine F.ok Pb (λvs H Q E h=>?_) (λbI A outer s H vs Q E hr h=>?_)
 ·obtain⟨p,aw,d,rfl,_⟩:=h;rfl
 ·obtain⟨p,aw,d,rfl,hd,jx,rH,hw,q⟩:=h;refine⟨_,bQ (cI (gk (gK K rfl) (cT GM hr rfl mM kM bM .nil cU (aJ (pv 0) aQ)) iO (fb aO))),?_⟩;refine⟨_,rfl,p,aw,d,rfl,hd,jx,rH,hw,λv H1 s1 hv=>?_⟩;exact⟨_,rfl,v,_,rfl,hv,λt H2 s2 ht=>q t H2 (s1.trans s2) ht⟩
theorem abR:(["place","rows"]:List Str).Nodup:=by decide +kernel
theorem abS:(["row","place"]:List Str).Nodup:=by decide +kernel
theorem R9{r:List Int}{j:Nat}(h:j<r.length):(r.map V.int)[j]?=some (.int (r.getD j 0)):=by
 rw[du,cz,cn h];rfl
def Kq(K:Frag):Sp:=λvs H Q _=>∃(b:Bool)(a:Addr)(RS:List V)(rs:LL)(h:Nat)(i:Int),vs=[.ref a,.int i]∧i=h∧Sq b K H a RS∧br K H RS (rs.map cw)∧rs.length≤1000∧h≤1000∧(∀r∈rs,r.length=h)∧
 ∀t H' DS,aL H H'→bh K H' t DS→br K H' DS (((List.range h).map λi=>rs.map λr=>r.getD i 0).map cw)→Q (.ref t) H'
theorem abT:dj ["rows","length"] ["rows","length"] (bo CF):=dQ rfl rfl rfl (by decide +kernel) rfl
theorem abU(F:cG K "columns" "columns" CF f fd)(T:Txt mg):bz P w K mg base bx 1 f fd ["rows","length"] (Kq K):=by
 refine F.ok abT (λvs H Q E h=>?_) (λbI A outer s H vs Q E hr h=>?_)
 ·obtain⟨b,a,RS,rs,h,i,rfl,_⟩:=h;rfl
 ·obtain⟨b,a,RS,rs,hh,i,rfl,rfl,hq,hA,hz,hn,hl,k⟩:=h;have oA:(1000:Nat)≤sizeLine:=by decide
  have eR:RS.length=rs.length:=by rw[hA.length,bj]
  refine⟨_,bQ (cI (mi (o9 K rfl) rfl T.tuple pb (aJ (fY (N:=["place","rows"]) (own:=1) (caps:=[0]) rfl (j6 rfl T.range (aJ (pv 1) aQ)) (show dk ["rows","length"] (bo CF) ["place","rows"] 1 [0] _ from .mk' (by decide +kernel)) (λ_ _ _ _ _=>cF (i:=0) abR rfl (Or.inr rfl)) (λ_ _ _ _ _=>eU) (λ_ _ _ _ _=>mi (o9 K rfl) rfl T.tuple pb (aJ (fY (N:=["row","place"]) (own:=1) (caps:=[0]) rfl (Rm K rfl b (pv 1)) (show dk ["place","rows"] _ ["row","place"] 1 [0] _ from .mk' (by kernel_rfl)) (λ_ _ _ _ _=>cF (i:=0) abS rfl (.inl rfl)) (λ_ _ _ _ _=>eU) (λ_ _ _ _ _=>bc (cC K rfl) (pv 0) (pv 1) (λ_ _=>rfl))) aQ))) aQ))),?_⟩
  refine⟨_,rfl,(hh:Int),rfl,by lia,by lia,p7 (n:=hh) (lo:=0) (cp:=[some (.ref a)]) (λi H' zs=>br K H' zs (((List.range i).map λi=>rs.map λr=>r.getD i 0).map cw)) (by lia) .nil (λi H' zs h=>by rw[h.length,bj,bj,oM];exact cf _) ?_ ?_⟩
  ·rintro i H1 zs hi sm h;rw[lA];refine iC ⟨_,rfl,a,rfl,⟨_,sm.sq (b:=b) hq⟩,Rn (b:=b) (xs:=RS) (cp:=[some (.int (i:Int))]) (λk H' zs=>zs=((rs.map λr=>r.getD i 0).take k).map V.int) (sm.sq (b:=b) hq) (by lia) rfl (λk H' zs e=>by rw[e,bj];exact pK _ _) ?_ ?_⟩
   ·rintro k' v H2 yR hv ju rfl;obtain⟨r,ra,kH,rfl,dJ⟩:=oo hA hv;have my:=hl r (dY kH);refine iC ⟨_,rfl,_,rfl,ra,_,(i:Int),_,rfl,rfl,(sm.trans ju).bq dJ,bE (R9 (by rw[my];exact hi)),⟨[_],rfl,rfl⟩,ju,?_⟩;rw[gZ,du,kH,cY];rfl
   ·rintro H2 yR ju rfl lq mQ;rw[lB (by rw[bj,eR];exact cf _)];refine⟨lq,_,rfl,.inl ⟨.of aX,λt ht=>?_⟩⟩;have pk:=ju.trans ((aL.upd mQ (o:=.lst ((rs.map λr=>r.getD i 0).map V.int))).trans (aL.upd ht (o:=.tup ((rs.map λr=>r.getD i 0).map V.int))));refine⟨⟨[_],rfl,rfl⟩,sm.trans pk,?_⟩;rw[oP,cY,cY];exact(h.mono pk).append (.cons (ke (.of aX)) .nil)
  ·rintro H1 zs sm h lq mQ;exact⟨lq,_,rfl,.inl ⟨.of aX,λt ht=>k t _ zs ((sm.trans (.upd mQ)).trans (.upd ht)) (.of aX) (h.mono ((aL.upd mQ).trans (.upd ht)))⟩⟩
end S21
namespace L2
open PySem PySem.Spec PyProof.Rows
open PySem.W (Looks)
def Sa(X:Cx)(C:Addr)(body:List Stmt)(tb:XK→TS):Prop:=∀(aH:List (Addr×Obj))(s:Shared)(σ:St)(H:Hp)(D:Ends)(E:XK),Inv X aH σ H s→tb E D σ H→
 wpAny (model X.prog X.w) X.A (execs body X.env) (SP X aH D) (λe s'=>∃H1 s1,Inv X aH σ H1 s1∧vk X.prog X.w C X.stack H1 s1 E e s') s
section
variable{X:Cx}{C W f:Addr}{k:Nat}{fd:FuncData}{ps:List Str}{sp:Sp}{x wn n y:Str}{p cp ep wp np yp ap hp pos:Pos}{e:Expr}{es:List Expr}{t:TA}{ix ie:Nat}
end
open PySem.W (Looks)
section
variable{X:Cx}{C f:Addr}{k:Nat}{fd:FuncData}{ps:List Str}{sp:Sp}{x y:Str}{p cp ep yp:Pos}{e:Expr}{es:List Expr}{t:TA}{iy:Nat}
theorem abV(FR:∀u s,X.xe u s→False)(F:bz X.prog X.w X.K X.mg X.base (vk X.prog X.w C) k f fd ps sp)(hr:dP k X.A)(hg:Gl X x)(hm:X.mg x=some (.ref f))(hk:Kp X.K f)(hb:Binds X.K fd ps [])(ha:PA X (e::es) t)
  (hN:X.N.Nodup) (hy:X.N[iy]?=some y) (ly:X.env.scope.names.lookup y=some .local)
  (qT:(x==("__debug__":Str))=false:=by decide)
  (he:starEach (e::es) X.env=(false,eval e X.env)::starEach es X.env:=by rfl) (i3:(backTo cp (starEach es X.env)).any (·.1)=false:=by rfl)
  (hs:swapsWith (.Call (.Name x p) (e::es) [] cp) (some (.Name y yp)) ep.line X.env=pure false:=by rfl) :
  Sa X C [.Assign [.Name y yp] (.Call (.Name x p) (e::es) [] cp) ep] (λE D σ H=>t σ H λvs H1=>sp vs H1 (λv H'=>D.nx (σ.set iy (some v)) H') E):=by
 intro aH s σ H D E I h;refine wpAny_execs_cons (wpAny_Assign_Name (av (yh I hg hm ?_ qT)) hs);refine PySem.W.callWith_K (h₀:=X.base) I.ok.mod.qI hk (ag (ha cp aH s σ H _ I h) (λus s1 ⟨vs,H1,I1,r,q⟩=>⟨I1.fo,?_⟩) λ_ _ z=>(FR _ _ z).elim) he i3;have hl:us.length=ps.length:=by rw[← r.length];exact F.len _ _ _ _ q
 have qc:=hb s1 us I1.fo (by rw[iK];exact hl);rw[iK]at qc;refine wpAny_call (codeAny_mono (F.run X.A X.stack s1 H1 ⟨us,[]⟩ us vs _ _ hr I1.By qc r q) λr s' hq=>?_);cases r with
 |ok fl=>
  cases fl with
  |ret u=>
   obtain⟨v,H',I',rv,q'⟩:=I1.after hq;exact Bn I' hN hy (.inl ly) rv (λs8 I8=>aj ⟨_,H',I8,q'⟩) (.inr ly)
  |next=>exact False.elim hq
  |brk=>exact False.elim hq
  |cont=>exact False.elim hq
 |error e=>exact⟨H1,s1,I1,hq⟩
end
end L2
namespace S21
open PySem L2 Bw
noncomputable abbrev Sb:List Value:=[.type "ValueError",.type "Exception",.type "BaseException",.type "object"]
noncomputable def eP(K:Frag)(x:Str):Addr:=match nsIn K mainGlobals x with
 |some (some (.ref a))=>a
 |_=>0
noncomputable def Sd(K:Frag)(x:Str):Bool:=nsIn K mainGlobals x==some (some (.ref (eP K x)))
noncomputable def Kr(K:Frag)(c:Str):Bool:=
 Sd K c&&PySem.W.excIn K (eP K c) Sb "ValueError.__new__"&&(PySem.W.exmOne K (.ref (eP K c)) (.ref (eP K "WireError"))==some true) &&
 (kitOne K (.ref (eP K c)) (.type "ValueError")==some true)&&(kitOne K (.ref (eP K c)) (.ref (eP K c))==some true)&&(kitOne K (.type "NoneType") (.ref (eP K c))==some false) &&
 (PySem.W.clsIn K (eP K c)).isSome&&(PySem.W.findIn K (.ref (eP K c)) "__getattribute__"==some (some (.builtin "BaseException.__getattribute__")))&&(PySem.W.findIn K (.ref (eP K c)) "__getattr__"==some none) &&
 (PySem.W.findIn K (.ref (eP K c)) "__class__"==some (some (.builtin "object.__class__")))&&(PySem.W.specialIn K (.builtin "object.__class__") "__get__"==some (some (.builtin "getset_descriptor.__get__"))) &&
 (PySem.W.takesIn K (.builtin "object.__class__")==some true)&&(PySem.W.mroIn K (eP K c) (.type "object")==some true)&&(PySem.W.mroIn K (eP K c) (.type "BaseException")==some true)
structure Ks(K:Frag)(mg:Str→Option Value)(c:Str):Prop where
 mC:mg c=some (.ref (eP K c))
 exc:PySem.W.excIn K (eP K c) Sb "ValueError.__new__"=true
 exm:PySem.W.exmOne K (.ref (eP K c)) (.ref (eP K "WireError"))=some true
 kV:kitOne K (.ref (eP K c)) (.type "ValueError")=some true
 kS:kitOne K (.ref (eP K c)) (.ref (eP K c))=some true
 kN:kitOne K (.type "NoneType") (.ref (eP K c))=some false
 Z:abv K (eP K c)
theorem abW{K:Frag}{mg:Str→Option Value}{h:Heap}{c:Str}(X:K.In h)(G:h.Ns mainGlobals mg)(e:Kr K c=true):Ks K mg c:=by
 unfold Kr Sd at e;simp only[fg,beq_iff_eq]at e;obtain⟨⟨⟨⟨⟨⟨⟨⟨⟨⟨⟨⟨⟨h1,h2⟩,h3⟩,h4⟩,h5⟩,h6⟩,h8⟩,h9⟩,Gu⟩,h11⟩,h12⟩,Ea⟩,h14⟩,Ht⟩:=e;exact⟨dF X G h1,h2,h3,h4,h5,h6,⟨h8,h9,Gu,h11,h12,Ea,h14,Ht⟩⟩
noncomputable def iz(p:Int)(d:Drw):LL:=dI p ((d.eB p d.aK 0).map (jc d.aI d.aM d.aK))
def Runs(n:Nat)(R:LL):Prop:=R.map (·.take n)=tI n
noncomputable def AO(R:LL)(n m:Nat):LL:=(List.range m).map λi=>(R.map (·.drop n)).map λr=>r.getD i 0
theorem Se{p:Int}(pp:p∈cX){d:Drw}(hd:d.cK p)(hs:d.sm)(hw:d.aK≤40):ck p (d.aI+d.aM+2*d.aK) (iz p d)∧(iz p d).length≤d.aI+d.aM+2*d.aK∧d.aI≤100∧d.aM≤100:=by
 obtain⟨g1,g2,_,hR⟩:=Drw.jA pp hw (d:=d) (c:=0) hd hs (by lia);have gs:ck p (d.aI+d.aM+2*d.aK) ((d.eB p d.aK 0).map (jc d.aI d.aM d.aK)):=λx hx=>by
  obtain⟨y,hy,rfl⟩:=dq.mp hx;exact JL (hR y hy)
 exact⟨(jr pp gs).rws,sS gs,g1,g2⟩
def qC(K:Frag)(H:Hp)(v:Addr)(l s r:Nat)(aN:LL):Prop:=∃(c:Addr)(DS:List V),bh K H v [.int (l:Int),.int (s:Int),.int (r:Int),.ref c]∧bh K H c DS∧br K H DS (aN.map cw)
def Sf(K:Frag)(Pt:Addr):Sp:=λvs H Q E=>∃(p:Int)(aw:Addr)(d:Drw),vs=[.int p,.ref aw]∧p∈cX∧d.cK p∧d.sm∧d.aR.length≤900000∧d.aK≤40∧H aw=some (.tup d.aR)∧fe H Pt (iV jC) mV∧
 (Runs (d.aI+d.aK) (iz p d)→∀v H',aL (S21.del Pt H) H'→fe H' Pt (iV jC) mV→qC K H' v d.aI d.aK d.aM (AO (iz p d) (d.aI+d.aK) (d.aM+d.aK))→Q (.ref v) H')∧
 (¬Runs (d.aI+d.aK) (iz p d)→∀H',aL (S21.del Pt H) H'→fe H' Pt (iV jC) mV→E (.ref (eP K "NoRun")) none H')
noncomputable abbrev Kt:List Str:=["p","words","sides","states","given","rows"]
theorem AQ:dj Kt ["p","words"] (bo zk):=dQ rfl rfl rfl (by decide +kernel) rfl
theorem Sh:(["row","given"]:List Str).Nodup:=by decide +kernel
def Ku(K:Frag):TE:=j9 (me K (aW 5)) 1 [4] (cq 0) iP (gP (ij K) (aW 0) i5 (fG (aW 1)))
def Kv(K:Frag):TE:=j9 (me K (aW 5)) 1 [4] (cq 0) iP (gP (ij K) (aW 0) (fG (aW 1)) i5)
def EF(K:Frag):TT:=jm (cA (uw K true) (Ku K) (iY (zU K) [] E0 (aZ (aW 4) bG)))
def xE(K:Frag):TE:=eS (aZ (dD K 2 0) (aZ (aW 3) (aZ (dD K 2 1) (aZ (iY (Kq K) [] E0 (aZ (Kv K) (aZ (kg (dD K 2 1) (aW 3)) bG))) bG))))
def Kw(K:Frag)(E:XK):TS:=λ_ σ H=>(aZ (tC (.str "what stands to the left and what is kept do not tell what follows")) bG) σ H λvs H1=>vs.length≤sizeLine∧E (.ref (eP K "NoRun")) none H1
def EG(K:Frag)(Pt:Addr)(E:XK):TS:=cy (dC (iY (Ko K) [] E0 (aZ (aW 1) bG)) (cq 2)) (cy (dC (rM rN (aW 1) (aZ (tC (.str "late")) bG)) (cq 3)) (cy (dC (kg (dD K 2 0) (aW 3)) (cq 4)) (cy (dC (iY (DW K Pt) [] E0 (aZ (aW 0) (aZ (aW 1) bG))) (cq 5)) (cy (dW (EF K) (Kw K E) gi) (eh (xE K))))))
theorem Si{rs os:LL}(h:rs.map cw=os.map cw):rs=os:=(List.map_inj_right λ_ _ e=>WQ e).mp h
open Classical in
theorem abX{D:Ends}{E:XK}{H:Hp}{p:Int}{aw Pt:Addr}{d:Drw}(pp:p∈cX)(hd:d.cK p)(hs:d.sm)(mn:d.aR.length≤900000)(ik:d.aK≤40)(gg:H aw=some (.tup d.aR))(hL:fe H Pt (iV jC) mV)
  (q1:Runs (d.aI+d.aK) (iz p d)→∀v H',aL (S21.del Pt H) H'→fe H' Pt (iV jC) mV→qC K H' v d.aI d.aK d.aM (AO (iz p d) (d.aI+d.aK) (d.aM+d.aK))→D.rt (.ref v) H')
  (q2:¬Runs (d.aI+d.aK) (iz p d)→∀H',aL (S21.del Pt H) H'→fe H' Pt (iV jC) mV→E (.ref (eP K "NoRun")) none H') :
  EG K Pt E D [some (.int p),some (.ref aw),none,none,none,none] H:=by
 obtain⟨hR,cO,g1,g2⟩:=Se pp hd hs ik;have z:(1000:Nat)≤sizeLine:=by decide
 unfold EG;refine⟨_,rfl,p,aw,d,rfl,hd,hs,mn,.of gg,λsv H1 s1 AR=>?_⟩;have Kx:=s1 _ _ gg;refine⟨_,rfl,⟨aw,_,rfl,Kx⟩,aw,_,"late",rfl,rfl,Kx,rQ d,?_⟩;rw[oE hd];refine⟨_,rfl,sv,_,0,.int (d.aI:Int),rfl,rfl,AR,bE (j:=0) rfl,_,rfl,_,_,rfl,rfl,?_⟩;have oi:=hL.mono s1;obtain⟨ps,hT⟩:=oi.tab;refine⟨_,rfl,_,rfl,p,aw,d,rfl,pp,hd,hs,mn,ik,Kx,oi,λv DS H2 s2 Sj hv hD=>?_⟩;have hD:br K H2 DS ((iz p d).map cw):=hD;have abY:=s2.bq (bh.del hT AR);have sD:aL (S21.del Pt H) H2:=(aL.del s1).trans s2;show cy (dW (EF K) (Kw K E) gi) (eh (xE K)) D [some (.int p),some (.ref aw),some (.ref sv),some (.int (d.aK:Int)),some (.int ((d.aI:Int)+(d.aK:Int))),some (.ref v)] H2;rw[show(d.aI:Int)+(d.aK:Int)=((d.aI+d.aK:Nat):Int) by lia];generalize hn:d.aI+d.aK=n at *;have rl:∀r∈iz p d,r.length=n+(d.aM+d.aK):=λr hr=>by rw[(hR r hr).1];lia
 unfold EF Ku;refine⟨_,rfl,v,rfl,⟨_,hv⟩,?_⟩;refine rG (f:=λr=>r.take n) (cp:=[some (.int (n:Int))]) hv hD (by lia) (λrow ra H3 iF s3 dJ=>jw (i9 rfl dJ) lP (iq (e9 rfl)) (rF (by rw[rl row iF];lia))) ?_;intro H3 ZS s3 hZ lz i8;have s4:=aL.upd (o:=.lst ZS) i8;refine⟨_,rfl,n,_,rfl,rfl,by lia,λl LS H5 s5 hl Kg=>?_⟩;refine⟨.list (((iz p d).map λr=>r.take n).map cw),.list ((tI n).map cw),.list (.of ((s5 _ _ aX))) (br.mono (s4.trans s5) hZ),.list (.of hl) Kg,CT _,CT _,_,rfl,?_⟩;have sE:=s3.trans (s4.trans s5);by_cases lg:Runs n (iz p d)
 ·refine B4 (ai (λx:LL=>Dat.list (x.map cw)) lg) ?_;have Ky:=sE.bq abY;have xF:=sE.bq hv;have xG:=br.mono sE hD;show xE K _ _ _;unfold xE Kv;refine⟨_,rfl,sv,_,0,.int (d.aI:Int),rfl,rfl,Ky,bE (j:=0) rfl,_,rfl,_,rfl,sv,_,1,.int (d.aM:Int),rfl,rfl,Ky,bE (j:=1) rfl,_,rfl,v,rfl,⟨_,xF⟩,?_⟩;refine rG (f:=λr=>r.drop n) (cp:=[some (.int (n:Int))]) xF xG (by lia) (λrow ra H6 iF s6 dJ=>jw (i9 rfl dJ) (iq (e9 rfl)) lP (sX (by rw[rl row iF];lia))) ?_;intro H6 YS s6 hY ly EH;have s7:=aL.upd (o:=.lst YS) EH;refine⟨_,rfl,sv,_,1,.int (d.aM:Int),rfl,rfl,(s6.trans s7).bq Ky,bE (j:=1) rfl,_,rfl,_,_,rfl,rfl,true,ly,YS,_,d.aM+d.aK,_,rfl,by lia,.of aX,br.mono s7 hY,by rw[bj];lia,by lia,λr hr=>?_,λt H8 DS8 s8 ht hT8=>?_⟩
  ·obtain⟨x,hx,rfl⟩:=dq.mp hr;rw[fE,rl x hx];lia
  refine⟨by show 4≤sizeLine;lia,λm hm=>?_⟩;have s9:=aL.upd (o:=.tup [.int (d.aI:Int),.int (d.aK:Int),.int (d.aM:Int),.ref t]) hm;have sF:=sE.trans (s6.trans (s7.trans (s8.trans s9)));exact q1 lg m _ (sD.trans sF) (Sj.mono sF) ⟨t,DS8,.of aX,s9.bq ht,br.mono s9 hT8⟩
 ·refine OK (λe=>lg ?_) ⟨by show 1≤sizeLine;lia,q2 lg _ (sD.trans sE) (Sj.mono sE)⟩;exact Si (Dat.list.inj e)
theorem abZ{Pt f fW fT fO fC:Addr}{fd tG lM Aa rC:FuncData}(F:cG K "machine" "machine" zk f fd)(Y:Ks K mg "NoRun")
  (GW:bz P w K mg base bx 6 fW tG ["words"] (Ko K)) (kW:Kp K fW) (bW:Binds K tG ["words"] []) (mW:Mg mg "wires" fW)
  (GT:bz P w K mg base bx 11 fT lM ["p","words"] (DW K Pt)) (kT:Kp K fT) (bT:Binds K lM ["p","words"] []) (mT:Mg mg "ticks" fT)
  (GO:bz P w K mg base bx 1 fO Aa ["count"] (zU K)) (kO:Kp K fO) (bO:Binds K Aa ["count"] []) (mO:Mg mg "ones" fO)
  (GC:bz P w K mg base bx 1 fC rC ["rows","length"] (Kq K)) (kC:Kp K fC) (bC:Binds K rC ["rows","length"] []) (mC:Mg mg "columns" fC) :
  bz P w K mg base (vk P w (eP K "NoRun")) 12 f fd ["p","words"] (Sf K Pt):=by
 refine F.okX AQ (λvs H Q E h=>?_) (λbI A outer s H vs Q E hr h=>?_)
 ·obtain⟨p,aw,d,rfl,_⟩:=h;rfl
 ·obtain⟨p,aw,d,rfl,pp,hd,hs,mn,ik,gg,hL,q1,q2⟩:=h;have jv:dP 1 _:=hr.mono (by decide);have hr6:dP 6 _:=hr.mono (by decide);refine⟨EG K Pt E,?_,abX pp hd hs mn ik gg hL q1 q2⟩;unfold EG;refine bg ?_ ?_
  ·exact cm (i:=2) AQ.nd rfl (.inl rfl) (cT GW hr6 rfl mW kW bW .nil cU (aJ (pv 1) aQ))
  refine bg ?_ ?_
  ·exact cm (i:=3) (te:=rM rN (aW 1) (aZ (tC (.str "late")) bG)) AQ.nd rfl (.inl rfl) (zS E8 E9 zT (pv 1) (aJ dH aQ))
  refine bg ?_ ?_
  ·exact cm (i:=4) (te:=kg (dD K 2 0) (aW 3)) AQ.nd rfl (Or.inr rfl) (aY dt (bc (cC K rfl) (pv 2) aO (λ_ _=>rfl)) (pv 3))
  refine bg ?_ ?_
  ·exact cm (i:=5) AQ.nd rfl (.inl rfl) (cT GT hr rfl mT kT bT .nil cU (aJ (pv 0) (aJ (pv 1) aQ)))
  refine bg ?_ ?_
  ·refine ee ?_ ?_ eK
   ·unfold EF;refine dg (B5 K rfl hr.units) ?_ ?_ (de _)
    ·unfold Ku;refine fY (N:=["row","given"]) (own:=1) (caps:=[4]) rfl ?_ ?_ ?_ ?_ ?_
     ·exact lJ K rfl (pv 5)
     ·exact(show dk Kt (bo zk) ["row","given"] 1 [4] _ from .mk' (by decide +kernel))
     ·exact λ_ _ _ _ _=>cF (i:=0) Sh rfl (.inl rfl)
     ·exact λ_ _ _ _ _=>eU
     ·exact λ_ _ _ _ _=>gk (gK K rfl) (pv 0) iO (fb (pv 1))
    ·exact cT GO jv rfl mO kO bO .nil cU (aJ (pv 4) aQ)
   ·refine bQ ?_;unfold Kw;exact abt (E:=E) rfl rfl Y.mC Y.exc PySem.F.excBase_ValueError (aJ dH aQ) abo
  refine bQ ?_;refine cI (te:=xE K) ?_;unfold xE;refine cE ?_;refine aJ ?_ ?_ ?_
  ·exact bc (cC K rfl) (pv 2) aO (λ_ _=>rfl)
  ·refine aJ (pv 3) ?_ ?_
   ·refine aJ ?_ ?_ ?_
    ·exact bc (cC K rfl) (pv 2) aO (λ_ _=>rfl)
    ·refine aJ ?_ aQ ?_
     ·refine cT GC jv rfl mC kC bC .nil cU ?_;refine aJ ?_ ?_ ?_
      ·unfold Kv;refine fY (N:=["row","given"]) (own:=1) (caps:=[4]) rfl ?_ ?_ ?_ ?_ ?_
       ·exact lJ K rfl (pv 5)
       ·exact(show dk Kt (bo zk) ["row","given"] 1 [4] _ from .mk' (by decide +kernel))
       ·exact λ_ _ _ _ _=>cF (i:=0) Sh rfl (.inl rfl)
       ·exact λ_ _ _ _ _=>eU
       ·exact λ_ _ _ _ _=>gk (gK K rfl) (pv 0) (fb (pv 1)) iO
      ·refine aJ (aY dt (bc (cC K rfl) (pv 2) aO (λ_ _=>rfl)) (pv 3)) aQ ?_;rfl
      ·rfl
     ·rfl
    ·rfl
   ·rfl
  ·rfl
theorem Sk(j:Nat):∀ls:List Nat,vZ (.int (j:Int)) (ls.map λ(u:Nat)=>V.int u)=decide (j∈ls)
 | []=>by simp[vZ]
 |l::ls=>by
  have ih:=Sk j ls;unfold vZ at ih ⊢;rw[nP,List.any_cons,ih]
  have:fq (.int (l:Int)) (.int (j:Int))=decide (j=l):=by
   unfold fq;by_cases h:j=l
   ·subst h;simp
   ·simp[h];lia
  rw[this];by_cases h:j=l<;>by_cases h2:j∈ls<;>simp[h,h2]
theorem Sl:∀ls:List Nat,(ls.map λ(u:Nat)=>V.int u).all o6=true
 | []=>rfl
 |l::ls=>by rw[nP,List.all_cons,Sl ls];rfl
theorem ab0:(["row","many"]:List Str).Nodup:=by decide +kernel
theorem ab1:(["k","row"]:List Str).Nodup:=by decide +kernel
theorem Sm:(["wait"]:List Str).Nodup:=by decide +kernel
theorem ab3:(["k","free"]:List Str).Nodup:=by decide +kernel
theorem ab4:(["at","value"]:List Str).Nodup:=by decide +kernel
noncomputable abbrev xH:List Str:=["p","words","rules","many","waits","left","right","rows","rule","row","at","factor","k","firsts","seen","found","free","value"]
theorem jH:dj xH ["p","words"] (bo sR):=dQ rfl rfl rfl (by decide +kernel) rfl
theorem ab5(p:Int)(n:Nat)(D:LL)(j:Nat)(hj:j<n):((List.range n).map λ(k:Nat)=>V.int (if(decide (V.int (k:Int)=V.int (j:Int)))=true then 1 else 0))=(ku p n D j 0).map V.int:=by
 apply List.ext_getElem?;intro i;rw[du,du,ku,List.getElem?_set];by_cases hi:i<n
 ·rw[List.getElem?_range hi];by_cases e:j=i
  ·subst e;rw[ae rfl,gG,ae hi];simp
  ·rw[af e,vL,ae hi];simp;lia
 ·have:¬(j=i):=by lia
  rw[jj (by rw[oM];lia),af this,jj (by rw[gG];lia)];rfl
def Sn(K:Frag):Sp:=λvs H Q _=>∃(p:Int)(bK:Addr)(d:Drw),vs=[.int p,.ref bK]∧p∈cX∧d.cK p∧d.sm∧d.aK≤40∧d.aR.length≤170∧H bK=some (.tup d.aR)∧
 ∀t H' DS,aL H H'→bh K H' t DS→br K H' DS ((iz p d).map cw)→Q (.ref t) H'
theorem ab6{f fN fR:Addr}{fd So AS:FuncData}(F:cG K "_law_rows" "_law_rows" sR f fd)(T:Txt mg)
  (GN:bz P w K mg base bx 2 fN So ["words","rules","many","waits"] (Rt K)) (kN:Kp K fN) (bN:Binds K So ["words","rules","many","waits"] []) (mN:Mg mg "_law_net" fN)
  (GR:bz P w K mg base bx 2 fR AS ["p","rows","width"] (RI K)) (kR:Kp K fR) (bR:Binds K AS ["p","rows","width"] []) (mR:Mg mg "_law_reduced" fR) :
  bz P w K mg base bx 3 f fd ["p","words"] (Sn K):=by
 refine F.ok jH (λvs H Q E h=>?_) (λbI A outer s H vs Q E hr h=>?_)
 ·obtain⟨p,bK,d,rfl,_⟩:=h;rfl
 ·obtain⟨p,bK,d,rfl,pp,hd,jx,cL,hl,hw,q⟩:=h;obtain⟨p2,gq⟩:=fI p pp;have p0:0<p:=by lia
  have z:(2000:Nat)≤sizeLine:=by decide
  refine⟨_,bg (cm (i:=2) jH.nd rfl (.inl rfl) (cZ aQ)) (bg (cm (i:=3) jH.nd rfl (Or.inr rfl) (cZ (aJ aO aQ))) (bg (cm (i:=4) jH.nd rfl (.inl rfl) (cZ aQ)) (bg (sj (cT GN hr rfl mN kN bN .nil cU (aJ (pv 1) (aJ (pv 2) (aJ (pv 3) (aJ (pv 4) aQ))))) (uy (n:=2) K rfl rfl (iM (cF (i:=5) jH.nd rfl (.inl rfl)) (iM (cF (i:=6) jH.nd rfl (.inl rfl)) qN)))) (bg (cm (i:=7) jH.nd rfl (.inl rfl) (cZ aQ)) (bg (mf nS rfl (lI K rfl (pv 2)) (cF (i:=8) jH.nd rfl (.inl rfl)) (bg (cm (i:=9) jH.nd rfl (.inl rfl) (aY Vk (cZ (aJ aO aQ)) (bc (bV K rfl) (pv 3) aO (λ_ _=>rfl)))) (bg (mf nS rfl (lI K rfl (pv 8)) (uy (n:=2) K rfl rfl (iM (cF (i:=10) jH.nd rfl (.inl rfl)) (iM (cF (i:=11) jH.nd rfl (.inl rfl)) qN))) (bQ (sj (aY gj (aY dt (bc (bV K rfl) (pv 9) (pv 10) (λ_ _=>rfl)) (pv 11)) (pv 0)) (Fp (pv 9) (pv 10) FU)))) (bQ (md (mj jJ qF qG o7 (pv 7) (aJ (pv 9) aQ))))))) (bg (cm (i:=7) jH.nd rfl (.inl rfl) (cT GR hr rfl mR kR bR .nil cU (aJ (pv 0) (aJ (pv 7) (aJ (bc (bV K rfl) (pv 3) aO (λ_ _=>rfl)) aQ))))) (bg (nY (i:=13) (N:=["row","many"]) (own:=1) (caps:=[3]) rfl jH.nd rfl rfl (lJ K rfl (pv 7)) (show dk xH (bo sR) ["row","many"] 1 [3] _ from .mk' (by decide +kernel)) (λ_ _ _ _ _=>cF (i:=0) ab0 rfl (Or.inr rfl)) (λ_ _ _ _ _=>eU) (λ_ _ _ _ _=>bc (bV K rfl) (fY (N:=["k","row"]) (own:=1) (caps:=[0]) rfl (j6 rfl T.range (aJ (bc (bV K rfl) (pv 1) aO (λ_ _=>rfl)) aQ)) (show dk ["row","many"] _ ["k","row"] 1 [0] _ from .mk' (by kernel_rfl)) (λ_ _ _ _ _=>cF (i:=0) ab1 rfl (.inl rfl)) (λ_ _ _ _ _=>wg (dg yo (bc (cC K rfl) (pv 1) (pv 0) (λ_ _=>rfl)) aO (de _))) (λ_ _ _ _ _=>pv 0)) aO (λ_ _=>rfl))) (bg (cm (i:=14) jH.nd rfl (.inl rfl) (aY o8 (aY o8 (aY o8 (pv 5) (fY (N:=["wait"]) (own:=1) (caps:=[]) rfl (lI K rfl (pv 4)) (show dk xH (bo sR) ["wait"] 1 [] _ from .mk' (by decide +kernel)) (λ_ _ _ _ _=>cF (i:=0) Sm rfl (.inl rfl)) (λ_ _ _ _ _=>eU) (λ_ _ _ _ _=>bc (cC K rfl) (pv 0) aO (λ_ _=>rfl)))) (pv 6)) (fY (N:=["wait"]) (own:=1) (caps:=[]) rfl (lI K rfl (pv 4)) (show dk xH (bo sR) ["wait"] 1 [] _ from .mk' (by decide +kernel)) (λ_ _ _ _ _=>cF (i:=0) Sm rfl (.inl rfl)) (λ_ _ _ _ _=>eU) (λ_ _ _ _ _=>bc (cC K rfl) (pv 0) aO (λ_ _=>rfl))))) (bg (cm (i:=15) jH.nd rfl (.inl rfl) (cZ aQ)) (bg (mf nS rfl (j6 rfl T.range (aJ (bc (bV K rfl) (pv 3) aO (λ_ _=>rfl)) aQ)) (cF (i:=16) jH.nd rfl (Or.inr rfl)) (bQ (ee (dg (W9 K rfl) (pv 16) (pv 13) rfl) (bg (cm (i:=17) jH.nd rfl (Or.inr rfl) (fY (N:=["k","free"]) (own:=1) (caps:=[16]) rfl (j6 rfl T.range (aJ (bc (bV K rfl) (pv 3) aO (λ_ _=>rfl)) aQ)) (show dk xH (bo sR) ["k","free"] 1 [16] _ from .mk' (by decide +kernel)) (λ_ _ _ _ _=>cF (i:=0) ab3 rfl (.inl rfl)) (λ_ _ _ _ _=>eU) (λ_ _ _ _ _=>mi UL rfl T.int G4 (aJ (FG hI (pv 0) (pv 1) (de _)) aQ)))) (bg (mf nS rfl (Xa K rfl false rfl T.enumerate (aJ (pv 7) aQ)) (uy (n:=2) K rfl rfl (iM (cF (i:=12) jH.nd rfl (.inl rfl)) (iM (cF (i:=9) jH.nd rfl (.inl rfl)) qN))) (bQ (sj (aY gj (pR pS (bc (cC K rfl) (pv 9) (pv 16) (λ_ _=>rfl))) (pv 0)) (Fp (pv 17) (bc (bV K rfl) (pv 13) (pv 12) (λ_ _=>rfl)) FU)))) (bQ (md (mj jJ qF qG o7 (pv 15) (aJ (fY (N:=["at","value"]) (own:=1) (caps:=[17]) rfl (lI K rfl (pv 14)) (show dk xH (bo sR) ["at","value"] 1 [17] _ from .mk' (by decide +kernel)) (λ_ _ _ _ _=>cF (i:=0) ab4 rfl (.inl rfl)) (λ_ _ _ _ _=>eU) (λ_ _ _ _ _=>bc (bV K rfl) (pv 1) (pv 0) (λ_ _=>rfl))) aQ)))))) eK))) (bQ (cI (cT GR hr rfl mR kR bR .nil cU (aJ (pv 0) (aJ (pv 15) (aJ (iN (ko K rfl) rfl T.len kq (aJ (pv 14) aQ)) aQ)))))))))))))))),?_⟩
  refine⟨by decide,λar AU=>⟨by show 1≤sizeLine;lia,λam xI=>⟨by decide,λaw gg=>?_⟩⟩⟩;have n1:am≠ar:=λe=>by rw[e,aX]at xI;cases xI
  have n2:aw≠am:=λe=>by rw[e,aX]at gg;cases gg
  have n3:aw≠ar:=λe=>by rw[e,bZ n1.symm,aX]at gg;cases gg
  have sA:aL H (upd (upd (upd H ar (.lst [])) am (.lst [.int 0])) aw (.lst [])):=(aL.upd AU).trans ((aL.upd xI).trans (.upd gg));have g1:(upd (upd (upd H ar (.lst [])) am (.lst [.int 0])) aw (.lst [])) ar=some (.lst []):=by rw[bZ n3.symm,bZ n1.symm];exact aX
  have g2:(upd (upd (upd H ar (.lst [])) am (.lst [.int 0])) aw (.lst [])) am=some (.lst [.int 0]):=by rw[bZ n2.symm];exact aX
  have g3:(upd (upd (upd H ar (.lst [])) am (.lst [.int 0])) aw (.lst [])) aw=some (.lst []):=aX;have Sr:H am=none:=jS (aL.upd AU) xI;have Ss:H aw=none:=jS ((aL.upd AU).trans (.upd xI)) gg;have sK:aL H (cM [ar,am,aw] (upd (upd (upd H ar (.lst [])) am (.lst [.int 0])) aw (.lst []))):=λb o e=>iI (sA b o e) λhb=>by
   rcases(cS.mp hb)with(rfl|hb)
   ·rw[AU]at e;cases e
   rcases(cS.mp hb)with(rfl|hb)
   ·rw[Sr]at e;cases e
   ·rw[cQ.mp hb,Ss]at e;cases e
  have gw:=sA _ _ hw;generalize upd (upd (upd H ar (.lst [])) am (.lst [.int 0])) aw (.lst [])=H0 at sA g1 g2 g3 sK gw ⊢;refine⟨_,rfl,_,rfl,_,rfl,_,rfl,p,bK,ar,am,aw,d,rfl,hd,jx,hl,gw,⟨cP,dU _ cP,dU _ (dU _ cP),n1.symm,n3.symm,n2.symm⟩,⟨⟨qw cP,qw (dU _ cP),qw (dU _ (dU _ cP))⟩,vh,λy hy=>?_,⟨[],g1,.nil⟩,g2,⟨[],g3,.nil⟩⟩,λt H1 hN hP=>?_⟩
  ·rcases(cS.mp hy)with(rfl|hy)
   ·exact⟨_,g1⟩
   rcases(cS.mp hy)with(rfl|hy)
   ·exact⟨_,g2⟩
   ·rw[cQ.mp hy];exact⟨_,g3⟩
  have s1:aL H H1:=sK.trans hN.sm;obtain⟨t',al,AV,et,ht,gl,gr⟩:=hP.mono vh;cases et;obtain⟨RS,gR,tU⟩:=hN.r;have tU:=tU.mono vh;obtain⟨WS,gW,vz⟩:=hN.w;have vz:=vz.mono vh;have gM:=hN.m;clear hN hP g1 g2 g3 sK gw sA AU xI gg Sr Ss;refine yS ht ?_;obtain⟨eN,Su,rR⟩:=aa5 pp hd jx cL;obtain⟨f1,f2⟩:=vm (d:=d) (N:=0) hd;obtain⟨l1,l2,l3⟩:=jD (d:=d) (N:=0) hd;obtain⟨ig,_⟩:=pz d 0;obtain⟨_,b1,b2⟩:=lV hd;have sl:=QT l1 l3 l2;have eT:iz p d=dI p (Aj p (aV d 0).1 (aV d 0).2):=eN.symm;rw[eT]at q;clear eN eT;generalize (aV d 0).2=N at *;generalize (aV d 0).1=A at *;have EI:RS.length=A.rules.length:=tU.1;refine⟨by decide,λlr wN=>?_⟩;have Kz:=aL.upd (o:=.lst []) wN;refine⟨_,rfl,ar,rfl,⟨_,.of (Kz _ _ gR)⟩,Fv (xs:=RS) (λi σ H'=>aL H1 H'∧∃s8 s9 dy rZ VS,σ=[some (.int p),some (.ref bK),some (.ref ar),some (.ref am),some (.ref aw),some (.ref al),some (.ref AV),some (.ref lr),s8,s9,dy,rZ,none,none,none,none,none,none]∧H' lr=some (.lst VS)∧LR (·≠lr) H' VS ((A.rules.take i).map (lT p N))) ⟨Kz,none,none,none,none,[],rfl,aX,LR.nil⟩ (λi σ H' _ h=>.of (h.1 _ _ gR)) ?_ ?_⟩
  ·rintro i x σ H2 hx ⟨ju,s8,s9,dy,rZ,VS,rfl,gV,hV⟩;have hi:i<A.rules.length:=by rw[← EI];exact(dO.mp hx).1
   have hq:A.rules[i]?=some A.rules[i]:=cn hi;have KA:=ig.rules _ (gY hi);generalize A.rules[i]=qr at hq KA;obtain⟨c,VSr,rfl,gc,KC⟩:=(tU.mono ju).2 i x qr hx hq;refine⟨by show 1≤sizeLine;lia,λla ik=>?_⟩;have sa:=aL.upd (o:=.lst [.int 0]) ik;refine⟨_,rfl,am,_,0,.int (N:Int),rfl,rfl,.of ((ju.trans sa) _ _ gM),bE (j:=0) rfl,la,(N:Int),_,rfl,rfl,aX,by lia,by lia,(by show 1*((N:Nat):Int).toNat≤sizeLine;lia),λlf zN=>?_⟩;have e0:(List.replicate ((N:Nat):Int).toNat [V.int 0]).flatten=(List.replicate N (0:Int)).map V.int:=by rw[Int.toNat_natCast,Ic,List.map_replicate]
   rw[e0];have sb:=sa.trans (aL.upd (o:=.lst ((List.replicate N (0:Int)).map V.int)) zN);have KD:H2 lf=none:=jS sa zN;have Sv:lf≠lr:=λe=>by rw[e,gV]at KD;cases KD
   have gf:(upd (upd H2 la (.lst [.int 0])) lf (.lst ((List.replicate N (0:Int)).map V.int))) lf=some (.lst ((List.replicate N (0:Int)).map V.int)):=aX;clear ik sa zN;generalize upd (upd H2 la (.lst [.int 0])) lf (.lst ((List.replicate N (0:Int)).map V.int))=H3 at sb gf ⊢;refine⟨_,rfl,c,rfl,⟨_,.of (sb _ _ gc)⟩,Fv (xs:=VSr) (λj σ H'=>aL H2 H'∧∃dy rZ,σ=[some (.int p),some (.ref bK),some (.ref ar),some (.ref am),some (.ref aw),some (.ref al),some (.ref AV),some (.ref lr),some (.ref c),some (.ref lf),dy,rZ,none,none,none,none,none,none]∧H' lf=some (.lst ((lT p N (qr.take j)).map V.int))) ⟨sb,_,_,rfl,gf⟩ (λj σ H' _ h=>.of (h.1 _ _ gc)) ?_ ?_⟩
   ·rintro j y σ H4 hy ⟨ip,dy,rZ,rfl,g4⟩;have hj:j<qr.length:=by rw[← KC.1];exact(dO.mp hy).1
    have KG:qr[j]?=some qr[j]:=cn hj;have KH:=KA _ (gY hj);generalize qr[j]=tm at KG KH;obtain⟨ta,rfl,EJ⟩:=KC.2 j y tm hy KG;have Sw:=(D5 p0 (M:=N) (λ_=>0) (q:=qr.take j) λu hu=>(KA u (oO hu)).2).1;refine yS (ip.bq EJ) ?_;have cO:((lT p N (qr.take j)).map V.int).length=N:=by rw[bj];exact Sw.1
    refine⟨_,rfl,_,rfl,lf,_,(tm.1:Int),_,rfl,rfl,.of g4,bE (nB (by rw[Sw.1];exact KH.2)),_,rfl,_,_,rfl,rfl,_,rfl,_,_,rfl,rfl,(by show(0:Int)<p;lia),_,rfl,_,rfl,lf,_,(tm.1:Int),tm.1,rfl,rfl,g4,?_,?_⟩
    ·unfold qU;rw[ae (by lia),ae (by rw[cO];have:=KH.2;lia)];simp
    ·refine⟨ip.write KD,_,_,rfl,?_⟩;rw[aX,gZ,KG];unfold lT;rw[List.foldl_append];show some (HO.lst _)=some (HO.lst (List.map V.int (List.set _ _ _)));rw[List.map_set]
   ·rintro σ H4 ⟨ip,dy,rZ,rfl,g4⟩;rw[KC.1,r9]at g4;refine⟨_,rfl,.inl ⟨rfl,_,.of (ip _ _ gV)⟩,_,rfl,lr,VS,.ref lf,rfl,rfl,ip _ _ gV,by rw[hV.1,bj,dv];lia,?_⟩;refine⟨(ju.trans ip).write wN,_,_,_,_,_,rfl,aX,?_⟩;rw[gZ,hq];show LR _ _ _ ((A.rules.take i++[qr]).map (lT p N));rw[cY];exact((hV.mono ip).wr).snoc Sv (by rw[bZ Sv];exact g4)
  rintro σ H2 ⟨ju,s8,s9,dy,rZ,VS,rfl,gV,hV⟩;rw[EI,r9]at hV;refine⟨_,rfl,_,rfl,_,rfl,am,_,0,.int (N:Int),rfl,rfl,.of (ju _ _ gM),bE (j:=0) rfl,p,lr,true,VS,A.rules.map (lT p N),N,(N:Int),rfl,rfl,pp,.of gV,hV.any,by rw[bj];lia,by lia,rR,λt2 H3 DS s3 iU hD=>?_⟩;have RO:=jr pp rR;have RM:=sS rR;have eb:Aj p A N=(sN p N (dI p (A.rules.map (lT p N)))).map λb=>(ff A).map λs=>b.getD s 0:=rfl;rw[eb]at q Su;obtain⟨ls,EC⟩:=RO.jn;have vA:=ju.trans s3;have gM:=vA _ _ gM;have gW:=vA _ _ gW;have vz:=vz.mono vA;have gl:=vA _ _ gl;have gr:=vA _ _ gr;have s03:=s1.trans vA;clear rR eb gV hV tU gR ju s3 wN Kz ht vA s1 EI f1;generalize dI p (A.rules.map (lT p N))=D at *;have eD:=gN hD;have BB:=N3 pp EC RO.rws;have hBR:=BB.rws;have wz:=N1 EC RO.rws;clear hw;have ab7:∀s∈ff A,s<N:=λs hs=>by
   unfold ff at hs;rcases(dm.mp hs)with(hs|hs)
   ·rcases(dm.mp hs)with(hs|hs)
    ·rcases(dm.mp hs)with(hs|hs)
     ·exact(ig.l s hs).2
     ·obtain⟨u,hu,rfl⟩:=dq.mp hs;exact(ig.ws u hu).1.2
    ·exact(ig.r s hs).2
   ·obtain⟨u,hu,rfl⟩:=dq.mp hs;exact(ig.ws u hu).2.2
  refine⟨_,rfl,t2,rfl,⟨_,iU⟩,ux (cp:=[some (.ref am)]) (λi H' zs=>zs=(ls.take i).map λ(u:Nat)=>V.int u) iU (by lia) rfl (λi H' zs e=>by rw[e,bj];exact pK _ _) ?_ ?_⟩
  ·rintro i x H5 zs hx ot rfl;obtain⟨qv,qa,vB,rfl,KI⟩:=oo hD hx;have EK:=RO.rws qv (dY vB);obtain⟨lv,tl,wA,KJ,HK⟩:=EC.Ce RO.rws vB;refine iC ⟨_,rfl,am,_,0,.int (N:Int),rfl,rfl,.of (ot _ _ gM),bE (j:=0) rfl,(N:Int),rfl,by lia,by lia,p7 (n:=N) (lo:=0) (cp:=[some (.ref qa)]) (λj H' zs=>zs=((List.range j).filter λu=>qv.getD u 0≠0).map λ(u:Nat)=>V.int u) (by lia) rfl (λj H' zs e=>by rw[e,bj];exact eJ (vP _ _) (by rw[oM];exact cf _)) ?_ ?_⟩
   ·rintro j H' zs hj eI rfl;rw[lA];refine⟨_,rfl,_,rfl,qa,_,(j:Int),_,rfl,rfl,(ot.trans eI).bq KI,bE (nB (by rw[EK.1];exact hj)),rfl,_,rfl,wL (λcB=>?_) (λheq=>?_)⟩
    ·have uJ:qv.getD j 0≠0:=λz=>cB (ai V.int z);refine⟨_,rfl,⟨[_],rfl,rfl⟩,eI,?_⟩;rw[oP,pI,vO (by simpa using uJ),pJ,cY];rfl
    ·have uK:qv.getD j 0=0:=V.int.inj heq;refine⟨⟨[_],rfl,rfl⟩,eI,?_⟩;rw[oP,pI,xU (by simpa using uK),pJ,iK]
   ·rintro H6 zs zq ez lp hlp;have ez:zs=(js qv).map λ(u:Nat)=>V.int u:=by rw[ez];unfold js;rw[EK.1]
    rw[KJ]at ez;subst ez;refine⟨lp,_,0,.int (lv:Int),rfl,rfl,.of aX,bE (j:=0) rfl,⟨[_],rfl,rfl⟩,ot.trans (zq.trans (.upd hlp)),?_⟩;rw[gZ,wA,cY];rfl
  rintro H5 zs ot rfl ll p8;rw[eD,← EC.len,r9];have s6:aL H3 (upd H5 ll (.lst (ls.map λ(u:Nat)=>V.int u))):=ot.trans (.upd p8);have g6:(upd H5 ll (.lst (ls.map λ(u:Nat)=>V.int u))) ll=some (.lst (ls.map λ(u:Nat)=>V.int u)):=aX;generalize upd H5 ll (.lst (ls.map λ(u:Nat)=>V.int u))=H6 at s6 g6 ⊢;clear ot p8;have EL:WS.length=A.ws.length:=by rw[vz.1,bj]
  have ir:∀{i:Nat}{x:V},WS[i]?=some x→∃(u:Nat×Nat)(wa:Addr),A.ws[i]?=some u∧x=.ref wa∧bh K H3 wa [.int (u.1:Int),.int (u.2:Int)]:=λ{i x} hx=>by
   have hi:i<A.ws.length:=by rw[← EL];exact(dO.mp hx).1
   have hu:A.ws[i]?=some A.ws[i]:=cn hi;obtain⟨wa,rfl,AW⟩:=vz.2 i x (Eh A.ws[i]) hx (by rw[du,hu];rfl);exact⟨_,wa,hu,rfl,AW⟩
  refine⟨_,rfl,_,rfl,aw,rfl,⟨_,.of (s6 _ _ gW)⟩,pZ (cp:=[]) (λi H' zs=>zs=cD ((A.ws.map Prod.fst).take i)) (.of (s6 _ _ gW)) (by lia) rfl (λi H' zs e=>by rw[e,jG];exact pK _ _) ?_ ?_⟩
  ·rintro i x H' zs hx eI rfl;obtain⟨u,wa,hu,rfl,AW⟩:=ir hx;refine iC ⟨_,rfl,wa,_,0,.int (u.1:Int),rfl,rfl,(s6.trans eI).bq AW,bE (j:=0) rfl,⟨[_],rfl,rfl⟩,eI,?_⟩;rw[gZ,du,hu,← vq];rfl
  rintro H7 zs lN rfl lw vC;rw[EL,lB (by rw[bj];exact cf _)];have s7:=s6.trans (lN.trans (aL.upd (o:=.lst (cD (A.ws.map Prod.fst))) vC));have g7:=(lN.trans (aL.upd (o:=.lst (cD (A.ws.map Prod.fst))) vC)) _ _ g6;refine⟨al,lw,_,_,rfl,rfl,s7 _ _ gl,aX,by rw[jG,jG,bj];lia,λKL KN=>?_⟩;have s8:=s7.trans (aL.upd (o:=.lst (cD A.l++cD (A.ws.map Prod.fst))) KN);have g8:=(aL.upd (o:=.lst (cD A.l++cD (A.ws.map Prod.fst))) KN) _ _ g7;refine⟨_,rfl,KL,AV,_,_,rfl,rfl,aX,s8 _ _ gr,by rw[cx,jG,jG,jG,bj];lia,λEN KO=>?_⟩;have s9:=s8.trans (aL.upd (o:=.lst (cD A.l++cD (A.ws.map Prod.fst)++cD A.r)) KO);have g9:=(aL.upd (o:=.lst (cD A.l++cD (A.ws.map Prod.fst)++cD A.r)) KO) _ _ g8;have gA:(upd (upd (upd H7 lw (.lst (cD (A.ws.map Prod.fst)))) KL (.lst (cD A.l++cD (A.ws.map Prod.fst)))) EN (.lst (cD A.l++cD (A.ws.map Prod.fst)++cD A.r))) EN=some (.lst (cD A.l++cD (A.ws.map Prod.fst)++cD A.r)):=aX;clear s6 g6 lN vC s7 g7 KN s8 g8 KO;generalize (upd (upd (upd H7 lw (.lst (cD (A.ws.map Prod.fst)))) KL (.lst (cD A.l++cD (A.ws.map Prod.fst)))) EN (.lst (cD A.l++cD (A.ws.map Prod.fst)++cD A.r)))=H8 at s9 g9 gA ⊢;refine⟨_,rfl,aw,rfl,⟨_,.of (s9 _ _ gW)⟩,pZ (cp:=[]) (λi H' zs=>zs=cD ((A.ws.map Prod.snd).take i)) (.of (s9 _ _ gW)) (by lia) rfl (λi H' zs e=>by rw[e,jG];exact pK _ _) ?_ ?_⟩
  ·rintro i x H' zs hx eI rfl;obtain⟨u,wa,hu,rfl,AW⟩:=ir hx;refine iC ⟨_,rfl,wa,_,1,.int (u.2:Int),rfl,rfl,(s9.trans eI).bq AW,bE (j:=1) rfl,⟨[_],rfl,rfl⟩,eI,?_⟩;rw[gZ,du,hu,← vq];rfl
  rintro H9 zs oy rfl ly EH;rw[EL,lB (by rw[bj];exact cf _)];have sy:=oy.trans (aL.upd (o:=.lst (cD (A.ws.map Prod.snd))) EH);refine⟨EN,ly,_,_,rfl,rfl,sy _ _ gA,aX,by rw[cx,cx,jG,jG,jG,jG,bj,bj];lia,λle KP=>?_⟩;have ese:cD A.l++cD (A.ws.map Prod.fst)++cD A.r++cD (A.ws.map Prod.snd)=cD (ff A):=by unfold ff;rw[vq,vq,vq]
  rw[ese];have sz:=s9.trans (sy.trans (aL.upd (o:=.lst (cD (ff A))) KP));have gz:=(sy.trans (aL.upd (o:=.lst (cD (ff A))) KP)) _ _ g9;have ge:(upd (upd H9 ly (.lst (cD (A.ws.map Prod.snd)))) le (.lst (cD (ff A)))) le=some (.lst (cD (ff A))):=aX;clear s9 g9 gA oy EH sy KP ir vz EL;generalize (upd (upd H9 ly (.lst (cD (A.ws.map Prod.snd)))) le (.lst (cD (ff A))))=Ha at sz gz ge ⊢;refine⟨by decide,λlo Ge=>?_⟩;have Sx:=aL.upd (o:=.lst []) Ge;have Sy:=sz _ _ gM;have EJ:=sz.bq iU;have hDa:=hD.mono sz;refine⟨_,rfl,am,_,0,.int (N:Int),rfl,rfl,.of (Sx _ _ Sy),bE (j:=0) rfl,(N:Int),rfl,by lia,by lia,sk (n:=N) (λi σ H'=>aL Ha H'∧∃KQ wM KR KS FS,σ=[some (.int p),some (.ref bK),some (.ref ar),some (.ref am),some (.ref aw),some (.ref al),some (.ref AV),some (.ref t2),s8,KQ,dy,rZ,wM,some (.ref ll),some (.ref le),some (.ref lo),KR,KS]∧H' lo=some (.lst FS)∧LR (·≠lo) H' FS ((((List.range i).filter λj=>j ∉ ls).map λpl=>ku p N D pl D.length).map λb=>(ff A).map λs=>b.getD s 0)) ⟨Sx,_,_,_,_,[],rfl,aX,LR.nil⟩ ?_ ?_⟩
  ·rintro i σ Hb hi ⟨mz,KQ,wM,KR,KS,FS,rfl,gF,hF⟩;rw[lA];have hFl:FS.length≤N:=by
    rw[hF.1,bj,bj];exact eJ (vP _ _) (by rw[oM];lia)
   refine⟨_,rfl,_,rfl,ll,_,rfl,.inl (.of (mz _ _ gz)),rfl,Sl ls,_,rfl,?_⟩;rw[Sk];refine pX (λhc=>?_) (λhc=>?_)
   ·have J5:i ∉ ls:=by simpa using hc
    refine⟨_,rfl,am,_,0,.int (N:Int),rfl,rfl,.of (mz _ _ Sy),bE (j:=0) rfl,(N:Int),rfl,by lia,by lia,p7 (n:=N) (lo:=0) (cp:=[some (.int (i:Int))]) (λj H' zs=>zs=(List.range j).map λ(k:Nat)=>V.int (if(decide (V.int (k:Int)=V.int (i:Int)))=true then 1 else 0)) (by lia) rfl (λj H' zs e=>by rw[e,bj,oM];exact cf _) ?_ ?_⟩
    ·rintro j H' zs hj eI rfl;rw[lA];refine iC ⟨_,rfl,_,rfl,rfl,.inr ⟨_,rfl,⟨[_],rfl,rfl⟩,eI,?_⟩⟩;rw[oP,cY];rfl
    rintro Hc zs KU rfl lv KW;rw[ab5 p N D i hi];have KY:=KU.trans (aL.upd (o:=.lst ((ku p N D i 0).map V.int)) KW);have gv:(upd Hc lv (.lst ((ku p N D i 0).map V.int))) lv=some (.lst ((ku p N D i 0).map V.int)):=aX;have KZ:Hb lv=none:=jS KU KW;have nlo:lv≠lo:=λe=>by rw[e,gF]at KZ;cases KZ
    clear KW KU;generalize upd Hc lv (.lst ((ku p N D i 0).map V.int))=Hd at KY gv ⊢;refine⟨_,rfl,t2,rfl,⟨_,(mz.trans KY).bq EJ⟩,W3 (b:=false) (xs:=DS) (λk σ H'=>aL Hb H'∧∃K0 K1,σ=[some (.int p),some (.ref bK),some (.ref ar),some (.ref am),some (.ref aw),some (.ref al),some (.ref AV),some (.ref t2),s8,K0,dy,rZ,K1,some (.ref ll),some (.ref le),some (.ref lo),some (.int (i:Int)),some (.ref lv)]∧H' lv=some (.lst ((ku p N D i k).map V.int))) ⟨KY,_,_,rfl,gv⟩ (λk σ H' h=>(mz.trans h.1).bq EJ) (λk σ H1 H2 s h=>⟨h.1.trans s,let ⟨a,b,e,g⟩:=h.2;⟨a,b,e,s _ _ g⟩⟩) ?_ ?_⟩
    ·rintro k x σ He hx ⟨tW,K0,K1,rfl,g⟩;obtain⟨qv,qa,vB,rfl,KI⟩:=oo hDa hx;have EK:=RO.rws qv (dY vB);obtain⟨K2,tl,wA,KJ,HK⟩:=EC.Ce RO.rws vB;have hk:k<D.length:=(dO.mp vB).1;have B:=Cf pp EC RO.rws hi k (by lia);refine⟨_,rfl,_,rfl,qa,_,(i:Int),_,rfl,rfl,(mz.trans tW).bq KI,bE (nB (by rw[EK.1];exact hi)),_,rfl,_,rfl,_,_,rfl,rfl,(by show(0:Int)<p;lia),_,rfl,_,rfl,_,rfl,ll,_,(k:Int),.int (K2:Int),rfl,rfl,.of ((mz.trans tW) _ _ gz),bE (by rw[du,wA];rfl),lv,_,(K2:Int),K2,rfl,rfl,g,?_,?_⟩
     ·unfold qU;rw[ae (by lia),ae (by rw[bj,B.rw.1];lia)];simp
     ·exact⟨tW.write KZ,_,_,rfl,by rw[aX,N2 vB KJ,List.map_set]⟩
    ·rintro σ He ⟨tW,K0,K1,rfl,g⟩;rw[eD]at g;have B:=Cf pp EC RO.rws hi D.length (cf _);have Sz:=(mz.trans tW) _ _ ge;refine⟨_,rfl,.inl ⟨rfl,_,.of (tW _ _ gF)⟩,_,rfl,le,rfl,⟨_,.of Sz⟩,pZ (cp:=[some (.ref lv)]) (λj H' zs=>zs=(((ff A).map λs=>(ku p N D i D.length).getD s 0).take j).map V.int) (.of Sz) (by rw[jG];lia) rfl (λj H' zs e=>by rw[e,bj];exact pK _ _) ?_ ?_⟩
     ·rintro j x H' zs hx eI rfl;obtain⟨sv,AR,rfl⟩:∃sv:Nat,(ff A)[j]?=some sv∧x=.int (sv:Int):=by
       unfold cD at hx;rw[du]at hx;cases h:(ff A)[j]? with
       |none=>rw[h]at hx;cases hx
       |some sv=>rw[h]at hx;cases hx;exact⟨sv,rfl,rfl⟩
      refine iC ⟨_,rfl,_,rfl,lv,_,(sv:Int),_,rfl,rfl,.of (eI _ _ g),bE (nB (by rw[B.rw.1];exact ab7 sv (dY AR))),⟨[_],rfl,rfl⟩,eI,?_⟩;rw[gZ,du,AR,cY];rfl
     rintro Hf zs SA rfl lz i8;rw[jG,lB (by rw[bj];exact cf _)];have K3:=(tW.trans SA).trans (aL.upd (o:=.lst (((ff A).map λs=>(ku p N D i D.length).getD s 0).map V.int)) i8);have SD:lz≠lo:=λe=>by rw[e,(tW.trans SA) _ _ gF]at i8;cases i8
     refine⟨lo,FS,.ref lz,rfl,rfl,K3 _ _ gF,by lia,?_⟩;refine⟨(mz.trans K3).write Ge,_,_,_,_,_,rfl,aX,?_⟩;rw[oP,pI,vO (by simpa using J5),pJ,cY,cY];exact((hF.mono K3).wr).snoc SD (by rw[bZ SD];exact aX)
   ·have ab8:i∈ls:=by simpa using hc
    refine⟨mz,_,_,_,_,FS,rfl,gF,?_⟩;rw[oP,pI,xU (by simpa using ab8),pJ,iK];exact hF
  ·rintro σ Hb ⟨mz,KQ,wM,KR,KS,FS,rfl,gF,hF⟩;have hF:LR (·≠lo) Hb FS ((sN p N D).map λb=>(ff A).map λs=>b.getD s 0):=by
    unfold sN;rw[wz];exact hF
   have hbl:(sN p N D).length≤N:=by
    rw[BB.len];exact eJ (vP _ _) (by rw[oM];exact cf _)
   refine⟨_,rfl,_,rfl,_,rfl,le,_,rfl,.inl (.of (mz _ _ ge)),p,lo,true,FS,_,d.aI+d.aM+2*d.aK,_,rfl,?_,pp,.of gF,hF.any,by rw[bj];lia,by lia,Su,λt5 H5 DS5 ot Dh xG=>?_⟩
   ·rw[jG,sl]
   ·exact q t5 H5 DS5 (s03.trans ((sz.trans mz).trans ot)) Dh xG
end S21
namespace L2
open PySem PySem.Spec PyProof.Rows
open PySem.W (Looks)
section
variable{X:Cx}{C W:Addr}{wn y:Str}{wp np yp ap hp pos:Pos}{ix cj:Nat}
theorem ab9{body:List Stmt}{tb:XK→TS}(EO:X.stack=X.env::X.outer)(yI:X.env.frame=some X.env.locals)(hb:Sa X C body tb)
  (hgw:Gl X wn) (hmw:X.mg wn=some (.ref W)) (hex:PySem.W.exmOne X.K (.ref C) (.ref W)=some true) (hN:X.N.Nodup) (hy:X.N[ix]?=some y) (ly:X.env.scope.names.lookup y=some .local)
  (hdw:(wn==("__debug__":Str))=false:=by decide) (hs2:swapsWith (.Constant .none cj np) (some (.Name y yp)) ap.line X.env=pure false:=by rfl) :
  PS X (.Try body [.ExceptHandler (some (.Name wn wp)) none [.Assign [.Name y yp] (.Constant .none cj np) ap] hp] [] [] pos)
   (λD σ H=>tb (λ_ _ H'=>∀ea,H' ea=none→D.nx (σ.set ix (some .cg)) (upd H' ea (Es C ea))) D σ H):=by
 intro aH s σ H D I h;refine wpAny_Try_except (ag (hb aH s σ H D _ I h) (λf s' q=>?_) λe s' ⟨H1,s1,I1,hq⟩=>?_)
 ·cases f with
  |next=>exact aj q
  |ret v=>exact q
  |brk=>exact q
  |cont=>exact q
 obtain⟨ea,B,a0,H',rfl,os,bare,un,bH,jF,q6,q7,q8⟩:=hq;have fl1:Heap.FlyingW B (X.env::X.outer) ea (.ref C) a0 s'.heap:=EO▸jF;have J4:X.A.frames=some (X.env::X.outer):=EO▸I1.ok.frames;refine wpAny_looks_onW J4 yI fl1 λh4 aca BR=>?_;refine wpAny_landsW aca λh5 SE up5=>?_;have SF:=BR.trans up5;have SG:Heap.FlyingW B X.stack ea (.ref C) a0 h5:=by rw[EO];exact SE
 obtain⟨_,I5,_⟩:=I1.Ro (tk:=s'.toks) os bare un bH jF q6 q7 SG SF;refine wpAny_handleBy_cons (codeAny_handlers_test ?_) (by intro q;cases q);refine Calls.Name_function_global I.ok.kind hgw (Calls.loadGlobal_global (by rw[I.ok.glob];exact I5.mod.glob.keeps I5.bk) hmw ?_) hdw;obtain⟨oe,hoe,hce⟩:=SG.there;have LT:Looks (model X.prog X.w) h5 (typeOf (.ref ea)) (.ref C):=hce▸(Looks.ld hoe).andThen .now;refine(PySem.W.exm_one (M:=model X.prog X.w) I5.fo LT hex).here ?_;refine codeAny_handlers_suite (lands_againW SE λh6 fl6 up6=>?_);have acb:Heap.FlyingW B X.stack ea (.ref C) a0 h6:=by rw[EO];exact fl6
 obtain⟨hn0,_,I6⟩:=I1.Ro (tk:=s'.toks) os bare un bH jF q6 q7 acb (SF.trans up6);refine wpAny_execs_cons (wpAny_Assign_Name ?_ hs2);refine Constant_none (Bn I6 hN hy (.inl ly) (v:=.cg) rfl (λs8 I8=>?_) (.inr ly));exact aj ⟨_,_,I8,q8 ea hn0⟩
end
end L2
namespace S21
open PySem L2 Bw
variable{H:Hp}{d:Drw}{f:Addr}{fd:FuncData}{l r:Nat}{p:Int}{ps:List Str}
section
variable{p:Int}
theorem vD:∀{d:Drw},d.cK p→d.aK=0→d.wf p
 | .box x l r aN,h,e=>by
  rcases h with h|⟨h,_⟩
  ·exact h
  ·exact absurd e (by show(if x=Str.ofString "late" then 1 else 0)≠0;rw[ae h];decide)
 | .times n,h,_=>h
 | .back d,h,e=>vD (d:=d) h e
 | .cJ a b,h,e=>by
  have e:a.aK+b.aK=0:=e;exact⟨vD h.1 (by lia),vD h.2 (by lia)⟩
 | .bf a b,h,e=>by
  have e:a.aK+b.aK=0:=e;exact⟨vD h.1 (by lia),vD h.2.1 (by lia),h.2.2⟩
theorem xJ:∀{d:Drw}{c:Nat},d.aK=0→d.eB p 0 c=d.aN p
 | .box x l r aN,c,e=>by
  have e:(if x=Str.ofString "late" then 1 else 0)=0:=e
  have hx:¬x=Str.ofString "late":=λh=>by rw[ae h]at e;cases e
  show(if x=Str.ofString "late" then _ else aN.map (·++List.replicate (2*0) 0))=aN
  rw[af hx]
  have:(λr:List Int=>r++List.replicate (2*0) 0)=id:=by
   funext r
   exact iK r
  rw[this,List.map_id]
 | .times n,c,_=>rfl
 | .back d,c,e=>by
  show dI p ((d.eB p 0 c).map (iD d.aI d.aM))=dI p ((d.aN p).map (iD d.aI d.aM));rw[xJ (d:=d) e]
 | .cJ a b,c,e=>by
  have e:a.aK+b.aK=0:=e;show dI p (nG _ _ _ _ (a.eB p 0 c) (b.eB p 0 (c+a.aK)))=dI p (nG _ _ _ _ (a.aN p) (b.aN p));rw[xJ (d:=a) (by lia),xJ (d:=b) (by lia)]
 | .bf a b,c,e=>by
  have e:a.aK+b.aK=0:=e;show nH p _ _ _ (a.eB p 0 c) (b.eB p 0 (c+a.aK))=nH p _ _ _ (a.aN p) (b.aN p);rw[xJ (d:=a) (by lia),xJ (d:=b) (by lia)]
theorem acd{row:List Int}(h:row.length=l+r):jc l r 0 row=row:=by
 unfold jc;have e:row.drop (l+r+0)=[]:=List.drop_of_length_le (by lia);have e2:(row.drop l).take r=row.drop l:=lB (by rw[fE];lia);rw[e,e2,List.take_zero,iK,iK];exact List.take_append_drop _ _
theorem ace(pp:p∈cX)(hd:d.cK p)(hs:d.sm)(e:d.aK=0):iz p d=d.aN p:=by
 have hw:=vD hd e;obtain⟨_,_,_,hR⟩:=Drw.good pp hw hs;unfold iz;rw[e,xJ e]
 have:(d.aN p).map (jc d.aI d.aM 0)=d.aN p:=by
  have h:(d.aN p).map (jc d.aI d.aM 0)=(d.aN p).map id:=Bc λr hr=>acd (hR r hr).1;rw[h,List.map_id]
 rw[this];exact Drw.one pp ⟨hw,hs⟩
end
theorem SH{H':Hp}{P1 P2:Addr}{pos acf:Pos}{q q2:Str}(h:fe H P1 pos q)(cB:P1≠P2)(h2:fe H P2 acf q2)(s:aL (del P2 H) H'):fe H' P1 pos q:=by
 obtain⟨ps,hP⟩:=h2.tab;rcases h with h|⟨c',h,hc⟩
 ·exact .inl (s _ _ (by rw[zG cB];exact h))
 ·exact .inr ⟨c',s _ _ (by rw[zG cB];exact h),s _ _ (oB hP hc (λ_ z=>nomatch z))⟩
noncomputable def K4(K:Frag):Bool:=Kr K "NoRun"&&(PySem.W.exmOne K (.ref (eP K "NoRun")) (.ref (eP K "NoRun"))==some true)
structure SI(K:Frag)(mg:Str→Option Value):Prop where
 R:Ks K mg "NoRun"
 self:PySem.W.exmOne K (.ref (eP K "NoRun")) (.ref (eP K "NoRun"))=some true
theorem SJ{h:Heap}(X:K.In h)(G:h.Ns mainGlobals mg)(e:K4 K=true):SI K mg:=by
 unfold K4 at e;simp only[fg]at e;exact⟨abW X G e.1,beq_iff_eq.mp e.2⟩
def SK(K:Frag)(Pt:Addr):Sp:=λvs H Q _=>∃(p:Int)(aw:Addr)(d:Drw),vs=[.int p,.ref aw]∧p∈cX∧d.cK p∧d.sm∧d.aR.length≤900000∧d.aK≤40∧H aw=some (.tup d.aR)∧fe H Pt (iV jC) mV∧
 (Runs (d.aI+d.aK) (iz p d)→∀v H',aL (S21.del Pt H) H'→fe H' Pt (iV jC) mV→qC K H' v d.aI d.aK d.aM (AO (iz p d) (d.aI+d.aK) (d.aM+d.aK))→Q (.ref v) H')∧
 (¬Runs (d.aI+d.aK) (iz p d)→∀H',aL (S21.del Pt H) H'→fe H' Pt (iV jC) mV→Q .cg H')
theorem ER:dj ["p","words","found"] ["p","words"] (bo Ia):=dQ rfl rfl rfl (by decide +kernel) rfl
theorem acg{Pt fM:Addr}{gO:FuncData}(F:cG K "_law_machine" "_law_machine" Ia f fd)(Y:SI K mg)
  (GM:bz P w K mg base (vk P w (eP K "NoRun")) 12 fM gO ["p","words"] (Sf K Pt)) (kM:Kp K fM) (bM:Binds K gO ["p","words"] []) (mM:Mg mg "machine" fM) :
  bz P w K mg base bx 13 f fd ["p","words"] (SK K Pt):=by
 refine F.ok ER (λvs H Q E h=>?_) (λbI A outer s H vs Q E hr h=>?_)
 ·obtain⟨p,aw,d,rfl,_⟩:=h;rfl
 ·obtain⟨p,aw,d,rfl,pp,hd,hs,mn,ik,gg,hL,q1,q2⟩:=h;refine⟨_,bg (cm (i:=2) ER.nd rfl (.inl rfl) uf) (bg (ab9 (C:=eP K "NoRun") (ix:=2) rfl rfl (abV (iy:=2) (λ_ _ z=>z) GM hr rfl mM kM bM (aJ (pv 0) (aJ (pv 1) aQ)) ER.nd rfl rfl) rfl Y.R.mC Y.self ER.nd rfl rfl) (bQ (cI (pv 2)))),?_⟩;refine⟨_,rfl,_,rfl,p,aw,d,rfl,pp,hd,hs,mn,ik,gg,hL,λlg v H1 s1 oi hm=>?_,λlg H1 s1 oi ea hea=>?_⟩
  ·exact⟨_,rfl,q1 lg v H1 s1 oi hm⟩
  ·have s2:=aL.upd (o:=Es (eP K "NoRun") ea) hea;exact⟨_,rfl,q2 lg _ (s1.trans s2) (oi.mono s2)⟩
theorem nqr:(["row","given"]:List Str).Nodup:=by decide +kernel
theorem nqk:(["k","given"]:List Str).Nodup:=by decide +kernel
theorem ach:(["k","due","given"]:List Str).Nodup:=by decide +kernel
theorem aci:(["row","given","k"]:List Str).Nodup:=by decide +kernel
theorem acj{X:Cx}{l:List Stmt}(t:TS)(h:jl X l t):jl X l t:=h
theorem ack(n i:Nat):DM n i=eW n i:=by unfold DM eW;rw[gH]
theorem qC.mono{H H':Hp}{v:Addr}{l s r:Nat}{aN:LL}(h:qC K H v l s r aN)(e:aL H H'):qC K H' v l s r aN:=let ⟨c,DS,h1,h2,h3⟩:=h;⟨c,DS,e.bq h1,e.bq h2,br.mono e h3⟩
theorem qC.dat{v:Addr}{s:Nat}{aN:LL}(h:qC K H v l s r aN):gJ K H (.ref v) (.tuple [.int (l:Int),.int (s:Int),.int (r:Int),.tuple (aN.map cw)]):=let ⟨_,_,h1,h2,h3⟩:=h;.tuple h1 (.cons (.int _) (.cons (.int _) (.cons (.int _) (.cons (.tuple h2 h3) .nil))))
theorem SM(a b c:Int)(rs:LL):kqdOk 8 (.tuple [.int a,.int b,.int c,.tuple (rs.map cw)])=true:=by
 show([Dat.int a,.int b,.int c,.tuple (rs.map cw)]).all (kqdOk 7)=true;simp only[List.all_cons,List.all_nil,Bool.and_true];show(true&&(true&&(true&&(rs.map cw).all (kqdOk 6))))=true;rw[G3 5];rfl
def K5(K:Frag):TE:=j9 (me K (aW 5)) 1 [10] (cq 0) iP (gP (ij K) (aW 0) i5 (fG (aW 1)))
def K6(K:Frag):TE:=j9 (Bs (aZ (aW 10) bG)) 1 [10] (cq 0) iP (iY (Jw K) [] E0 (aZ (aW 1) (aZ (aW 0) bG)))
def K7(K:Frag):TE:=lD (w4 K) (aZ (j9 (me K (aW 1)) 1 [2,0] (cq 0) iP (cA (pV K) (aW 0) (kg (aW 1) (aW 2)))) bG)
def K8(K:Frag):TE:=j9 (Bs (aZ (kg (aW 4) (aW 6)) bG)) 1 [5,10] (cq 0) iP (K7 K)
def AX(K:Frag):TE:=cA (uw K false) (aW 11) (eS (aZ (aW 3) (aZ (aW 6) (aZ (aW 4) (aZ (lD (w4 K) (aZ (aW 12) bG)) bG)))))
def SN:R2:=λx y H Q=>y=.cg∧Q (.bl (decide (x=.cg))) H
def tQ(K:Frag):TS:=cy (dW (jm (cA (uw K true) (K5 K) (K6 K))) (eh (cA SN (aW 11) (tC .cg))) gi) (cy (dC (K8 K) (cq 12)) (eh (AX K)))
open Classical in
theorem SO{D:Ends}{a bK v:Addr}{fv:V}{DS:List V}{R:LL}{s:Nat}{s7 s8 s9:Option V}(l1:l≤100)(s1:s≤100)(r1:r≤100)(hv:bh K H v DS)(hD:br K H DS (R.map cw))(rR:ck p (l+r+2*s) R)(EI:R.length≤1000)
  (hf:(Runs (l+s) R∧∃t,fv=.ref t∧qC K H t l s r (AO R (l+s) (r+s)))∨(¬Runs (l+s) R∧fv=.cg)) (q:∀H',D.rt (.bl true) H') :
  tQ K D [some (.ref a),some (.int p),some (.ref bK),some (.int (l:Int)),some (.int (r:Int)),some (.ref v),some (.int (s:Int)),s7,s8,s9,some (.int ((l+s:Nat):Int)),some fv,none] H:=by
 have z:(1000:Nat)≤sizeLine:=by decide
 have rl:∀x∈R,x.length=l+s+(r+s):=λx hx=>by rw[(rR x hx).1];lia
 generalize hn:l+s=n at *;unfold tQ K5;refine⟨_,rfl,v,rfl,⟨_,hv⟩,?_⟩;refine rG (f:=λx=>x.take n) (cp:=[some (.int (n:Int))]) hv hD (by lia) (λrow ra H3 iF s3 dJ=>jw (i9 rfl dJ) lP (iq (e9 rfl)) (rF (by rw[rl row iF];lia))) ?_;intro H3 ZS s3 hZ lz i8;have s4:=aL.upd (o:=.lst ZS) i8;unfold K6;refine⟨_,rfl,(n:Int),rfl,by lia,by lia,p7 (n:=n) (lo:=0) (cp:=[some (.int (n:Int))]) (λi H' zs=>br K H' zs (((List.range i).map (eW n)).map cw)) (by lia) .nil (λi H' zs h=>by rw[h.length,bj,bj,oM];exact cf _) ?_ ?_⟩
 ·rintro i H5 zs hi sm h;rw[lA];refine iC ⟨_,rfl,_,rfl,n,i,_,_,rfl,rfl,rfl,hi,by lia,λt H6 s6 ht=>⟨⟨[_],rfl,rfl⟩,sm.trans s6,?_⟩⟩;rw[ack]at ht;rw[oP,cY,cY];exact(h.mono s6).append (.cons (ke ht) .nil)
 rintro H5 zs sm h lq mQ;have s6:=aL.upd (o:=.lst zs) mQ;refine⟨.list ((R.map λx=>x.take n).map cw),.list ((tI n).map cw),.list (.of ((sm.trans s6) _ _ aX)) (br.mono (s4.trans (sm.trans s6)) hZ),.list (.of aX) (h.mono s6),CT _,CT _,_,rfl,?_⟩;have sE:=s3.trans (s4.trans (sm.trans s6));rcases hf with⟨lg,t0,rfl,hm⟩|⟨lg,rfl⟩
 ·refine B4 (ai (λx:LL=>Dat.list (x.map cw)) lg) ?_;have xF:=sE.bq hv;have xG:=br.mono sE hD;have SQ:=hm.mono sE;have eD:DS.length=R.length:=gN hD;generalize upd H5 lq (.lst zs)=H6 at sE xF xG SQ ⊢;unfold K8 K7;refine⟨_,rfl,_,rfl,_,_,rfl,rfl,((r+s:Nat):Int),ai (λx=>[V.int x]) (by lia),by lia,by lia,p7 (n:=r+s) (lo:=0) (cp:=[some (.ref v),some (.int (n:Int))]) (λi H' zs=>br K H' zs (((List.range i).map λi=>(R.map (·.drop n)).map λr=>r.getD i 0).map cw)) (by lia) .nil (λi H' zs h=>by rw[h.length,bj,bj,oM];exact cf _) ?_ ?_⟩
  ·rintro i H7 zv hi lN h7;rw[lA];refine iC ⟨_,rfl,v,rfl,⟨_,lN.bq xF⟩,ux (xs:=DS) (cp:=[some (.int (n:Int)),some (.int (i:Int))]) (λk H' zs=>zs=(((R.map (·.drop n)).map λr=>r.getD i 0).take k).map V.int) (lN.bq xF) (by lia) rfl (λk H' zs e=>by rw[e,bj];exact pK _ _) ?_ ?_⟩
   ·rintro k' x H8 yR hx rE rfl;obtain⟨row,ra,kH,rfl,dJ⟩:=oo xG hx;have my:=rl row (dY kH);refine iC ⟨_,rfl,_,rfl,_,rfl,_,_,rfl,rfl,ra,_,((n+i:Nat):Int),_,rfl,ai V.int (by lia),(lN.trans rE).bq dJ,bE (R9 (by rw[my];lia)),⟨[_],rfl,rfl⟩,rE,?_⟩;rw[gZ,du,du,kH,cY];show _++[V.int (row.getD (n+i) 0)]=_++[V.int ((row.drop n).getD i 0)];rw[cz,cz,t8]
   ·rintro H8 yR rE rfl lw vC;rw[lB (by rw[bj,bj,eD];exact cf _)];refine⟨lw,_,rfl,.inl ⟨.of aX,λt ht=>?_⟩⟩;have pk:=rE.trans ((aL.upd vC (o:=.lst (((R.map (·.drop n)).map λr=>r.getD i 0).map V.int))).trans (aL.upd ht (o:=.tup (((R.map (·.drop n)).map λr=>r.getD i 0).map V.int))));refine⟨⟨[_],rfl,rfl⟩,lN.trans pk,?_⟩;rw[oP,cY,cY];exact(h7.mono pk).append (.cons (ke (.of aX)) .nil)
  ·rintro H7 zv lN h7 lw vC;have s8:=aL.upd (o:=.lst zv) vC;show AX K _ _ _;unfold AX;refine⟨_,rfl,_,rfl,_,rfl,_,rfl,_,rfl,lw,_,rfl,.inl ⟨.of aX,λt ht=>?_⟩⟩;have s9:=aL.upd (o:=.tup zv) ht;refine⟨by show 4≤sizeLine;lia,λm hm'=>?_⟩;have dy:=aL.upd (o:=.tup [.int (l:Int),.int (s:Int),.int (r:Int),.ref t]) hm';have hM:qC K _ m l s r (AO R n (r+s)):=⟨t,zv,.of aX,dy.bq (.of aX),h7.mono (s8.trans (s9.trans dy))⟩;refine⟨_,_,(SQ.mono (lN.trans (s8.trans (s9.trans dy)))).dat,hM.dat,SM _ _ _ _,SM _ _ _ _,?_⟩;rw[af (by decide),aD rfl];exact q _
 ·refine OK (λe=>lg ?_) ⟨_,rfl,rfl,?_⟩
  ·exact Si (Dat.list.inj e)
  ·rw[aD rfl];exact q _
structure Ask(p:Int)(d c:Drw):Prop where
 wf:c.cK p
 sm:c.sm
 la:c.aK≤40
 len:c.aR.length≤170
 no:d.aK=0→c.aK=0
def vE(H:Hp)(SS:List V)(ds:List Drw):Prop:=SS.length=ds.length∧∀(i:Nat)(x:V)(c:Drw),SS[i]?=some x→ds[i]?=some c→∃b,x=.ref b∧H b=some (.tup c.aR)
structure L4(K:Frag)(Pt Pf:Addr)(p:Int)(d:Drw)(ds:List Drw)(bK v sa:Addr)(DS SS:List V)(H:Hp):Prop where
 w:H bK=some (.tup d.aR)
 v:bh K H v DS
 r:br K H DS ((iz p d).map cw)
 s:H sa=some (.lst SS)
 e:vE H SS ds
 lt:fe H Pt (iV jC) mV
 lf:fe H Pf (iV oC) uP
section
variable{Pt Pf:Addr}{p:Int}{d:Drw}{ds:List Drw}{bK v sa:Addr}{DS SS:List V}{H H':Hp}
theorem vE.mono(h:vE H SS ds)(s:aL H H'):vE H' SS ds:=⟨h.1,λi x c e1 e2=>let ⟨b,e,g⟩:=h.2 i x c e1 e2;⟨b,e,s _ _ g⟩⟩
theorem L4.mono(h:L4 K Pt Pf p d ds bK v sa DS SS H)(s:aL H H'):L4 K Pt Pf p d ds bK v sa DS SS H':=⟨s _ _ h.w,s.bq h.v,br.mono s h.r,s _ _ h.s,h.e.mono s,h.lt.mono s,h.lf.mono s⟩
theorem vE.past{ps:Array Value}(h:vE H SS ds)(hP:H Pt=some (.fh ps))(s:aL (S21.del Pt H) H'):vE H' SS ds:=⟨h.1,λi x c e1 e2=>let ⟨b,e,g⟩:=h.2 i x c e1 e2;⟨b,e,s _ _ (oB hP g λ_ z=>nomatch z)⟩⟩
theorem L4.K9(h:L4 K Pt Pf p d ds bK v sa DS SS H)(cB:Pf≠Pt)(s:aL (S21.del Pt H) H')(hL:fe H' Pt (iV jC) mV):L4 K Pt Pf p d ds bK v sa DS SS H':=by
 obtain⟨ps,hP⟩:=h.lt.tab;exact⟨s _ _ (oB hP h.w λ_ z=>nomatch z),s.bq (bh.del hP h.v),br.mono s (br.del hP h.r),s _ _ (oB hP h.s λ_ z=>nomatch z),h.e.past hP s,hL,SH h.lf cB h.lt s⟩
theorem L4.acm(h:L4 K Pt Pf p d ds bK v sa DS SS H)(cB:Pf≠Pt)(s:aL (S21.del Pf H) H')(hL:fe H' Pf (iV oC) uP):L4 K Pt Pf p d ds bK v sa DS SS H':=by
 obtain⟨ps,hP⟩:=h.lf.tab;exact⟨s _ _ (oB hP h.w λ_ z=>nomatch z),s.bq (bh.del hP h.v),br.mono s (br.del hP h.r),s _ _ (oB hP h.s λ_ z=>nomatch z),h.e.past hP s,SH h.lt cB.symm h.lf s,hL⟩
end
theorem Ask.of(h:Gk p d):Ask p d d:=by
 obtain⟨a,_,_⟩:=lV h.wf
 have:=h.len
 exact⟨h.wf,tN h.wf (by lia),by lia,by lia,id⟩
theorem Ask.bf{p:Int}{d:Drw}(h:Gk p d)(hl:d.aR.length<39):Ask p d (.bf (.back d) d):=by
 obtain⟨a,_,_⟩:=lV h.wf;have hw:(Drw.bf (.back d) d).cK p:=⟨h.wf,h.wf,rfl⟩;have e:(Drw.bf (.back d) d).aR.length=2*d.aR.length+2:=by
  show(V.str "then"::((V.str "back"::d.aR)++d.aR)).length=_;rw[dB,cx,dB];lia
 have e2:(Drw.bf (.back d) d).aK=d.aK+d.aK:=rfl;exact⟨hw,tN hw (by lia),by lia,by lia,by lia⟩
theorem Ask.bes(h:Gk p d)(hl:d.aR.length<39):Ask p d (.cJ d d):=by
 obtain⟨a,_,_⟩:=lV h.wf;have hw:(Drw.cJ d d).cK p:=⟨h.wf,h.wf⟩;have e:(Drw.cJ d d).aR.length=2*d.aR.length+1:=by
  show(V.str "beside"::(d.aR++d.aR)).length=_;rw[dB,cx];lia
 have e2:(Drw.cJ d d).aK=d.aK+d.aK:=rfl;exact⟨hw,tN hw (by lia),by lia,by lia,by lia⟩
def ET(K:Frag)(Pt Pf:Addr):Sp:=λvs H Q _=>∃(a:Addr)(ns:List Int),vs=[.ref a]∧dw K H a (ns.map V.int)∧ns.length≤63∧fe H Pt (iV jC) mV∧fe H Pf (iV oC) uP∧∀H',Q (.bl true) H'
noncomputable abbrev EU:List Str:=["script","p","words","left","right","due","late","some","drawing","rows","given","found","outs"]
theorem mY:dj EU ["script"] (bo om):=dQ rfl rfl rfl (by decide +kernel) rfl
theorem acn{Pt Pf fP fD fR fT fL fM fU:Addr}{Av i7 AS lM ow gO AL:FuncData}(cB:Pf≠Pt)(F:cG K "law" "law" om f fd)(T:Txt mg)
  (GP:bz P w K mg base bx 2 fP Av ["script"] (Qi K)) (kP:Kp K fP) (bP:Binds K Av ["script"] []) (mP:Mg mg "_law_prime" fP)
  (GD:bz P w K mg base bx 3 fD i7 ["script","p"] (Rc K)) (kD:Kp K fD) (bD:Binds K i7 ["script","p"] []) (mD:Mg mg "_law_drawing" fD)
  (GR:bz P w K mg base bx 3 fR AS ["p","words"] (Sn K)) (kR:Kp K fR) (bR:Binds K AS ["p","words"] []) (mR:Mg mg "_law_rows" fR)
  (GT:bz P w K mg base bx 11 fT lM ["p","words"] (DW K Pt)) (kT:Kp K fT) (bT:Binds K lM ["p","words"] []) (mT:Mg mg "ticks" fT)
  (GL:bz P w K mg base bx 10 fL ow ["p","words"] (PB K Pf)) (kL:Kp K fL) (bL:Binds K ow ["p","words"] []) (mL:Mg mg "plain" fL)
  (GM:bz P w K mg base bx 13 fM gO ["p","words"] (SK K Pt)) (kM:Kp K fM) (bM:Binds K gO ["p","words"] []) (mM:Mg mg "_law_machine" fM)
  (GU:bz P w K mg base bx 1 fU AL ["length","at"] (Jw K)) (kU:Kp K fU) (bU:Binds K AL ["length","at"] []) (mU:Mg mg "_law_unit" fU) :
  bz P w K mg base bx 14 f fd ["script"] (ET K Pt Pf):=by
 refine F.ok mY (λvs H Q E h=>by obtain⟨a,ns,rfl,_⟩:=h;rfl) (λbI A outer s H vs Q E hr h=>?_);obtain⟨a,ns,rfl,hS,cO,SR,SU,q⟩:=h;have jv:dP 1 _:=hr.mono (by decide);have hr2:dP 2 _:=hr.mono (by decide);have AM:dP 3 _:=hr.mono (by decide);have aco:dP 10 _:=hr.mono (by decide);have acp:dP 11 _:=hr.mono (by decide);have z:(2000:Nat)≤sizeLine:=by decide
 refine⟨_,bg (cm (i:=1) mY.nd rfl (.inl rfl) (cT GP hr2 rfl mP kP bP .nil cU (aJ (pv 0) aQ))) (bg (sj (cT GD AM rfl mD kD bD .nil cU (aJ (pv 0) (aJ (pv 1) aQ))) (NA (n:=3) rfl (iM (cF (i:=2) mY.nd rfl (.inl rfl)) (iM (cF (i:=3) mY.nd rfl (.inl rfl)) (iM (cF (i:=4) mY.nd rfl (.inl rfl)) qN))))) (bg (cm (i:=5) mY.nd rfl (Or.inr rfl) (cT GR AM rfl mR kR bR .nil cU (aJ (pv 1) (aJ (pv 2) aQ)))) (bg (cm (i:=6) (te:=rM rN (aW 2) (aZ (tC (.str "late")) bG)) mY.nd rfl (.inl rfl) (zS E8 E9 zT (pv 2) (aJ dH aQ))) (bg (cm (i:=7) mY.nd rfl (.inl rfl) (cZ (aJ (pv 2) aQ))) (bg (ee (dg pT (iN (ko K rfl) rfl T.len kq (aJ (pv 2) aQ)) aO (de _)) (bQ (cm (i:=7) mY.nd rfl (.inl rfl) (aY o8 (pv 7) (cZ (aJ (aY kQ (aY kQ (cE (aJ dH (aJ dH aQ))) (pv 2)) (pv 2)) (aJ (aY kQ (aY kQ (cE (aJ dH aQ)) (pv 2)) (pv 2)) aQ)))))) eK) (bg (mf nS rfl (lI K rfl (pv 7)) (cF (i:=8) mY.nd rfl (.inl rfl)) (bg (cm (i:=9) mY.nd rfl (.inl rfl) (cT GR AM rfl mR kR bR .nil cU (aJ (pv 1) (aJ (pv 8) aQ)))) (bQ (ee (PW.pt (Ul (dg (B5 K rfl hr.units) (cT GT acp rfl mT kT bT .nil cU (aJ (pv 1) (aJ (pv 8) aQ))) (pv 9) (de _)) (Uk (PW.pt (oU (dg hI (pv 6) aO (de _)) (ug (dg (B5 K rfl hr.units) (cT GL aco rfl mL kL bL .nil cU (aJ (pv 1) (aJ (pv 8) aQ))) (pv 9) (de _)))))))) (bQ (cI Uc)) eK)))) (bg (cm (i:=10) mY.nd rfl (Or.inr rfl) (aY dt (pv 3) (pv 6))) (bg (cm (i:=11) mY.nd rfl (.inl rfl) (cT GM hr rfl mM kM bM .nil cU (aJ (pv 1) (aJ (pv 2) aQ)))) (acj (tQ K) ?tl))))))))),?_⟩
 case tl=>
  unfold tQ;refine bg ?_ ?_
  ·refine ee ?_ ?_ eK
   ·refine dg (B5 K rfl hr.units) ?_ ?_ (de _)
    ·unfold K5;refine fY (N:=["row","given"]) (own:=1) (caps:=[10]) rfl ?_ ?_ ?_ ?_ ?_
     ·exact lJ K rfl (pv 5)
     ·exact(show dk EU (bo om) ["row","given"] 1 [10] _ from .mk' (by decide +kernel))
     ·exact λ_ _ _ _ _=>cF (i:=0) nqr rfl (.inl rfl)
     ·exact λ_ _ _ _ _=>eU
     ·exact λ_ _ _ _ _=>gk (gK K rfl) (pv 0) iO (fb (pv 1))
    ·unfold K6;refine fY (N:=["k","given"]) (own:=1) (caps:=[10]) rfl ?_ ?_ ?_ ?_ ?_
     ·exact j6 rfl T.range (aJ (pv 10) aQ)
     ·exact(show dk EU (bo om) ["k","given"] 1 [10] _ from .mk' (by decide +kernel))
     ·exact λ_ _ _ _ _=>cF (i:=0) nqk rfl (.inl rfl)
     ·exact λ_ _ _ _ _=>eU
     ·exact λ_ _ _ _ _=>cT GU jv rfl mU kU bU .nil cU (aJ (pv 1) (aJ (pv 0) aQ))
   ·exact bQ (cI (te:=cA SN (aW 11) (tC .cg)) (FG Mi (pv 11) uf (de _)))
  refine bg ?_ ?_
  ·unfold K8;refine nY (i:=12) (N:=["k","due","given"]) (own:=1) (caps:=[5,10]) rfl mY.nd rfl rfl ?_ ?_ ?_ ?_ ?_
   ·exact j6 rfl T.range (aJ (aY dt (pv 4) (pv 6)) aQ)
   ·exact(show dk EU (bo om) ["k","due","given"] 1 [5,10] _ from .mk' (by decide +kernel))
   ·exact λ_ _ _ _ _=>cF (i:=0) ach rfl (Or.inr rfl)
   ·exact λ_ _ _ _ _=>eU
   ·intro _ _ _ _ _;unfold K7;refine mi (o9 K rfl) rfl T.tuple pb ?_;refine aJ ?_ aQ ?_
    ·refine fY (N:=["row","given","k"]) (own:=1) (caps:=[2,0]) rfl ?_ ?_ ?_ ?_ ?_
     ·exact lJ K rfl (pv 1)
     ·exact(dk.mk' (by kernel_rfl))
     ·exact λ_ _ _ _ _=>cF (i:=0) aci rfl (.inl rfl)
     ·exact λ_ _ _ _ _=>eU
     ·exact λ_ _ _ _ _=>bc (cC K rfl) (pv 0) (aY dt (pv 1) (pv 2)) (λ_ _=>rfl)
    ·rfl
  refine bQ ?_;refine cI (te:=AX K) ?_;unfold AX;exact FG (W7 K rfl hr.units) (pv 11) (cE (aJ (pv 3) (aJ (pv 6) (aJ (pv 4) (aJ (mi (o9 K rfl) rfl T.tuple pb (aJ (pv 12) aQ)) aQ))))) (de _)
 refine⟨_,rfl,a,ns,rfl,hS,cO,λp H1 pp s1=>?_⟩;obtain⟨p2,gq⟩:=fI p pp;refine⟨_,rfl,_,rfl,a,ns,p,rfl,s1.seq hS,cO,p2,gq,λda d H2 s2 hd hg=>?_⟩;obtain⟨bK,g1,g2⟩:=hd;refine⟨da,_,rfl,.of g1,rfl,_,_,rfl,_,_,rfl,_,_,rfl,rfl,?_⟩;have hA:=Ask.of hg;have wl:=hg.len;refine⟨_,rfl,_,rfl,p,bK,d,rfl,pp,hA.wf,hA.sm,hA.la,hA.len,g2,λv H3 DS s3 hv hD=>?_⟩;have g3:=s3 _ _ g2;refine⟨_,rfl,⟨bK,_,rfl,g3⟩,bK,_,"late",rfl,rfl,g3,rQ d,?_⟩;rw[oE hA.wf];refine⟨_,rfl,by show 1≤sizeLine;lia,λsa SV=>?_⟩;have s4:=aL.upd (o:=.lst [.ref bK]) SV;have I0:L4 K Pt Pf p d [d] bK v sa DS [.ref bK] (upd H3 sa (.lst [.ref bK])):=by
  have sA:=s1.trans (s2.trans (s3.trans s4));refine⟨s4 _ _ g3,s4.bq hv,br.mono s4 hD,aX,⟨rfl,λi x c e1 e2=>?_⟩,SR.mono sA,SU.mono sA⟩;cases i with
  |zero=>cases e1;cases e2;exact⟨bK,rfl,s4 _ _ g3⟩
  |succ i=>cases e1
 clear hv hD g1 g2 g3 SV s4 s1 s2 s3 SR SU hS;generalize upd H3 sa (.lst [.ref bK])=H4 at I0;dsimp only[cq];refine CS (λσ H'=>∃sa ds SS,σ=[some (.ref a),some (.int p),some (.ref bK),some (.int (d.aI:Int)),some (.int (d.aM:Int)),some (.ref v),some (.int (d.aK:Int)),some (.ref sa),none,none,none,none,none]∧L4 K Pt Pf p d ds bK v sa DS SS H'∧∀c∈ds,Ask p d c) (λN hN=>?_) (λσ1 H5 hJ=>?_)
 ·refine⟨_,rfl,bK,_,rfl,.inr (.of I0.w),_,_,rfl,rfl,_,rfl,pX (λhc=>?_) (λ_=>hN _ _ ⟨sa,[d],_,rfl,I0,λc hc=>by rw[cQ.mp hc];exact hA⟩)⟩;have cL:d.aR.length<39:=by have:=aG hc;lia
  refine⟨_,rfl,by show 2≤sizeLine;lia,λt1 k1=>?_⟩;have u1:=aL.upd (o:=.tup [.str "then",.str "back"]) k1;refine⟨_,rfl,t1,bK,_,_,rfl,rfl,aX,u1 _ _ I0.w,by show 2+_≤sizeLine;lia,λt2 H6 u2 k2=>?_⟩;have v2:=u1.trans u2;refine⟨_,rfl,t2,bK,_,_,rfl,rfl,k2,v2 _ _ I0.w,by rw[cx];show 2+_+_≤sizeLine;lia,λt3 H7 u3 k3=>?_⟩;have v3:=v2.trans u3;refine⟨by show 1≤sizeLine;lia,λt4 k4=>?_⟩;have u4:=aL.upd (o:=.tup [.str "beside"]) k4;have v4:=v3.trans u4;refine⟨_,rfl,t4,bK,_,_,rfl,rfl,aX,v4 _ _ I0.w,by show 1+_≤sizeLine;lia,λt5 H8 u5 k5=>?_⟩;have v5:=v4.trans u5;refine⟨_,rfl,t5,bK,_,_,rfl,rfl,k5,v5 _ _ I0.w,by rw[cx];show 1+_+_≤sizeLine;lia,λt6 H9 u6 k6=>?_⟩;have v6:=v5.trans u6;refine⟨by show 2≤sizeLine;lia,λsl C0=>?_⟩;have u7:=aL.upd (o:=.lst [.ref t3,.ref t6]) C0;refine⟨sa,sl,_,_,rfl,rfl,(v6.trans u7) _ _ I0.s,aX,by show 1+2≤sizeLine;lia,λsb Dc=>?_⟩;have u8:=aL.upd (o:=.lst ([.ref bK]++[.ref t3,.ref t6])) Dc;have I8:=I0.mono (v6.trans (u7.trans u8));refine hN _ _ ⟨sb,[d,.bf (.back d) d,.cJ d d],_,rfl,⟨I8.w,I8.v,I8.r,aX,⟨rfl,λi x c e1 e2=>?_⟩,I8.lt,I8.lf⟩,λc hc=>?_⟩
  ·match i with
   |0=>cases e1;cases e2;exact⟨bK,rfl,I8.w⟩
   |1=>
    cases e1;cases e2;refine⟨t3,rfl,?_⟩
    have:=(u4.trans (u5.trans (u6.trans (u7.trans u8)))) _ _ k3
    rw[this];show some (HO.tup ([V.str "then",V.str "back"]++d.aR++d.aR))=some (HO.tup (V.str "then"::((V.str "back"::d.aR)++d.aR)));rfl
   |2=>
    cases e1;cases e2;refine⟨t6,rfl,?_⟩
    have:=(u7.trans u8) _ _ k6
    rw[this];show some (HO.tup ([V.str "beside"]++d.aR++d.aR))=some (HO.tup (V.str "beside"::(d.aR++d.aR)));rfl
   |i+3=>cases e1
  ·rcases(cS.mp hc)with(rfl|hc)
   ·exact hA
   rcases(cS.mp hc)with(rfl|hc)
   ·exact .bf hg cL
   ·rw[cQ.mp hc];exact .bes hg cL
 obtain⟨AY,ds,SS,rfl,I5,uo⟩:=hJ;refine⟨_,rfl,AY,rfl,⟨_,.of I5.s⟩,Fv (xs:=SS) (λi σ H'=>∃s8 s9,σ=[some (.ref a),some (.int p),some (.ref bK),some (.int (d.aI:Int)),some (.int (d.aM:Int)),some (.ref v),some (.int (d.aK:Int)),some (.ref AY),s8,s9,none,none,none]∧L4 K Pt Pf p d ds bK v AY DS SS H') ⟨none,none,rfl,I5⟩ (λi σ H' _ h=>by obtain⟨_,_,_,h⟩:=h;exact .of h.s) ?_ ?_⟩
 ·rintro i x σ H6 hx ⟨s8,s9,rfl,I6⟩;have hi:i<ds.length:=by rw[← I6.e.1];exact(dO.mp hx).1
  have hc:ds[i]?=some ds[i]:=cn hi;have mZ:=uo _ (gY hi);generalize ds[i]=c at hc mZ;obtain⟨b,rfl,gb⟩:=I6.e.2 i x c hx hc;have SW:c.aR.length≤900000:=by have:=mZ.len;lia
  refine⟨_,rfl,_,rfl,p,b,c,rfl,pp,mZ.wf,mZ.sm,mZ.la,mZ.len,gb,λvr H7 RSr s7 hvr zu=>?_⟩;have I7:=I6.mono s7;obtain⟨ps,hP⟩:=I7.lt.tab;refine⟨_,rfl,_,rfl,p,b,c,rfl,pp,mZ.wf,mZ.sm,SW,mZ.la,s7 _ _ gb,I7.lt,λvt DSt H8 s8 hL8 hvt La=>?_⟩;have I8:=I7.K9 cB s8 hL8;have SX:=s8.bq (bh.del hP hvr);have SY:=br.mono s8 (br.del hP zu);have gb8:=s8 _ _ (oB hP (s7 _ _ gb) λ_ z=>nomatch z);have La:br K H8 DSt ((iz p c).map cw):=La;refine⟨_,rfl,.tuple _,.tuple _,.tuple hvt La,.tuple SX SY,CU _,CU _,_,rfl,B4 rfl ?_⟩;refine⟨_,rfl,rfl,_,rfl,pX (λhz=>?_) (λ_=>fi ⟨_,_,rfl,I8⟩)⟩;have hz0:d.aK=0:=by
   have:=V.int.inj (aG hz)
   lia
  have S0:=mZ.no hz0;obtain⟨ps',xD⟩:=I8.lf.tab;refine⟨_,rfl,_,rfl,p,b,c,rfl,pp,vD mZ.wf S0,mZ.sm,SW,.of gb8,I8.lf,λvp DSp H9 s9 hL9 hvp S3=>?_⟩;have I9:=I8.acm cB s9 hL9;rw[← ace pp mZ.wf mZ.sm S0]at S3;exact⟨_,rfl,.tuple _,.tuple _,.tuple hvp S3,.tuple (s9.bq (bh.del xD SX)) (br.mono s9 (br.del xD SY)),CU _,CU _,_,rfl,B4 rfl ⟨_,_,rfl,I9⟩⟩
 ·rintro σ H6 ⟨s8,s9,rfl,I6⟩;refine⟨_,rfl,_,rfl,_,_,rfl,rfl,?_⟩;obtain⟨hR,hl,g1,g2⟩:=Se pp hA.wf hA.sm hA.la;have la:=hA.la;have eg:(d.aI:Int)+(d.aK:Int)=((d.aI+d.aK:Nat):Int):=by lia
  refine⟨_,rfl,_,rfl,p,bK,d,rfl,pp,hA.wf,hA.sm,by lia,hA.la,I6.w,I6.lt,λlg m H7 s7 Lb hm=>?_,λlg H7 s7 Lb=>?_⟩
  ·have I7:=I6.K9 cB s7 Lb;show tQ K _ [some (.ref a),some (.int p),some (.ref bK),some (.int (d.aI:Int)),some (.int (d.aM:Int)),some (.ref v),some (.int (d.aK:Int)),some (.ref AY),s8,s9,some (.int ((d.aI:Int)+(d.aK:Int))),some (.ref m),none] H7;rw[eg];exact SO (R:=iz p d) g1 (by lia) g2 I7.v I7.r hR (by lia) (.inl ⟨lg,m,rfl,hm⟩) q
  ·have I7:=I6.K9 cB s7 Lb;show tQ K _ [some (.ref a),some (.int p),some (.ref bK),some (.int (d.aI:Int)),some (.int (d.aM:Int)),some (.ref v),some (.int (d.aK:Int)),some (.ref AY),s8,s9,some (.int ((d.aI:Int)+(d.aK:Int))),some .cg,none] H7;rw[eg];exact SO (R:=iz p d) g1 (by lia) g2 I7.v I7.r hR (by lia) (.inr ⟨lg,rfl⟩) q
noncomputable def pC(K:Frag)(x:Str):Addr:=match nsIn K mainGlobals x with
 |some (some (.ref a))=>a
 |_=>0
noncomputable def AZ(K:Frag)(x:Str):Bool:=match nsIn K mainGlobals x with
 |some (some (.ref _))=>true
 |_=>false
theorem Lc{K:Frag}{x:Str}(h:AZ K x=true):nsIn K mainGlobals x=some (some (.ref (pC K x))):=by
 unfold AZ at h;split at h
 case h_2=>cases h
 case h_1 a e=>
  unfold pC;rw[e]
noncomputable def xK(K:Frag):Bool:=AZ K "PARTS"&&AZ K "SIDES"&&AZ K "BOX_ROWS"&&Cy K (pC K "PARTS")&&decide (fK K (pC K "PARTS")=C4)&&zA K (pC K "SIDES") (pC K "BOX_ROWS")
section
variable{K:Frag}{h:Heap}{mg:Str→Option Value}
theorem vF(X:K.In h)(G:h.Ns mainGlobals mg)(e:xK K=true):Parts K mg (pC K "PARTS"):=by
 simp only[xK,fg,aF]at e;obtain⟨⟨⟨⟨⟨e1,_⟩,_⟩,e4⟩,e5⟩,_⟩:=e;exact⟨dF X G (Lc e1),λh X=>e5▸HB X e4⟩
theorem r6(X:K.In h)(G:h.Ns mainGlobals mg)(e:xK K=true):nE K mg (pC K "SIDES") (pC K "BOX_ROWS"):=by
 simp only[xK,fg,aF]at e;obtain⟨⟨⟨⟨⟨_,e2⟩,e3⟩,_⟩,_⟩,e6⟩:=e;exact⟨dF X G (Lc e2),dF X G (Lc e3),e6⟩
end
noncomputable def Ld(K:Frag):Bool:=xK K&&uW K (pC K "SIDES")
theorem lj{K:Frag}(e:Ld K=true):xK K=true:=(fg _ _▸e:_∧_).1
theorem Le{K:Frag}(e:Ld K=true):uW K (pC K "SIDES")=true:=(fg _ _▸e:_∧_).2
theorem xM(h:∀a0,bindArgs fd ⟨[a0],[]⟩=pure (ps.zip [a0])):∀(us:List Value),us.length=1→bindArgs fd ⟨us,[]⟩=pure (ps.zip us)
 | [a0],_=>h a0
theorem jY(h:∀a0 a1,bindArgs fd ⟨[a0,a1],[]⟩=pure (ps.zip [a0,a1])):∀(us:List Value),us.length=2→bindArgs fd ⟨us,[]⟩=pure (ps.zip us)
 | [a0,a1],_=>h a0 a1
theorem tX(h:∀a0 a1 a2,bindArgs fd ⟨[a0,a1,a2],[]⟩=pure (ps.zip [a0,a1,a2])):∀(us:List Value),us.length=3→bindArgs fd ⟨us,[]⟩=pure (ps.zip us)
 | [a0,a1,a2],_=>h a0 a1 a2
theorem xN(h:∀a0 a1 a2 a3,bindArgs fd ⟨[a0,a1,a2,a3],[]⟩=pure (ps.zip [a0,a1,a2,a3])):∀(us:List Value),us.length=4→bindArgs fd ⟨us,[]⟩=pure (ps.zip us)
 | [a0,a1,a2,a3],_=>h a0 a1 a2 a3
theorem us5(h:∀a0 a1 a2 a3 a4,bindArgs fd ⟨[a0,a1,a2,a3,a4],[]⟩=pure (ps.zip [a0,a1,a2,a3,a4])):∀(us:List Value),us.length=5→bindArgs fd ⟨us,[]⟩=pure (ps.zip us)
 | [a0,a1,a2,a3,a4],_=>h a0 a1 a2 a3 a4
structure FA(K:Frag)(x:Str)(st:Stmt)(f:Addr)(fd:FuncData):Prop where
 a:nsIn K mainGlobals x=some (some (.ref f))
 F:cG K x x st f fd
 k:keepIn K (.ref f)=true
theorem FA.of{K:Frag}{x:Str}{st:Stmt}{od an:Option Addr}{sl:Array (Option Value)}{oc kV dc pm cd ct:Value}(a:nsIn K mainGlobals x=some (some (.ref f)))(l:K.lookup f=some ⟨oc,od,.func (fnOf x x (pW st) (j8 st) (bo st) .none kV dc pm an cd ct),sl⟩)(c:codeIn K cd x=true)(k:keepIn K (.ref f)=true):FA K x st f (fnOf x x (pW st) (j8 st) (bo st) .none kV dc pm an cd ct):=⟨a,BN l c k,k⟩
theorem all_mk{l:PySem.W.OpenLaw}{w:World}{K:Frag}{h:Heap}{mg:Str→Option Value}{fa f1 f2 f3 f4 f5 f6 f7 f8 f9 f10 f11 f12 f13 f14 f15 f16 Lf f18 f19 f20 f21 f22 f23 Lg f25 f26 f27 f28 f29 f30 f31 f32 f33 f34 f35 f36 f37 f38 f39 Lh:Addr}(X:K.In h)(G:h.Ns mainGlobals mg)(hfa:mg "law"=some (.ref fa))
  {acq acr acs acu acv S4:Option Addr} {acw acx acy:Array (Option Value)} {acz acA acB acC S5 acD acE acF acG acH S6 acI acJ S7 S8 S9 Li Ta:Value} {d1 d2 d3 d4 d5 d6 d7 d8 d9 d10 d11 M7 d13 d14 d15 d16 d18 d19 d20 d21 d22 d23 d25 d26 d27 d28 d29 d30 d31 d32 d33 d34 d35 d36 d37 d38 d39:FuncData}
  (A1:FA K "turned" zg f1 d1)
  (A2:FA K "added" rp f2 d2)
  (A3:FA K "summed" zh f3 d3)
  (A4:FA K "ones" CC f4 d4)
  (A5:FA K "columns" CF f5 d5)
  (A6:FA K "reduced" wJ f6 d6)
  (A7:FA K "led" CG f7 d7)
  (A8:FA K "cleared" CH f8 d8)
  (A9:FA K "wires" CI f9 d9)
  (A10:FA K "folded" HM f10 d10)
  (A11:FA K "all_folded" CJ f11 d11)
  (A12:FA K "measured" CK f12 M7)
  (A13:FA K "measure" wK f13 d13)
  (A14:FA K "joined_sides" HN f14 d14)
  (A15:FA K "first_unmet" CL f15 d15)
  (A16:FA K "plain" HP f16 d16)
  (a17:nsIn K mainGlobals "forms"=some (some (.ref Lf))) (l17:K.lookup Lf=some ⟨acz,acq,.func (fnOf "forms" "forms" (pW kz) (j8 kz) (bo kz) .none acA acB acC acr S5 acD),acw⟩) (c17:codeIn K S5 "forms"=true) (k17:keepIn K (.ref Lf)=true)
  (A18:FA K "refuse_late" HQ f18 d18)
  (A19:FA K "form" HR f19 d19)
  (A20:FA K "form_of_back" CM f20 d20)
  (A21:FA K "form_of_beside" zi f21 d21)
  (A22:FA K "form_of_then" CN f22 d22)
  (A23:FA K "facing" zj f23 d23)
  (a24:nsIn K mainGlobals "ticks"=some (some (.ref Lg))) (l24:K.lookup Lg=some ⟨acE,acs,.func (fnOf "ticks" "ticks" (pW jR) (j8 jR) (bo jR) .none acF acG acH acu S6 acI),acx⟩) (c24:codeIn K S6 "ticks"=true) (k24:keepIn K (.ref Lg)=true)
  (A25:FA K "tick_form" CO f25 d25)
  (A26:FA K "machine" zk f26 d26)
  (A27:FA K "_law_draw" HS f27 d27)
  (A28:FA K "_law_prime" HU f28 d28)
  (A29:FA K "_law_less" CP f29 d29)
  (A30:FA K "_law_reduced" qe f30 d30)
  (A31:FA K "_law_box" HV f31 d31)
  (A32:FA K "_law_padded" HW f32 d32)
  (A33:FA K "_law_joined" HX f33 d33)
  (A34:FA K "_law_drawing" HY f34 d34)
  (A35:FA K "_law_wired" HZ f35 d35)
  (A36:FA K "_law_net" CQ f36 d36)
  (A37:FA K "_law_rows" sR f37 d37)
  (A38:FA K "_law_machine" Ia f38 d38)
  (A39:FA K "_law_unit" Ib f39 d39)
  (a40:nsIn K mainGlobals "law"=some (some (.ref Lh))) (l40:K.lookup Lh=some ⟨acJ,acv,.func (fnOf "law" "law" (pW om) (j8 om) (bo om) .none S7 S8 S9 S4 Li Ta),acy⟩) (c40:codeIn K Li "law"=true) (k40:keepIn K (.ref Lh)=true)
  (z1:nsIn K mainGlobals "range"=some none) (z2:nsIn K mainGlobals "zip"=some none) (z3:nsIn K mainGlobals "tuple"=some none) (z4:nsIn K mainGlobals "list"=some none) (z5:nsIn K mainGlobals "int"=some none) (z6:nsIn K mainGlobals "bool"=some none) (z7:nsIn K mainGlobals "isinstance"=some none) (z8:nsIn K mainGlobals "len"=some none) (z9:nsIn K mainGlobals "sum"=some none) (z10:nsIn K mainGlobals "max"=some none) (z11:nsIn K mainGlobals "min"=some none) (z12:nsIn K mainGlobals "enumerate"=some none) (z13:nsIn K mainGlobals "any"=some none) (z14:nsIn K mainGlobals "all"=some none) (hs1:(tabIn K "ticks").isSome=true) (hs2:(tabIn K "forms").isSome=true) (hx1:Ld K=true) (hx2:K4 K=true) (hx3:Nat.beq (iT K "forms").2 (iT K "ticks").2=false) :
  ∃fd:FuncData,(∀(s:Shared)(v:Value),BindsTo s fd ⟨[v],[]⟩ [("script",v)])∧∀base:Heap,K.In base→base.Ns mainGlobals mg→rm mg base→(∀q∈[iT K "ticks",iT K "forms"],CodeHd base q.1 q.2)→bz l.prog w K mg base bx 14 fa fd ["script"] (ET K (iT K "ticks").2 (iT K "forms").2):=by
 have e:=hfa.symm.trans (dF X G a40);cases e;have T:Txt mg:=⟨nT X G z1,nT X G z2,nT X G z3,nT X G z4,nT X G z5,nT X G z6,nT X G z7,nT X G z8,nT X G z9,nT X G z10,nT X G z11,nT X G z12,nT X G z13,nT X G z14⟩;obtain⟨a1,F1,k1⟩:=A1;obtain⟨a2,F2,k2⟩:=A2;obtain⟨a3,F3,k3⟩:=A3;obtain⟨a4,F4,k4⟩:=A4;obtain⟨a5,F5,k5⟩:=A5;obtain⟨a6,F6,k6⟩:=A6;obtain⟨a7,F7,k7⟩:=A7;obtain⟨a8,F8,k8⟩:=A8;obtain⟨a9,F9,k9⟩:=A9;obtain⟨a10,vG,xO⟩:=A10;obtain⟨a11,tY,vH⟩:=A11;obtain⟨a12,A0,EV⟩:=A12;obtain⟨a13,r8,k13⟩:=A13;obtain⟨a14,Tb,k14⟩:=A14;obtain⟨a15,Tc,k15⟩:=A15;obtain⟨a16,Td,k16⟩:=A16;have Te:=BN (st:=kz) l17 c17 k17;obtain⟨a18,Tf,k18⟩:=A18;obtain⟨a19,EW,Lj⟩:=A19;obtain⟨a20,EX,Lk⟩:=A20;obtain⟨a21,EY,Ll⟩:=A21;obtain⟨a22,EZ,Lm⟩:=A22;obtain⟨a23,E2,Ln⟩:=A23;have Lo:=BN (st:=jR) l24 c24 k24;obtain⟨a25,Lp,Tg⟩:=A25;obtain⟨a26,Th,k26⟩:=A26;obtain⟨a27,Lq,Ti⟩:=A27;obtain⟨a28,Tj,k28⟩:=A28;obtain⟨a29,Tn,k29⟩:=A29;obtain⟨a30,To,k30⟩:=A30;obtain⟨a31,Tp,k31⟩:=A31;obtain⟨a32,Tq,k32⟩:=A32;obtain⟨a33,Tr,k33⟩:=A33;obtain⟨a34,Ts,k34⟩:=A34;obtain⟨a35,Tt,k35⟩:=A35;obtain⟨a36,Tu,k36⟩:=A36;obtain⟨a37,Tv,k37⟩:=A37;obtain⟨a38,Tw,k38⟩:=A38;obtain⟨a39,Tx,k39⟩:=A39;have F40:=BN (st:=om) l40 c40 k40;have b1:=F1.binds (ps:=["p","number"]) λ_ _ _ _ _ _=>jY λ_ _=>rfl;have m1:=dF X G a1;have b2:=F2.binds (ps:=["p","row","factor","other"]) λ_ _ _ _ _ _=>xN λ_ _ _ _=>rfl;have m2:=dF X G a2;have b3:=F3.binds (ps:=["p","rows","factors","length"]) λ_ _ _ _ _ _=>xN λ_ _ _ _=>rfl;have m3:=dF X G a3;have b4:=F4.binds (ps:=["count"]) λ_ _ _ _ _ _=>xM λ_=>rfl;have m4:=dF X G a4;have b5:=F5.binds (ps:=["rows","length"]) λ_ _ _ _ _ _=>jY λ_ _=>rfl;have m5:=dF X G a5;have b6:=F6.binds (ps:=["p","rows"]) λ_ _ _ _ _ _=>jY λ_ _=>rfl;have m6:=dF X G a6;have b7:=F7.binds (ps:=["p","row","place"]) λ_ _ _ _ _ _=>tX λ_ _ _=>rfl;have m7:=dF X G a7;have b8:=F8.binds (ps:=["p","row","lead","place"]) λ_ _ _ _ _ _=>xN λ_ _ _ _=>rfl;have m8:=dF X G a8;have b9:=F9.binds (ps:=["words"]) λ_ _ _ _ _ _=>xM λ_=>rfl;have m9:=dF X G a9;have xP:=vG.binds (ps:=["words","made"]) λ_ _ _ _ _ _=>jY λ_ _=>rfl;have xQ:=dF X G a10;have vI:=tY.binds (ps:=["words","made"]) λ_ _ _ _ _ _=>jY λ_ _=>rfl;have vJ:=dF X G a11;have E3:=A0.binds (ps:=["words"]) λ_ _ _ _ _ _=>xM λ_=>rfl;have E4:=dF X G a12;have E5:=r8.binds (ps:=["place","word","parts"]) λ_ _ _ _ _ _=>tX λ_ _ _=>rfl;have E6:=dF X G a13;have b14:=Tb.binds (ps:=["word","parts"]) λ_ _ _ _ _ _=>jY λ_ _=>rfl;have m14:=dF X G a14;have b15:=Tc.binds (ps:=["parts"]) λ_ _ _ _ _ _=>xM λ_=>rfl;have m15:=dF X G a15;have b16:=Td.binds (ps:=["p","words"]) λ_ _ _ _ _ _=>jY λ_ _=>rfl;have m16:=dF X G a16;have b17:=Te.binds (ps:=["p","words"]) λ_ _ _ _ _ _=>jY λ_ _=>rfl;have m17:=dF X G a17;have b18:=Tf.binds (ps:=["words"]) λ_ _ _ _ _ _=>xM λ_=>rfl;have m18:=dF X G a18;have Lr:=EW.binds (ps:=["p","word","parts"]) λ_ _ _ _ _ _=>tX λ_ _ _=>rfl;have Ls:=dF X G a19;have Lu:=EX.binds (ps:=["p","one"]) λ_ _ _ _ _ _=>jY λ_ _=>rfl;have Lv:=dF X G a20;have Lw:=EY.binds (ps:=["p","one","other"]) λ_ _ _ _ _ _=>tX λ_ _ _=>rfl;have Lx:=dF X G a21;have Ly:=EZ.binds (ps:=["p","one","other"]) λ_ _ _ _ _ _=>tX λ_ _ _=>rfl;have Lz:=dF X G a22;have LA:=E2.binds (ps:=["p","one","other"]) λ_ _ _ _ _ _=>tX λ_ _ _=>rfl;have LB:=dF X G a23;have Tz:=Lo.binds (ps:=["p","words"]) λ_ _ _ _ _ _=>jY λ_ _=>rfl;have TB:=dF X G a24;have TC:=Lp.binds (ps:=["p","words","place","parts"]) λ_ _ _ _ _ _=>xN λ_ _ _ _=>rfl;have TF:=dF X G a25;have b26:=Th.binds (ps:=["p","words"]) λ_ _ _ _ _ _=>jY λ_ _=>rfl;have m26:=dF X G a26;have TH:=Lq.binds (ps:=["script","k"]) λ_ _ _ _ _ _=>jY λ_ _=>rfl;have TJ:=dF X G a27;have b28:=Tj.binds (ps:=["script"]) λ_ _ _ _ _ _=>xM λ_=>rfl;have m28:=dF X G a28;have b29:=Tn.binds (ps:=["p","row","head","at"]) λ_ _ _ _ _ _=>xN λ_ _ _ _=>rfl;have m29:=dF X G a29;have b30:=To.binds (ps:=["p","rows","width"]) λ_ _ _ _ _ _=>tX λ_ _ _=>rfl;have m30:=dF X G a30;have b31:=Tp.binds (ps:=["draw","p"]) λ_ _ _ _ _ _=>jY λ_ _=>rfl;have m31:=dF X G a31;have b32:=Tq.binds (ps:=["part","many"]) λ_ _ _ _ _ _=>jY λ_ _=>rfl;have m32:=dF X G a32;have b33:=Tr.binds (ps:=["draw","cur","part"]) λ_ _ _ _ _ _=>tX λ_ _ _=>rfl;have m33:=dF X G a33;have b34:=Ts.binds (ps:=["script","p"]) λ_ _ _ _ _ _=>jY λ_ _=>rfl;have m34:=dF X G a34;have b35:=Tt.binds (ps:=["word","factor","rules","many","waits"]) λ_ _ _ _ _ _=>us5 λ_ _ _ _ _=>rfl;have m35:=dF X G a35;have b36:=Tu.binds (ps:=["words","rules","many","waits"]) λ_ _ _ _ _ _=>xN λ_ _ _ _=>rfl;have m36:=dF X G a36;have b37:=Tv.binds (ps:=["p","words"]) λ_ _ _ _ _ _=>jY λ_ _=>rfl;have m37:=dF X G a37;have b38:=Tw.binds (ps:=["p","words"]) λ_ _ _ _ _ _=>jY λ_ _=>rfl;have m38:=dF X G a38;have b39:=Tx.binds (ps:=["length","at"]) λ_ _ _ _ _ _=>jY λ_ _=>rfl;have m39:=dF X G a39;exact⟨fnOf "law" "law" (pW om) (j8 om) (bo om) .none S7 S8 S9 S4 Li Ta,λs v=>.of_eq rfl,λbase _ _ bb cc=>acn (Nat.ne_of_beq_eq_false hx3) F40 T (aay Tj (Qg Lq T) Ti TH TJ) k28 b28 m28 (abi Ts T (Qg Lq T) Ti TH TJ (aba Tp T) k31 b31 m31 (abh Tr (abb Tq T) k32 b32 m32) k33 b33 m33) k34 b34 m34 (ab6 Tv T (abI Tu T (abm Tt) k35 b35 m35) k36 b36 m36 (abL To T (abK Tn T) k29 b29 m29) k30 b30 m30) k37 b37 m37 (R5 Lo (Hw a24 l24 (Cw hs1)) (cc _ cP) bb (wV vG (uL tY T (vF X G (lj hx1))) vH vI vJ) xO xP xQ (QF Lp T (r6 X G (lj hx1)) (Le hx1) (Js F4 T) k4 b4 m4 (IZ EW (r6 X G (lj hx1)) (IG EX (pf F6 T F2 b2 m2 F1 b1 m1 F3 b3 m3 F8 b8 m8 F7 b7 m7) k6 b6 m6) Lk Lu Lv (IM EY (pf F6 T F2 b2 m2 F1 b1 m1 F3 b3 m3 F8 b8 m8 F7 b7 m7) k6 b6 m6) Ll Lw Lx (IW EZ T (pf F6 T F2 b2 m2 F1 b1 m1 F3 b3 m3 F8 b8 m8 F7 b7 m7) k6 b6 m6 (IQ E2 T) Ln LA LB) Lm Ly Lz (ID F9 (IA A0 (wV vG (uL tY T (vF X G (lj hx1))) vH vI vJ) xO xP xQ (Iz r8 (r6 X G (lj hx1))) r8 E5 E6) EV E3 E4) k9 b9 m9) Lj Lr Ls) Tg TC TF (pf F6 T F2 b2 m2 F1 b1 m1 F3 b3 m3 F8 b8 m8 F7 b7 m7) k6 b6 m6) k24 Tz TB (aab Td (Z8 Te (Hw a17 l17 (Cw hs2)) (cc _ (dU _ cP)) bb (Zv Tf) k18 b18 m18 (uL tY T (vF X G (lj hx1))) vH vI vJ (IZ EW (r6 X G (lj hx1)) (IG EX (pf F6 T F2 b2 m2 F1 b1 m1 F3 b3 m3 F8 b8 m8 F7 b7 m7) k6 b6 m6) Lk Lu Lv (IM EY (pf F6 T F2 b2 m2 F1 b1 m1 F3 b3 m3 F8 b8 m8 F7 b7 m7) k6 b6 m6) Ll Lw Lx (IW EZ T (pf F6 T F2 b2 m2 F1 b1 m1 F3 b3 m3 F8 b8 m8 F7 b7 m7) k6 b6 m6 (IQ E2 T) Ln LA LB) Lm Ly Lz (ID F9 (IA A0 (wV vG (uL tY T (vF X G (lj hx1))) vH vI vJ) xO xP xQ (Iz r8 (r6 X G (lj hx1))) r8 E5 E6) EV E3 E4) k9 b9 m9) Lj Lr Ls) k17 b17 m17) k16 b16 m16 (acg Tw (SJ X G hx2) (abZ Th (SJ X G hx2).R (abQ F9 (abP A0 (wV vG (uL tY T (vF X G (lj hx1))) vH vI vJ) xO xP xQ (abO r8 (r6 X G (lj hx1)) (Le hx1) (aar Tc) k15 b15 m15 (aat Tb) k14 b14 m14) r8 E5 E6) EV E3 E4) k9 b9 m9 (R5 Lo (Hw a24 l24 (Cw hs1)) (cc _ cP) bb (wV vG (uL tY T (vF X G (lj hx1))) vH vI vJ) xO xP xQ (QF Lp T (r6 X G (lj hx1)) (Le hx1) (Js F4 T) k4 b4 m4 (IZ EW (r6 X G (lj hx1)) (IG EX (pf F6 T F2 b2 m2 F1 b1 m1 F3 b3 m3 F8 b8 m8 F7 b7 m7) k6 b6 m6) Lk Lu Lv (IM EY (pf F6 T F2 b2 m2 F1 b1 m1 F3 b3 m3 F8 b8 m8 F7 b7 m7) k6 b6 m6) Ll Lw Lx (IW EZ T (pf F6 T F2 b2 m2 F1 b1 m1 F3 b3 m3 F8 b8 m8 F7 b7 m7) k6 b6 m6 (IQ E2 T) Ln LA LB) Lm Ly Lz (ID F9 (IA A0 (wV vG (uL tY T (vF X G (lj hx1))) vH vI vJ) xO xP xQ (Iz r8 (r6 X G (lj hx1))) r8 E5 E6) EV E3 E4) k9 b9 m9) Lj Lr Ls) Tg TC TF (pf F6 T F2 b2 m2 F1 b1 m1 F3 b3 m3 F8 b8 m8 F7 b7 m7) k6 b6 m6) k24 Tz TB (Js F4 T) k4 b4 m4 (abU F5 T) k5 b5 m5) k26 b26 m26) k38 b38 m38 (aaA Tx) k39 b39 m39⟩
theorem walk{l:PySem.W.OpenLaw}{q:Program}{v9:List Str}{XP:(Str→Option Value)→Heap→Prop}{YP:World→Heap→Prop}{d:DefRec}{K:Params→Frag}(hn:l.most=some 63)(yF:d.params.defaults=[])
  (hY:∀(w:World)(h:Heap),YP w h→(K w.params).In h) (noT:∀w:World,PySem.W.noTabs (K w.params)=true)
  (hT:∀(w:World){ze:ExcName→Option Value}{lo:List Str}{mg mb:Str→Option Value}{h:Heap},PyProof.Rows.Top q lo ze mg mb h→(K w.params).In h→PySem.W.TabsAt [iT (K w.params) "ticks",iT (K w.params) "forms"] h)
  (F:∀(w:World)(mg:Str→Option Value)(fa:Addr)(h:Heap),(K w.params).In h→h.Ns mainGlobals mg→mg d.name=some (.ref fa)→
   ∃fd:FuncData,(∀(s:Shared)(u:Value),BindsTo s fd ⟨[u],[]⟩ [("script",u)])∧∀base:Heap,(K w.params).In base→base.Ns mainGlobals mg→rm mg base→(∀q∈[iT (K w.params) "ticks",iT (K w.params) "forms"],CodeHd base q.1 q.2)→bz l.prog w (K w.params) mg base bx 14 fa fd ["script"] (ET (K w.params) (iT (K w.params) "ticks").2 (iT (K w.params) "forms").2)) :
  PySem.W.WalkO q v9 XP YP l.row.toRowW d [] (λf vs=>PySem.call f vs):=
 L2.Yj (n:=63) (k:=14) (x := "script") (tabs:=λw=>[iT (K w.params) "ticks",iT (K w.params) "forms"]) (sp:=λw=>ET (K w.params) (iT (K w.params) "ticks").2 (iT (K w.params) "forms").2) hn (by decide) yF ⟨rfl,by decide,by decide⟩ hY noT hT F λ_ _ a ns hl hS uG=>⟨a,ns,rfl,hS,hl,.inl (uG _ (by simp)),.inl (uG _ (by simp)),λ_=>rfl⟩
end S21
structure PySem.W.Fast:Prop where
 (tw3631898340706635333 tw6137890704788966988 tw11921392693489826240 tw14871436826388961216 tw2054689032715766705 tw13908760561185754798 tw10645404190907896513 tw2392094876244131501 tw6533044213747363412 tw7382702593642076386 tw16037108666717605442 tw8452035865622477062 tw8033093834000648982 tw7561416671350602459 tw17472929631110593535 tw18033746597414308609 tw13460271912363102564 tw5873440846422859312 tw9694874283586593666 tw11069854017300424523 tw11358342904692308954 tw17319610219069580870 tw17811042414437958320 tw2443563348453219489 tw5488243309191873417 tw13879776678104375364 tw3795360719149544299 tw3830333961307261406 tw16007647043691528388 tw6517508151682628376 tw18295491840023454233 tw302291195581934330 tw5957565368096289382 tw17604134835885553269 tw4122893461027286909 tw3475328222451847993 tw13893272457088877649 tw3414812356412654498 tw7767646922397266073 tw6615070952193042804 tw2796799778181201633 tw12698084519144076162 tw7763053132436052261 tw17778629478762821455 tw8520031296815640666 tw13421040491630710071 tw5433651770681487248 tw14527331208352260050 tw5475942027417083713 tw6470413653680561667 tw9749886718352156575 tw17327999387916704864 tw11628638307590393553 tw365933966145634859 tw14121941640077406622 tw14647312164505908912 tw5460324583119811422 tw5722366536998856195 tw848607442938129617 tw3679927698927673470 tw806332761202051974 tw6073987287010954088 tw6431730335078504470 tw17222368042061221850 tw3858183557128507827 tw7018485123483886760 tw11831304893036802346 tw3916580634795555945 tw3283741150888375236 tw14461268512155808689 tw603802784763927937 tw18157499171959684554 tw12415745555165826061 tw14054215244511795664 tw1821411075017259038 tw530198057210253853 tw7377184279681817134 tw3955726925683164202 tw7711414895501686729 tw6938082029927335179 tw7911876668454304164 tw1389066662445408728 tw15732475508272880770 tw12843502376439235541 tw12722121481412800394 tw12031809219483339661 tw11101282559750729380 tw13520346714169585081 tw16508705318273576417 tw12360291474358498642 tw14483924314099153301 tw5666899835528206456 tw12768863484225752306 tw5107479133507897370 tw8923880218802995065 tw8534041392510097074 tw10239304195360204625 tw9961380384482779363 tw5754171944750552206 tw7924917148386406084:True)
open PySem PySem.W PyProof.Rows
set_option maxRecDepth 100000 in
set_option maxHeartbeats 0 in
theorem PySem.Challenge.cw_bentwires_k64_whole_any_drawing_holds : PySem.Challenge.rw_bentwires_k64_whole_any_drawing.Holds := by
 w_on;o_law;k_head;(case hw=>w_witness2)
 k_fill
 refine S21.walk (l:=PySem.Challenge.rw_bentwires_k64_whole_any_drawing) rfl rfl (fun w h Y=>PySem.W.km_in_of Y) ?noT ?hT ?F
 (case noT=>exact fun w=>by kernel_rfl)
 (case hT=>exact fun w {_ _ _ _ _} T X=>L2.tabs_cons T X rfl (by kernel_rfl) (L2.tabs_cons T X rfl (by kernel_rfl) (L2.tabs_nil)))
 case F =>
  intro w mg fa h KX G hmg
  refine' S21.all_mk KX G hmg ?_ ?_ ?_ ?_ ?_ ?_ ?_ ?_ ?_ ?_ ?_ ?_ ?_ ?_ ?_ ?_ ?a17 ?l17 ?c17 ?k17 ?_ ?_ ?_ ?_ ?_ ?_ ?a24 ?l24 ?c24 ?k24 ?_ ?_ ?_ ?_ ?_ ?_ ?_ ?_ ?_ ?_ ?_ ?_ ?_ ?_ ?_ ?a40 ?l40 ?c40 ?k40 ?z1 ?z2 ?z3 ?z4 ?z5 ?z6 ?z7 ?z8 ?z9 ?z10 ?z11 ?z12 ?z13 ?z14 ?hs1 ?hs2 ?hx1 ?hx2 ?hx3
  (case a17=>k_is)
  (case l17=>k_is)
  (case c17=>k_is)
  (case k17=>k_is)
  (case a24=>k_is)
  (case l24=>k_is)
  (case c24=>k_is)
  (case k24=>k_is)
  (case a40=>k_is)
  (case l40=>k_is)
  (case c40=>k_is)
  (case k40=>k_is)
  (case hs1=>kernel_rfl)
  (case hs2=>kernel_rfl)
  (case hx1=>kernel_rfl)
  (case hx2=>kernel_rfl)
  (case hx3=>kernel_rfl)
  any_goals refine' S21.FA.of ?_ ?_ ?_ ?_
  any_goals k_is

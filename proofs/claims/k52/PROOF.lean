import PyProof.Rows.All
import PyProof.FitsInt
import PyProof.StrLawsRepr
import PyProof.Rows.StrCase
import PyProof.Rows.StrLen
import PyProof.Rows.SortStr
import KE.KRevIter
import PyProof.ReprStr
import PyProof.Rows.FStr
import KE.KItemsList
import PyProof.Rows.SortWalk
import PyProof.DictTruth
import PyProof.DictWalks
import PyProof.ListRange
import PyProof.TupleOfStr
import KE.KSortTup
import PyProof.AttrMissHeap
import KE.KDictList
import PyProof.CallStr
import PyProof.StrWalks
import PyProof.Rows.StrNews
import PyProof.Rows.StrJoin2
import KE.KIntText
import KE.KTabLook
import KE.KLam
import Wide.All
import OpenK.AllK
import Wide.FinOn
import Lean
import PyProof.EqAt
import PyProof.EqKinds
import PyProof.TupleCall
import PySem.Challenge.RW_bentwires_k52_moves_and_no_move
set_option compiler.extract_closed false
set_option maxHeartbeats 3900000
set_option maxRecDepth 100000
set_option Elab.async false
set_option linter.all false
open PySem.W(Frag keepIn nsIn fnOf kitOne kqdOk Dat)
noncomputable section
abbrev cB:=@List.length_map
abbrev cF:=@Nat.le_refl
abbrev cL:=@List.length_append
abbrev c6:=@List.mem_cons_self
abbrev dj:=@Nat.le_trans
abbrev dq:=@Bool.and_eq_true
abbrev dv:=@PySem.W.mg_of
abbrev dH:=@PySem.Heap.lt_size
abbrev dI:=@List.mem_cons
abbrev dJ:=@PySem.Heap.get?_push_of_some
abbrev dP:=@List.mem_singleton
abbrev dR:=@List.size_toArray
abbrev ee:=@List.map_cons
abbrev eF:=@Option.some.inj
abbrev e9:=@List.mem_cons_of_mem
abbrev fe:=@Ne.symm
abbrev fg:=@List.append_assoc
abbrev fh:=@List.all_eq_true
abbrev fj:=@List.length_cons
abbrev fw:=@List.getElem?_map
abbrev fK:=@Nat.ne_of_lt
abbrev fO:=@List.getElem?_eq_some_iff
abbrev gk:=@List.getElem?_eq_getElem
abbrev gH:=@Nat.zero_le
abbrev gN:=@Bool.false_ne_true
abbrev gT:=@PySem.Heap.get?_push_size
abbrev gU:=@List.append_nil
abbrev ig:=@List.map_append
abbrev iz:=@List.flatMap_cons
abbrev iG:=@List.mem_append
abbrev iH:=@Option.or_eq_some_iff
abbrev iO:=@List.mem_of_getElem?
abbrev iP:=@List.cons.inj
abbrev jt:=@PySem.W.mg_none_of
abbrev jF:=@Nat.lt_of_lt_of_le
abbrev jU:=@List.mem_append_right
abbrev jV:=@List.contains_iff_mem
abbrev kZ:=@List.getElem?_append_right
abbrev lg:=@List.getElem?_append_left
abbrev lh:=@List.mem_map
abbrev lj:=@Option.map_eq_some_iff
abbrev ll:=@PySem.F.plainAttrs_list
abbrev lq:=@PySem.PassesOwn.never
abbrev nJ:=@PySem.W.kia_one
abbrev nK:=@List.length_drop
abbrev nL:=@PySem.Heap.get?_update_other
abbrev nM:=@List.all_cons
abbrev nN:=@Int.emod_nonneg
abbrev nO:=@Int.emod_lt_of_pos
abbrev oH:=@List.length_take
abbrev oJ:=@List.flatMap_append
abbrev oK:=@Array.getD_eq_getD_getElem?
abbrev pK:=@Array.length_toList
abbrev pL:=@List.lookup_cons
abbrev pM:=@Array.getElem?_eq_getElem
abbrev qq:=@List.mem_range
abbrev qr:=@PySem.Calls.spliced_cons
abbrev qt:=@List.length_reverse
abbrev rL:=@List.mem_append_left
abbrev rM:=@PySem.mem_of_lookup
abbrev rN:=@PySem.Heap.get?_update_self
abbrev rO:=@List.reverse_cons
abbrev rP:=@List.take_add_one
abbrev rQ:=@PySem.F.slot_list_append
abbrev rR:=@PySem.F.type_list_append
abbrev rS:=@List.nodup_append
abbrev uf:=@List.mem_filter
abbrev ug:=@PySem.Calls.spliced_nil
abbrev uh:=@List.length_replicate
abbrev ui:=@List.cons_append
abbrev uj:=@PySem.AutoSeq1.wpAny_loadPart'
abbrev um:=@PySem.F.slot_dict_get
abbrev uo:=@List.take_length
abbrev uq:=@List.not_mem_nil
abbrev ur:=@List.mem_of_find?_eq_some
abbrev uu:=@List.reverse_append
abbrev uv:=@Bool.and_true
abbrev uw:=@List.sum_cons
abbrev wF:=@PyProof.Rows.callWith_type1
abbrev wG:=@Option.isSome_iff_exists
abbrev wH:=@List.replicate_succ
abbrev wI:=@List.range_succ
abbrev zA:=@List.filterMap_cons
abbrev zB:=@PyProof.Rows.slot_tuple_getitem
abbrev zC:=@List.flatten_cons
abbrev zD:=@Bool.false_eq_true
abbrev zE:=@PySem.F.plainAttrs_str
abbrev zF:=@List.getElem?_eq_none
abbrev zG:=@Bool.and_eq_true_iff
abbrev zH:=@Option.bind_eq_some_iff
abbrev Df:=@PySem.W.cellsFrom_some
abbrev Dg:=@PySem.Calls.callWith_builtin
abbrev Dh:=@Array.getElem?_toList
abbrev Di:=@PySem.F.entry_dict_get
abbrev Dj:=@Nat.le_of_ble_eq_true
abbrev Dl:=@PySem.F.slot_str_split
abbrev Dm:=@PySem.F.type_str_split
abbrev Dn:=@List.drop_eq_getElem_cons
abbrev Dp:=@PySem.F.slot_dict_keyiterator_next
abbrev Dq:=@Array.getElem?_eq_some_iff
abbrev Kd:=@List.getD_eq_getElem?_getD
abbrev aa:=@decide_eq_false
abbrev ae:=@if_pos
abbrev af:=@if_neg
abbrev ag:=@PySem.wpAny_mono
abbrev ah:=@PySem.wpAny_truthy_bool
abbrev ai:=@congrArg
abbrev aj:=@PySem.wpAny_execs_nil
abbrev ak:=@PySem.wpAny_bind
abbrev ao:=@PySem.wpAny_holding
abbrev aq:=@PySem.wpAny_passesOwn
abbrev au:=@PySem.wpAny_pure
abbrev av:=@PySem.sizeLine_eq
abbrev az:=@PySem.wpAny_Call_Name_kw
abbrev aA:=@PySem.wpAny_newFunctionEnv_cells
abbrev aB:=@PySem.wpAny_field
abbrev aC:=@PySem.wpAny_callSpecial?_slot
abbrev aE:=@PySem.wpAny_call_entry
abbrev aF:=@PySem.wpAny_newObj_type
abbrev aG:=@decide_eq_true
abbrev aH:=@PySem.wpAny_attempt
abbrev aI:=@decide_eq_true_eq
abbrev aJ:=@PySem.tupleKind_room_in1
abbrev aK:=@PySem.wpAny_specialOf
abbrev aL:=@PySem.codeAny_builtin
abbrev aM:=@of_decide_eq_true
abbrev aO:=@PySem.wpAny_typeNameOfWhole_keyiter
abbrev aQ:=@PySem.wpAny_typeNameOf_keyiter
abbrev aT:=@PySem.wpAny_setField
abbrev aU:=@beq_self_eq_true
abbrev aV:=@PySem.typeLookup_type
abbrev aW:=@PySem.builtinLookup_eq_fast
abbrev aX:=@PySem.plainId_quiet
abbrev aY:=@PySem.strLen_append
abbrev aZ:=@PySem.isSubtype_type
abbrev Kp(K:Frag)(f:PySem.Addr):Prop:=keepIn K (.ref f)=true
abbrev Mg(m:PySem.Str->Option PySem.Value)(x:PySem.Str)(f:PySem.Addr):Prop:=m x=some (.ref f)
abbrev QV:=PySem.Value->PySem.Shared->Prop
abbrev LL:=List (List Int)
variable{P:PySem.Program}{w:PySem.World}{K:Frag}{mg:PySem.Str->Option PySem.Value}{base:PySem.Heap}
namespace L2
open PySem PySem.Spec PyProof.Rows
variable{A:Around}{D:Ends}{E:QV}{H:Hp}{M:Model}{Q:Unit->Shared->Prop}{X:Cx}{a b:Addr}{body:List Stmt}{c e tg:Expr}{ch fp:List Addr}{f:Value->Value->Sem Value}{g:TG}{h:Heap}{i n t':Nat}{o:HO}{op:CmpOp}{bc:List (Addr×Obj)}{s:Shared}{tb:TS}{te:TE}{u:Value}{us:List Value}{v:V}{x:Str}{xs:List V}{σ:St}
abbrev Key:=Sum Int Str
noncomputable def ux:Key->Value->Bool
 | .inl k,v=>Value.isInt k v
 | .inr x,v=>Value.isStrOf x v
noncomputable def Tc(w:World):Key->Int
 | .inl k=>hashInt k
 | .inr x=>hashStr w x
theorem oM:∀{k:Key}{v:Value},ux k v=true->(∃i t,k=Sum.inl i/\v=Value.int i t)\/(∃x t,k=Sum.inr x/\v=Value.str x t)
 | .inl i,v,h=>by
  obtain⟨t,e⟩:=Value.isInt_shape (k:=i) (v:=v) h;exact .inl ⟨i,t,rfl,e⟩
 | .inr x,v,h=>by
  obtain⟨t,e⟩:=Value.isStrOf_shape (x:=x) (v:=v) h;exact .inr ⟨x,t,rfl,e⟩
theorem Td(i:Int)(t:Tok):ux (.inl i) (.int i t)=true:=by simp[ux,Value.isInt]
theorem Te(x:Str)(t:Tok):ux (.inr x) (.str x t)=true:=by simp[ux,Value.isStrOf]
theorem Tf(a b:Int):decide ((Sum.inl a:Key)=Sum.inl b)=(a==b):=by
 by_cases e:a=b
 ·subst e;simp
 ·have h:¬(Sum.inl a:Key)=Sum.inl b:=λq=>e (Sum.inl.inj q);rw[aa h];exact(beq_eq_false_iff_ne.mpr e).symm
theorem Tg(a b:Str):decide ((Sum.inr a:Key)=Sum.inr b)=decide (a=b):=by
 by_cases e:a=b
 ·subst e;simp
 ·have h:¬(Sum.inr a:Key)=Sum.inr b:=λq=>e (Sum.inr.inj q);rw[aa h,aa e]
theorem Th(a:Int)(b:Str):decide ((Sum.inl a:Key)=Sum.inr b)=false:=aa (λq=>nomatch q)
theorem Ti(a:Str)(b:Int):decide ((Sum.inr a:Key)=Sum.inl b)=false:=aa (λq=>nomatch q)
noncomputable def gO(prog:Program)(w:World):PySem.KeyKind prog w Key where
 is:=ux
 hash:=Tc w
 inj:=λv a b ha hb=>by
  rcases oM ha with⟨i,t,rfl,rfl⟩|⟨x,t,rfl,rfl⟩
  ·rcases oM hb with⟨j,u,rfl,e⟩|⟨y,u,rfl,e⟩
   ·injection e with e1 _;rw[e1]
   ·exact nomatch e
  ·rcases oM hb with⟨j,u,rfl,e⟩|⟨y,u,rfl,e⟩
   ·exact nomatch e
   ·injection e with e1 _;rw[e1]
 byValue:=λk v h=>by
  rcases oM h with⟨i,t,rfl,rfl⟩|⟨x,t,rfl,rfl⟩<;>rfl
 pyHash:=λhv h=>by
  rcases oM hv with⟨i,t,rfl,rfl⟩|⟨x,t,rfl,rfl⟩
  ·exact wpAny_pyHash_int h
  ·exact wpAny_pyHash_str h
 eqBool:=λhu hv h=>by
  rcases oM hu with⟨i,t,rfl,rfl⟩|⟨x,t,rfl,rfl⟩
  ·rcases oM hv with⟨j,u,rfl,rfl⟩|⟨y,u,rfl,rfl⟩
   ·rw[Tf]at h;exact wpAny_eqBool_int h
   ·rw[Th]at h;exact SeqAt.EqAt.int_str i t y u _ _ _ _ h
  ·rcases oM hv with⟨j,u,rfl,rfl⟩|⟨y,u,rfl,rfl⟩
   ·rw[Ti]at h;exact SeqAt.EqAt.str_int x t j u _ _ _ _ h
   ·rw[Tg]at h;exact wpAny_eqBool_str h
 «strs»:=λk x t v h=>by
  rcases oM h with⟨i,u,rfl,e⟩|⟨y,u,rfl,e⟩
  ·exact nomatch e
  ·injection e with e1 _;subst e1;cases v<;>rfl
theorem Tj(prog:Program)(w:World)(i:Int)(t:Tok):(gO prog w).is (.inl i) (.int i t)=true:=Td i t
theorem Tn(prog:Program)(w:World)(x:Str)(t:Tok):(gO prog w).is (.inr x) (.str x t)=true:=Te x t
inductive V where
 |cC|bl (b:Bool)|int (i:Int)|str (x:Str)|lY (b:Array UInt8)|uy (b:UInt64)|ref (a:Addr)|ty (n:String)
 deriving DecidableEq
def RelV:V->Value->Prop
 | .cC,u=>u=Value.none
 | .bl b,u=>u=Value.bool b
 | .int i,u=>∃t,u=Value.int i t
 | .str x,u=>∃t,u=Value.str x t
 | .lY b,u=>∃t,u=Value.bytes b t
 | .uy b,u=>∃t,u=Value.float b t
 | .ref a,u=>u=Value.ref a
 | .ty n,u=>u=Value.type n
abbrev Vals:List V->List Value->Prop:=Paired RelV
theorem Vals.length{xs:List V}{us:List Value}(r:Vals xs us):xs.length=us.length:=Paired.length r
theorem Vals.get:∀{xs:List V}{us:List Value}{i:Nat}{x:V},Vals xs us->xs[i]?=some x->∃u,us[i]?=some u/\RelV x u
 |_,_,_,_,.nil,e=>by simp at e
 |_,_,0,_,.cons r _,e=>by simp at e;subst e;exact⟨_,rfl,r⟩
 |_,_,i+1,x,.cons _ t,e=>by
  obtain⟨u,h1,h2⟩:=Vals.get (i:=i) (x:=x) t (by simpa using e);exact⟨u,by simpa using h1,h2⟩
theorem Vals.set{x:V}{u:Value}(r:RelV x u):∀{xs:List V}{us:List Value}(i:Nat),Vals xs us->Vals (xs.set i x) (us.set i u)
 |_,_,_,.nil=>.nil
 |_,_,0,.cons _ t=>.cons r t
 |_,_,i+1,.cons q t=>.cons q (Vals.set r i t)
theorem Vals.append:∀{xs ys:List V}{us ws:List Value},Vals xs us->Vals ys ws->Vals (xs++ys) (us++ws)
 |_,_,_,_,.nil,s=>s
 |_,_,_,_,.cons r t,s=>.cons r (Vals.append t s)
theorem Vals.take:∀{xs:List V}{us:List Value}(n:Nat),Vals xs us->Vals (xs.take n) (us.take n)
 |_,_,0,_=>.nil
 |_,_,_+1,.nil=>.nil
 |_,_,n+1,.cons r t=>.cons r (Vals.take n t)
theorem Vals.drop:∀{xs:List V}{us:List Value}(n:Nat),Vals xs us->Vals (xs.drop n) (us.drop n)
 |_,_,0,r=>r
 |_,_,_+1,.nil=>.nil
 |_,_,n+1,.cons _ t=>Vals.drop n t
def lZ:Option V->Option Value->Prop
 |some v,some u=>RelV v u
 |none,none=>True
 |_,_=>False
def KV{κ:Type}:List (κ×V)->List (κ×Value)->Prop:=Paired λ(p:κ×V)(q:κ×Value)=>p.1=q.1/\RelV p.2 q.2
noncomputable def kV:Key->V
 | .inl i=>.int i
 | .inr x=>.str x
inductive HO where
 |lst (xs:List V)
 |tup (xs:List V)
 |dK (bf:List (Key×V))|dT (bf:List (List Key×V))
 |set (S:Int->Bool) (n:Nat)
 |ins (C dx:Addr) (fs:List (Str×V))
 |own (x:Addr)
 |xd (fs:List (Str×V))
 |met (f x:Addr)
 |zI (lo hi:Int)
 |dM (o:Obj) (u:HO)
 |qu (ps:Array Value)
 |ext (φ:Heap->Prop)
abbrev Hp:=Addr->Option HO
noncomputable def upd(H:Hp)(a:Addr)(o:HO):Hp:=λb=>if b=a then some o else H b
theorem bz:upd H a o a=some o:=by unfold upd;rw[ae rfl]
theorem cH(h:b≠a):upd H a o b=H b:=by unfold upd;rw[af h]
theorem zJ{u:HO}:upd (upd H a o) a u=upd H a u:=by
 funext b;unfold upd;split<;>rfl
theorem To{u:HO}(h:H a=some o)(h':H b=some u)(d:o≠u):a≠b:=by
 intro e;subst e;rw[h]at h';exact d (eF h')
theorem gI(h:H a=some o)(h':H b=none):a≠b:=by
 intro e;subst e;rw[h]at h';cases h'
def pN(h:Heap)(a:Addr)(items:Array Value):Prop:=∃o,h.get? a=some o/\o.cls=.type "tuple"/\o.dict=none/\∃n,o.data=.seq items n
theorem pN.tup{items:Array Value}(x:pN h a items):IsTup h a items:=let ⟨o,e,c,_,n,d⟩:=x;⟨o,e,c,n,d⟩
theorem pN.new(h:Heap)(items:Array Value):pN (h.push { cls:=.type "tuple",data:=.seq items }) h.objs.size items:=⟨_,gT _ rfl,rfl,rfl,_,rfl⟩
section
variable(P:Program)(w:World)
def eQ(H:Hp)(h:Heap)(a:Addr):HO->Prop
 | .lst xs=>xs.length<=sizeLine/\∃(its:List Value)(n:Nat),Vals xs its/\h.get? a=some { cls:=.type "list",data:=.seq its.toArray n }
 | .tup xs=>xs.length<=sizeLine/\∃its:List Value,Vals xs its/\pN h a its.toArray
 | .dK bf=>bf.length<=sizeLine/\(a==sysModules)=false/\∃vs,KV bf vs/\h.DictOf (gO P w) a vs
 | .dT bf=>bf.length<=sizeLine/\(a==sysModules)=false/\∃xs:List (List Key×Addr×Value),
   Paired (λ(p:List Key×V)(q:List Key×Addr×Value)=>p.1=q.1/\H q.2.1=some (.tup (p.1.map kV))/\RelV p.2 q.2.2) bf xs/\
   ∃o es ep,h.get? a=some o/\o.ExactDict/\o.data=.dict es ep/\es.toList=xs.map (entryOfKey (tupleKind (gO P w)))/\(xs.map (·.1)).Nodup
 | .set S n=>h.SetOf (intKind P w) a S n
 | .ins C dx fs=>H dx=some (.own a)/\fs.length<=1000/\dx≠a/\h.get? a=some (PySem.W.instObj C dx)/\
   ∃mA,h.Ns1 dx mA/\(∀f,lZ (fs.lookup f) (mA f))/\PySem.Within mA (fs.map (·.1))
 | .own _=>∃o,h.get? a=some o
 | .xd fs=>∃mA,h.Ns1 a mA/\∀f,lZ (fs.lookup f) (mA f)
 | .zI lo hi=>∃t u v,h.get? a=some { cls:=.type "range",data:=.fields #[.int lo t,.int hi u,.int 1 v] }
 | .dM o u=>h.get? a=some o/\eQ H h a u
 | .qu ps=>h.get? a=some { cls:=.none,data:=.fields ps }
 | .met f x=>h.get? a=some (PySem.W.methodObj (.ref f) (.ref x))
 | .ext φ=>φ h/\(∃o,h.get? a=some o)/\∀h1 h2:Heap,φ h1->(∀o,h1.get? a=some o->h2.get? a=some o)->φ h2
def dN(H:Hp)(h:Heap):Prop:=∀a o,H a=some o->eQ P w H h a o
end
section
variable{P:Program}{w:World}{H H':Hp}{h h':Heap}{a:Addr}{o:HO}
theorem eQ.lt(x:eQ P w H h a o):a<h.objs.size:=by
 cases o with
 |lst xs=>obtain⟨_,_,_,_,e⟩:=x;exact dH e
 |tup xs=>obtain⟨_,_,_,p⟩:=x;exact p.tup.lt
 |dK bf=>obtain⟨_,_,_,_,o,_,_,e,_⟩:=x;exact dH e
 |dT bf=>obtain⟨_,_,_,_,o,_,_,e,_⟩:=x;exact dH e
 |set S n=>obtain⟨o,_,_,_,e,_⟩:=x;exact dH e
 |ins C dx fs=>obtain⟨_,_,_,e,_⟩:=x;exact dH e
 |own y=>obtain⟨_,e⟩:=x;exact dH e
 |xd fs=>obtain⟨_,⟨_,_,_,e,_⟩,_⟩:=x;exact dH e
 |zI lo hi=>obtain⟨_,_,_,e⟩:=x;exact dH e
 |dM ob u=>obtain⟨e,_⟩:=x;exact dH e
 |qu ps=>exact dH (show h.get? a=some _ from x)
 |met f y=>exact dH (show h.get? a=some _ from x)
 |ext φ=>obtain⟨_,⟨_,e⟩,_⟩:=x;exact dH e
theorem Paired.uz{α β:Type}{F G:α->β->Prop}:∀{l₁:List α}{l₂:List β},Paired F l₁ l₂->(∀a b,F a b->G a b)->Paired G l₁ l₂
 |_,_,.nil,_=>.nil
 |_,_,.cons r t,f=>.cons (f _ _ r) (Paired.uz t f)
theorem eQ.mY(x:eQ P w H h a o)(k:∀b u,(b=a\/H b=some (.own a))->h.get? b=some u->h'.get? b=some u)
  (ho:∀b,H b=some (.own a)->H' b=some (.own a)) (ht:∀b xs,H b=some (.tup xs)->H' b=some (.tup xs)):eQ P w H' h' a o:=by
 induction o with
 |lst xs=>obtain⟨z,its,n,r,e⟩:=x;exact⟨z,its,n,r,k _ _ (.inl rfl) e⟩
 |tup xs=>obtain⟨z,its,r,ob,e,c⟩:=x;exact⟨z,its,r,ob,k _ _ (.inl rfl) e,c⟩
 |dK bf=>obtain⟨z,y,vs,r,ob,es,ep,e,c⟩:=x;exact⟨z,y,vs,r,ob,es,ep,k _ _ (.inl rfl) e,c⟩
 |dT bf=>
  obtain⟨z,y,xs,r,ob,es,ep,e,c⟩:=x;exact⟨z,y,xs,Paired.uz r λp q z=>⟨z.1,ht _ _ z.2.1,z.2.2⟩,ob,es,ep,k _ _ (.inl rfl) e,c⟩
 |set S n=>obtain⟨ob,es,ep,t,e,c⟩:=x;exact⟨ob,es,ep,t,k _ _ (.inl rfl) e,c⟩
 |ins C dx fs=>
  obtain⟨d,z,ne,e,mA,⟨od,es,ep,e2,c⟩,r⟩:=x;exact⟨ho _ d,z,ne,k _ _ (.inl rfl) e,mA,⟨od,es,ep,k _ _ (.inr d) e2,c⟩,r⟩
 |own y=>obtain⟨ob,e⟩:=x;exact⟨ob,k _ _ (.inl rfl) e⟩
 |xd fs=>obtain⟨mA,⟨od,es,ep,e,c⟩,r⟩:=x;exact⟨mA,⟨od,es,ep,k _ _ (.inl rfl) e,c⟩,r⟩
 |zI lo hi=>obtain⟨t,u,v,e⟩:=x;exact⟨t,u,v,k _ _ (.inl rfl) e⟩
 |dM ob u ih=>obtain⟨e,q⟩:=x;exact⟨k _ _ (.inl rfl) e,ih q⟩
 |qu ps=>
  have e:h.get? a=some { cls:=.none,data:=.fields ps }:=x;show h'.get? a=some { cls:=.none,data:=.fields ps };exact k a _ (.inl rfl) e
 |met f y=>
  have e:h.get? a=some (PySem.W.methodObj (.ref f) (.ref y)):=x;show h'.get? a=some (PySem.W.methodObj (.ref f) (.ref y));exact k a _ (.inl rfl) e
 |ext φ=>obtain⟨p,⟨o,e⟩,st⟩:=x;exact⟨st _ _ p λo q=>k _ _ (.inl rfl) q,⟨o,k _ _ (.inl rfl) e⟩,st⟩
theorem dN.lt(x:dN P w H h)(e:H a=some o):a<h.objs.size:=(x a o e).lt
theorem dN.fresh(x:dN P w H h)(e:h.objs.size<=a):H a=none:=by
 cases q:H a with
 |none=>rfl
 |some u=>exact absurd (jF (x.lt q) e) (Nat.lt_irrefl _)
theorem dN.kept(x:dN P w H h)(k:∀b u,h.get? b=some u->h'.get? b=some u):dN P w H h':=λa o e=>
 (x a o e).mY (λb u _ q=>k b u q) (λ_ q=>q) λ_ _ q=>q
theorem dN.laid(x:dN P w H h)(k:∀b u,h.get? b=some u->h'.get? b=some u)(hp:h.objs.size<=a)(new:eQ P w (upd H a o) h' a o):dN P w (upd H a o) h':=λb u e=>by
 have hn:=x.fresh hp;by_cases hb:b=a
 ·subst hb;rw[bz]at e;cases e;exact new
 ·rw[cH hb]at e;exact(x b u e).mY (λc v _ q=>k c v q) (λc q=>by rw[cH (gI q hn)];exact q) λc xs q=>by rw[cH (gI q hn)];exact q
end
def Rd(H:Hp)(a:Addr)(u:HO):Prop:=H a=some u\/∃o,H a=some (.dM o u)
theorem Rd.ok{P:Program}{w:World}{u:HO}(r:Rd H a u)(x:dN P w H h):eQ P w H h a u:=by
 rcases r with r|⟨o,r⟩
 ·exact x a u r
 ·obtain⟨_,q⟩:=x a _ r;exact q
def wJ:Option HO->Prop
 |some (.lst _)=>True
 |some (.dK _)=>True
 |some (.dT _)=>True
 |some (.set _ _)=>True
 |some (.ins _ _ _)=>True
 |some (.ext _)=>True
 |_=>False
section
variable{P:Program}{w:World}{H:Hp}{h h':Heap}{x e:Addr}{o':HO}
theorem dN.write(ok:dN P w H h)(mu:wJ (H x))(he:e=x\/H e=some (.own x))(k:∀b u,b≠e->h.get? b=some u->h'.get? b=some u)(uB:∃u,h'.get? e=some u)
  (new:eQ P w (upd H x o') h' x o'):dN P w (upd H x o') h':=λb u q=>by
 have Ke:∀c y,H c=some (.own y)->c≠x:=λc y r z=>by subst z;rw[r]at mu;exact mu
 have Tp:∀c xs,H c=some (.tup xs)->c≠x:=λc xs r z=>by subst z;rw[r]at mu;exact mu
 by_cases hb:b=x
 ·subst hb;rw[bz]at q;cases q;exact new
 ·rw[cH hb]at q;by_cases oO:b=e
  ·have q':H b=some (.own x):=by
    rcases he with z|z
    ·exact absurd (oO.trans z) hb
    ·rw[oO];exact z
   rw[q]at q';cases q';obtain⟨v,hv⟩:=uB;exact⟨v,by rw[oO];exact hv⟩
  ·refine(ok b u q).mY (λc v hc r=>k c v ?_ r) (λc r=>by rw[cH (Ke c b r)];exact r) λc xs r=>by rw[cH (Tp c xs r)];exact r
   rcases hc with rfl|hc
   ·exact oO
   ·rintro rfl;rcases he with z|z
    ·exact Ke c b hc z
    ·rw[hc]at z;cases z;exact hb rfl
end
structure Un(fs ex:List Addr)(H H':Hp)(h h':Heap):Prop where
 keep:∀b o,h.get? b=some o->H b=none->b ∉ fs->b ∉ ex->h'.get? b=some o
 slot:∀b o,h.get? b=some o->H b=none->b∈fs->b ∉ ex->∃sl,h'.get? b=some { o with slots:=sl }
 free:∀b o,h.get? b=some o->H b=none->b ∉ ex->H' b=none
 there:∀b o,h.get? b=some o->b ∉ ex->∃o',h'.get? b=some o'
 jc:∀b xs,H b=some (.tup xs)->H' b=some (.tup xs)
 iQ:∀b o u,H b=some (.dM o u)->H' b=some (.dM o u)
 jG:∀b ps,H b=some (.qu ps)->∃more,H' b=some (.qu (ps++more))
section
variable{fs Ds ex ex':List Addr}{H H1 H2:Hp}{h h1 h2 h':Heap}{a x e:Addr}{o:HO}
theorem Un.any(u:Un fs ex H H1 h h1){ob:Obj}(q:h.get? b=some ob)(n:H b=none)(hx:b ∉ ex):∃sl,h1.get? b=some { ob with slots:=sl }:=by
 by_cases hb:b∈fs
 ·exact u.slot b ob q n hb hx
 ·exact⟨ob.slots,u.keep b ob q n hb hx⟩
theorem Un.kept(k:∀b u,h.get? b=some u->h'.get? b=some u):Un fs ex H H h h':=
 ⟨λb ob q _ _ _=>k b ob q,λb ob q _ _ _=>⟨ob.slots,k b ob q⟩,λ_ _ _ n _=>n,λb ob q _=>⟨ob,k b ob q⟩,λ_ _ q=>q,λ_ _ _ q=>q,λ_ ps q=>⟨#[],by rw[q];simp⟩⟩
theorem Un.refl:Un fs ex H H h h:=Un.kept λ_ _ q=>q
theorem Un.laid(k:∀b u,h.get? b=some u->h'.get? b=some u)(hp:h.objs.size<=a)(hn:H a=none):Un fs ex H (upd H a o) h h' where
 keep:=λb u q _ _ _=>k b u q
 slot:=λb u q _ _ _=>⟨u.slots,k b u q⟩
 free:=λb u q n _=>by rw[cH (fK (jF (dH q) hp))];exact n
 there:=λb u q _=>⟨u,k b u q⟩
 jc:=λb xs q=>by rw[cH (gI q hn)];exact q
 iQ:=λb u xs q=>by rw[cH (gI q hn)];exact q
 jG:=λb ps q=>⟨#[],by rw[cH (gI q hn),q];simp⟩
theorem Un.write(mu:wJ (H x))(he:e=x\/H e=some (.own x))(k:∀b u,b≠e->h.get? b=some u->h'.get? b=some u)(uB:∃u,h'.get? e=some u):Un fs ex H (upd H x o) h h':=by
 have hx:∀b,H b=none->b≠x:=λb n z=>by subst z;rw[n]at mu;exact mu
 have hb:∀b,H b=none->b≠e:=λb n z=>by
  subst z;rcases he with r|r
  ·exact hx b n r
  ·rw[n]at r;cases r
 have hm:∀b u,H b=some u->¬wJ (some u)->b≠x:=λb u q nm z=>by subst z;rw[q]at mu;exact nm mu
 refine⟨λb u q n _ _=>k b u (hb b n) q,λb u q n _ _=>⟨u.slots,k b u (hb b n) q⟩,λb u q n _=>by rw[cH (hx b n)];exact n,λb u q _=>?_,
  λb xs q=>by rw[cH (hm b _ q λz=>z)];exact q,λb u xs q=>by rw[cH (hm b _ q λz=>z)];exact q,λb ps q=>⟨#[],by rw[cH (hm b _ q λz=>z),q];simp⟩⟩
 by_cases oO:b=e
 ·subst oO;exact uB
 ·exact⟨u,k b u oO q⟩
end
noncomputable def zK(h:Heap)(H:Hp):List Addr:=(List.range h.objs.size).filter λa=>(H a).isSome
def pO(h:Heap)(H:Hp):Heap:=PySem.W.hideAll h (zK h H)
theorem Tq(h:Heap)(H:Hp):(pO h H).objs.size=h.objs.size:=PySem.W.hideAll_size _ _
theorem Tr{o:Obj}(e:h.get? b=some o)(n:H b=none):(pO h H).get? b=some o:=
 PySem.W.hideAll_get _ e λhm=>by
  have q:(H b).isSome=true:=(uf.mp hm).2;rw[n]at q;simp at q
theorem Ts{o:Obj}(e:(pO h H).get? b=some o):h.get? b=some o/\H b=none:=by
 have e':h.get? b=some o:=PySem.W.of_hideAll (zK h H) e;refine⟨e',?_⟩;cases q:H b with
 |none=>rfl
 |some x=>
  have hm:b∈zK h H:=uf.mpr ⟨qq.mpr (dH e'),by simp[q]⟩;have z:(pO h H).get? b=none:=PySem.W.hideAll_none (zK h H) hm;rw[z]at e;cases e
noncomputable def Tt(g h:Heap)(L:Addr):List (Addr×Obj):=(List.range h.objs.size).filterMap λa=>if a=L\/(g.get? a).isSome=true then none else(h.get? a).map λo=>(a,o)
noncomputable def cG(g h:Heap)(L d:Addr):List (Addr×Obj):=(Tt g h L).filter λp=>decide (p.1≠d)
structure Mod(K:Frag)(mg:Str->Option Value)(base:Heap):Prop where
 pP:K.In base
 glob:base.Ns mainGlobals mg
 blt:∃mb,base.Ns builtinsNs mb/\∀x:Str,x ≠ "__name__"->mb x=bootBuiltins x
 nolimit:base.NoLimit
structure Cx where
 prog:Program
 w:World
 K:Frag
 mg:Str->Option Value
 base:Heap
 A:Around
 N:List Str
 s₀:Shared
 H₀:Hp
 env:Env
 outer:List Env
 stack:List Env
 ex:List Addr
 fn:Str->Bool
 calm:Bool
 pn:List (Addr×Obj)
 xe:QV
noncomputable def gq(l:List Env):List Addr:=l.filterMap (·.frame)
abbrev Cx.fs(X:Cx):List Addr:=gq X.outer
def rT(sc:Scope)(x:Str):Prop:=sc.names.lookup x=some .local\/sc.names.lookup x=some .cell\/sc.names.lookup x=some .free
def Loc(sc:Scope)(x:Str):Prop:=sc.names.lookup x=some .local\/sc.names.lookup x=some .cell
def Look(env:Env)(h:Heap)(m:Str->Option Value)(x:Str)(u:Value):Prop:=
 (env.kindOf x=some .local/\m x=some u)\/((env.kindOf x=some .cell\/env.kindOf x=some .free)/\∃c,env.cells.lookup x=some c/\h.IsCell c (some u))
structure Cx.Ok(X:Cx):Prop where
 mod:Mod X.K X.mg X.base
 kind:X.env.scope.kind=.function
 glob:X.env.globals=mainGlobals
 blt:X.env.builtins=builtinsNs
 above:X.s₀.heap.objs.size<=X.env.locals
 inj:∀x y c,X.env.cells.lookup x=some c->X.env.cells.lookup y=some c->x=y
 has:∀x,(X.env.kindOf x=some .cell\/X.env.kindOf x=some .free)->∃c,X.env.cells.lookup x=some c
 wK:∀x c,X.fn x=true->X.env.cells.lookup x=some c->X.s₀.heap.objs.size<=c
 hd:X.calm=true->X.A.handled=none
 frames:X.A.frames=some X.stack
 uC:X.stack=X.outer\/(X.stack=X.env::X.outer/\X.env.frame=some X.env.locals)
 wL:∀b∈X.ex,b≠X.env.locals/\∀x c,X.env.cells.lookup x=some c->c≠b
 bs:∀b o,X.base.get? b=some o->X.s₀.heap.get? b=some o/\X.H₀ b=none
 qv:X.base.objs.size<=X.s₀.heap.objs.size
 wM:∀b o,X.base.get? b=some o->b ∉ X.ex
 uD:∀b∈X.ex,b ∉ X.fs
 mZ:X.s₀.heap.FunFrames X.base X.outer
 rV:∀b∈X.fs,X.H₀ b=none
structure Inv(X:Cx)(bc:List (Addr×Obj))(σ:List (Option V))(H:Hp)(s:Shared):Prop where
 ok:X.Ok
 os:s.os=X.s₀.os
 bare:AllBare s.gens
 base:Un X.fs X.ex X.H₀ H X.s₀.heap s.heap
 loc:∃m,s.heap.Ns X.env.locals m/\∀(i:Nat)(x:Str)(v:V),X.N[i]?=some x->σ[i]?=some (some v)->rT X.env.scope x->∃u,RelV v u/\Look X.env s.heap m x u
 cell:∀x c,X.env.cells.lookup x=some c->∃v,s.heap.IsCell c v
 free:H X.env.locals=none
 l6:∀x c,X.env.cells.lookup x=some c->H c=none
 pin:∀p∈X.pn++bc,s.heap.get? p.1=some p.2/\H p.1=none/\p.1≠X.env.locals/\p.1 ∉ X.fs/\∀v,p.2.data≠.cell v
 bZ:dN X.prog X.w H s.heap
 len:σ.length=X.N.length
section
variable{X:Cx}{bc:List (Addr×Obj)}{σ:List (Option V)}{H H':Hp}{s:Shared}{h':Heap}
theorem Cx.Ok.Tu(ok:X.Ok){o:Obj}(e:X.base.get? b=some o):b ∉ X.fs:=λhb=>by
 have:=(ok.mZ.mem hb).1
 rw[e]at this;cases this
theorem Inv.bs(I:Inv X bc σ H s):∀b o,X.base.get? b=some o->s.heap.get? b=some o/\H b=none:=λb o e=>
 ⟨I.base.keep b o (I.ok.bs b o e).1 (I.ok.bs b o e).2 (I.ok.Tu e) (I.ok.wM b o e),I.base.free b o (I.ok.bs b o e).1 (I.ok.bs b o e).2 (I.ok.wM b o e)⟩
theorem Inv.bk(I:Inv X bc σ H s):∀b o,X.base.get? b=some o->s.heap.get? b=some o:=λb o e=>(I.bs b o e).1
theorem Inv.mod(I:Inv X bc σ H s):Mod X.K X.mg X.base:=I.ok.mod
theorem Inv.eK(I:Inv X bc σ H s):X.K.In s.heap:=I.ok.mod.pP.keeps I.bk
theorem Inv.lt(I:Inv X bc σ H s):X.env.locals<s.heap.objs.size:=let ⟨_,hn,_⟩:=I.loc;hn.lt
theorem Inv.sz(I:Inv X bc σ H s):X.s₀.heap.objs.size<=s.heap.objs.size:=dj I.ok.above (Nat.le_of_lt I.lt)
theorem Inv.Tv(I:Inv X bc σ H s)(h:s.heap.objs.size<=a):a ∉ X.fs:=λhb=>by
 obtain⟨_,o,ho,_⟩:=I.ok.mZ.mem hb;exact absurd (jF (dH ho) (dj I.sz h)) (Nat.lt_irrefl _)
theorem Inv.pQ(I:Inv X bc σ H s):∀x c,X.env.cells.lookup x=some c->c≠X.env.locals:=λx c e z=>by
 obtain⟨v,o,ho,hd⟩:=I.cell x c e;obtain⟨m,⟨o',es,ep,rW,Dt,_⟩,_⟩:=I.loc;rw[z,rW]at ho;cases ho;rw[Dt]at hd;cases hd
theorem Inv.mZ(I:Inv X bc σ H s):s.heap.FunFrames X.base X.outer:=by
 have all:∀(l:List Env),(∀b∈gq l,b∈X.fs)->X.s₀.heap.FunFrames X.base l->s.heap.FunFrames X.base l:=by
  intro l;induction l with
  |nil=>intro _ _;trivial
  |cons env r ih=>
   intro hs hl;obtain⟨hk,⟨L,o,hf,hn,ho,hd⟩,hr⟩:=hl;have hL:L∈X.fs:=hs L (by unfold gq;rw[zA,hf];exact c6);obtain⟨sl,e⟩:=I.base.slot L o ho (I.ok.rV L hL) hL λz=>I.ok.uD L z hL;exact⟨hk,⟨L,_,hf,hn,e,hd⟩,ih (λb hb=>hs b (by unfold gq;rw[zA,hf];exact e9 _ hb)) hr⟩
 exact all X.outer (λ_ hb=>hb) I.ok.mZ
theorem Inv.stack(I:Inv X bc σ H s):s.heap.FunFrames X.base X.stack:=by
 rcases I.ok.uC with e|⟨e,hf⟩
 ·rw[e];exact I.mZ
 ·rw[e];obtain⟨m,hn,_⟩:=I.loc;refine .cons (by rw[I.ok.kind];decide) hf hn ?_ I.mZ;exact Heap.get?_none_of_le (dj I.ok.qv I.ok.above)
theorem Inv.Du(I:Inv X bc σ H s):∀b∈gq X.stack,b∈X.env.locals::X.fs:=λb hb=>by
 rcases I.ok.uC with e|⟨e,hf⟩
 ·rw[e]at hb;exact e9 _ hb
 ·rw[e]at hb;unfold gq at hb;rw[zA,hf]at hb;exact hb
theorem Inv.zL(I:Inv X bc σ H s):∀b∈gq X.stack,H b=none:=λb hb=>by
 rcases dI.mp (I.Du b hb)with e|hb
 ·rw[e];exact I.free
 ·obtain⟨_,o,ho,_⟩:=I.ok.mZ.mem hb;exact I.base.free b o ho (I.ok.rV b hb) λz=>I.ok.uD b z hb
theorem Inv.step{g':Array GenState}{d':Drawn}(I:Inv X bc σ H s)
  (oP:∀b∈ch,(b∈X.ex\/X.s₀.heap.objs.size<=b)/\b≠X.env.locals/\(∀x c,X.env.cells.lookup x=some c->c≠b)/\∀p∈X.pn++bc,p.1≠b)
  (keep:∀b o,b≠X.env.locals->b ∉ X.fs->b ∉ ch->s.heap.get? b=some o->H b=none->h'.get? b=some o)
  (slot:∀b o,b≠X.env.locals->b∈X.fs->b ∉ ch->s.heap.get? b=some o->H b=none->∃sl,h'.get? b=some { o with slots:=sl }) (free:∀b o,b ∉ ch->s.heap.get? b=some o->H b=none->H' b=none)
  (there:∀b o,b ∉ ch->s.heap.get? b=some o->∃o',h'.get? b=some o')
  (jc:∀b xs,H b=some (.tup xs)->H' b=some (.tup xs)) (iQ:∀b o u,H b=some (.dM o u)->H' b=some (.dM o u)) (jG:∀b ps,H b=some (.qu ps)->∃more,H' b=some (.qu (ps++more)))
  (ns:∀m,s.heap.Ns X.env.locals m->h'.Ns X.env.locals m) (bZ:dN X.prog X.w H' h') (hg:AllBare g') :
  Inv X bc σ H' { s with heap:=h',gens:=g',drawn:=d',toks:=t' }:=by
 have Kf:∀b o,X.s₀.heap.get? b=some o->b≠X.env.locals:=λb o e=>fK (jF (dH e) I.ok.above);have zM:∀b o,X.s₀.heap.get? b=some o->b ∉ X.ex->b ∉ ch:=λb o e hx hb=>by
  rcases(oP b hb).1 with z|z
  ·exact hx z
  ·exact absurd (jF (dH e) z) (Nat.lt_irrefl _)
 have Kg:∀x c,X.env.cells.lookup x=some c->∀v,s.heap.IsCell c v->h'.IsCell c v:=λx c e v ⟨o,ho,hd⟩=>by
  have wN:c ∉ ch:=λz=>(oP c z).2.2.1 x c e rfl;by_cases hc:c∈X.fs
  ·obtain⟨sl,q⟩:=slot c o (I.pQ x c e) hc wN ho (I.l6 x c e);exact⟨_,q,hd⟩
  ·exact⟨o,keep c o (I.pQ x c e) hc wN ho (I.l6 x c e),hd⟩
 refine⟨I.ok,I.os,hg,⟨λb o e n hb hx=>?_,λb o e n hb hx=>?_,λb o e n hx=>?_,λb o e hx=>?_,λb xs e=>jc b xs (I.base.jc b xs e),λb o xs e=>iQ b o xs (I.base.iQ b o xs e),λb ps e=>?_⟩,?_,λx c e=>?_,?_,λx c e=>?_,λp hp=>?_,bZ,I.len⟩
 ·exact keep b o (Kf b o e) hb (zM b o e hx) (I.base.keep b o e n hb hx) (I.base.free b o e n hx)
 ·obtain⟨sl,e1⟩:=I.base.slot b o e n hb hx;obtain⟨Dv,e2⟩:=slot b _ (Kf b o e) hb (zM b o e hx) e1 (I.base.free b o e n hx);exact⟨Dv,e2⟩
 ·obtain⟨o',e1⟩:=I.base.there b o e hx;exact free b o' (zM b o e hx) e1 (I.base.free b o e n hx)
 ·obtain⟨o',e1⟩:=I.base.there b o e hx;exact there b o' (zM b o e hx) e1
 ·obtain⟨m1,e1⟩:=I.base.jG b ps e;obtain⟨m2,e2⟩:=jG b _ e1;exact⟨m1++m2,by rw[e2,Array.append_assoc]⟩
 ·obtain⟨m,hn,hl⟩:=I.loc;refine⟨m,ns m hn,λi x v e1 e2 e3=>?_⟩;obtain⟨u,r,l⟩:=hl i x v e1 e2 e3;refine⟨u,r,?_⟩;rcases l with l|⟨k,c,e,z⟩
  ·exact .inl l
  ·exact .inr ⟨k,c,e,Kg x c e _ z⟩
 ·obtain⟨v,z⟩:=I.cell x c e;exact⟨v,Kg x c e v z⟩
 ·obtain⟨m,⟨o,_,_,ho,_⟩,_⟩:=I.loc;exact free _ o (λz=>(oP _ z).2.1 rfl) ho I.free
 ·obtain⟨v,o,ho,hd⟩:=I.cell x c e;exact free c o (λz=>(oP c z).2.2.1 x c e rfl) ho (I.l6 x c e)
 ·obtain⟨e,n,ne,nf,d⟩:=I.pin p hp;have wN:p.1 ∉ ch:=λz=>(oP p.1 z).2.2.2 p hp rfl;exact⟨keep p.1 p.2 ne nf wN e n,free p.1 p.2 wN e n,ne,nf,d⟩
theorem Inv.un(I:Inv X bc σ H s)(u:Un X.fs [] H H' s.heap h')(bZ:dN X.prog X.w H' h'):Inv X bc σ H' { s with heap:=h',toks:=t' }:=by
 obtain⟨m,⟨o,es,ep,ho,r⟩,_⟩:=id I.loc;obtain⟨sl,hL⟩:=u.any ho I.free (by simp);exact I.step (g':=s.gens) (d':=s.drawn) (ch:=[]) (λ_ z=>nomatch z) (λb o _ hb _ e n=>u.keep b o e n hb (by simp)) (λb o _ hb _ e n=>u.slot b o e n hb (by simp)) (λb o _ e n=>u.free b o e n (by simp)) (λb o _ e=>u.there b o e (by simp)) u.jc u.iQ u.jG (λm' hm=>by
  obtain⟨o',es',zN,rW,r'⟩:=hm;rw[ho]at rW;cases rW;exact⟨_,es',zN,hL,r'⟩) bZ I.bare
theorem Inv.call{g':Array GenState}{d':Drawn}(I:Inv X bc σ H s)(u:Un (gq X.stack) ch H H' s.heap h')(bZ:dN X.prog X.w H' h')(hg:AllBare g')
  (oP:∀b∈ch,(b∈X.ex\/X.s₀.heap.objs.size<=b)/\b≠X.env.locals/\(∀x c,X.env.cells.lookup x=some c->c≠b)/\∀p∈X.pn++bc,p.1≠b) :
  Inv X bc σ H' { s with heap:=h',gens:=g',drawn:=d',toks:=t' }:=by
 obtain⟨m,⟨o,es,ep,ho,r⟩,_⟩:=id I.loc;obtain⟨sl,hL⟩:=u.any ho I.free λz=>(oP _ z).2.1 rfl;exact I.step (ch:=ch) oP (λb o hL hb hc e n=>u.keep b o e n (λz=>(dI.mp (I.Du b z)).elim hL hb) hc) (λb o _ _ hc e n=>u.any e n hc) (λb o hc e n=>u.free b o e n hc) (λb o hc e=>u.there b o e hc) u.jc u.iQ u.jG (λm' hm=>by
  obtain⟨o',es',zN,rW,r'⟩:=hm;rw[ho]at rW;cases rW;exact⟨_,es',zN,hL,r'⟩) bZ hg
theorem Inv.turned{it:Addr}(I:Inv X bc σ H s)(k:∀b o,b≠it->s.heap.get? b=some o->h'.get? b=some o)(hn:H it=none)(hL:it≠X.env.locals)
  (h1:it∈X.ex\/X.s₀.heap.objs.size<=it) (h2:∀x c,X.env.cells.lookup x=some c->c≠it) (h3:∀p∈X.pn++bc,p.1≠it):Inv X bc σ H { s with heap:=h',toks:=t' }:=by
 have Kh:∀b u,H b=some u->b≠it:=λb u e z=>by rw[z,hn]at e;cases e
 refine I.step (g':=s.gens) (d':=s.drawn) (ch:=[it]) (λb hb=>?_) (λb o _ _ hc e _=>k b o (λz=>hc (by simp[z])) e) (λb o _ _ hc e _=>⟨o.slots,k b o (λz=>hc (by simp[z])) e⟩) (λ_ _ _ _ n=>n)
  (λb o hc e=>⟨o,k b o (λz=>hc (by simp[z])) e⟩) (λ_ _ e=>e) (λ_ _ _ e=>e) (λb ps e=>⟨#[],by rw[e];simp⟩) (λm hm=>?_) (λb u e=>?_) I.bare
 ·have e:b=it:=by simpa using hb
  subst e;exact⟨h1,hL,h2,h3⟩
 ·obtain⟨o,es,ep,ho,r⟩:=hm;exact⟨o,es,ep,k _ o (fe hL) ho,r⟩
 ·refine(I.bZ b u e).mY (λc v hc q=>k c v ?_ q) (λ_ q=>q) λ_ _ q=>q;rcases hc with z|z
  ·rw[z];exact Kh b u e
  ·exact Kh c _ z
theorem Inv.tok(I:Inv X bc σ H s)(t:Nat):Inv X bc σ H { s with toks:=t }:=I.un (h':=s.heap) (t':=t) Un.refl I.bZ
theorem Inv.kept{t':Nat}(I:Inv X bc σ H s)(k:∀b u,s.heap.get? b=some u->h'.get? b=some u):Inv X bc σ H { s with heap:=h',toks:=t' }:=I.un (Un.kept k) (I.bZ.kept k)
theorem Inv.laid{a:Addr}{o:HO}{t':Nat}(I:Inv X bc σ H s)(k:∀b u,s.heap.get? b=some u->h'.get? b=some u)(hp:s.heap.objs.size<=a)(new:eQ X.prog X.w (upd H a o) h' a o) :
  Inv X bc σ (upd H a o) { s with heap:=h',toks:=t' }:=I.un (Un.laid k hp (I.bZ.fresh hp)) (I.bZ.laid k hp new)
theorem Inv.write{x e:Addr}{o:HO}{t':Nat}(I:Inv X bc σ H s)(mu:wJ (H x))(he:e=x\/H e=some (.own x))(k:∀b u,b≠e->s.heap.get? b=some u->h'.get? b=some u)(uB:∃u,h'.get? e=some u)
  (new:eQ X.prog X.w (upd H x o) h' x o):Inv X bc σ (upd H x o) { s with heap:=h',toks:=t' }:=I.un (Un.write mu he k uB) (I.bZ.write mu he k uB new)
theorem Inv.zO{Ki:List (Addr×Obj)}(I:Inv X bc σ H s)(h:∀p∈Ki,s.heap.get? p.1=some p.2/\H p.1=none/\p.1≠X.env.locals/\p.1 ∉ X.fs/\∀v,p.2.data≠.cell v):Inv X Ki σ H s:=
 ⟨I.ok,I.os,I.bare,I.base,I.loc,I.cell,I.free,I.l6,λp hp=>(iG.mp hp).elim (λz=>I.pin p (rL _ z)) (h p),I.bZ,I.len⟩
theorem Dx{N:List Str}(hN:N.Nodup){j:Nat}(a:N[i]?=some x)(b:N[j]?=some x):i=j:=by
 obtain⟨h1,e1⟩:=fO.mp a;obtain⟨h2,e2⟩:=fO.mp b;exact(List.getElem_inj hN).mp (e1.trans e2.symm)
theorem Kj(I:Inv X bc σ H s)(hN:X.N.Nodup)(hi:X.N[i]?=some x)(hx:Loc X.env.scope x)(r:RelV v u)
  (h:∀s',Inv X bc (σ.set i (some v)) H s'->(∃a,Heap.SameBut a s.heap s'.heap/\(a=X.env.locals\/X.env.cells.lookup x=some a))->Q () s') (hf:X.fn x=true\/X.env.scope.names.lookup x=some .local:=by first|exact .inl rfl|exact .inr rfl|assumption):wpAny M A (storeName X.env x u) Q E s:=by
 obtain⟨m,hn,hl⟩:=id I.loc;have Dy:(X.env.scope.kind == .class||(X.env.scope.kind == .module&&X.env.locals != X.env.globals))=false:=by rw[I.ok.kind];rfl
 have Kk:i<σ.length:=by rw[I.len];exact(fO.mp hi).1
 have pQ:=I.pQ;have Kl:∀{a:Addr}{h':Heap},(∃o,s.heap.get? a=some o/\H a=none)->Heap.SameBut a s.heap h'->dN X.prog X.w H h':=λ{a h'} ha hs b ob e=>by
  obtain⟨_,_,Km⟩:=ha;refine(I.bZ b ob e).mY (λc w' hc q=>(hs.2 c ?_).trans q) (λ_ q=>q) λ_ _ q=>q;rintro rfl;rcases hc with rfl|hc
  ·rw[Km]at e;cases e
  ·rw[Km]at hc;cases hc
 rcases hx with hk|hk
 ·refine wpAny_storeName_local hk hn (λh' rX hs=>?_) Dy;obtain⟨oL,_,_,uE,_⟩:=id hn;refine h _ ⟨I.ok,I.os,I.bare,⟨λb o e n hb hx=>?_,λb o e n hb hx=>?_,I.base.free,λb o e hx=>?_,I.base.jc,I.base.iQ,I.base.jG⟩,⟨_,rX,λj y v' e1 e2 e3=>?_⟩,λy c e=>?_,I.free,I.l6,λp hp=>?_,Kl ⟨oL,uE,I.free⟩ hs,by simpa using I.len⟩ ⟨_,hs,.inl rfl⟩
  ·exact(hs.2 b (fK (jF (dH e) I.ok.above))).trans (I.base.keep b o e n hb hx)
  ·obtain⟨sl,e1⟩:=I.base.slot b o e n hb hx;exact⟨sl,(hs.2 b (fK (jF (dH e) I.ok.above))).trans e1⟩
  ·obtain⟨o',e1⟩:=I.base.there b o e hx;exact⟨o',(hs.2 b (fK (jF (dH e) I.ok.above))).trans e1⟩
  ·by_cases hj:j=i
   ·subst hj;rw[hi]at e1;cases e1;rw[List.getElem?_set_self Kk]at e2;cases e2;exact⟨u,r,.inl ⟨hk,by simp⟩⟩
   ·rw[List.getElem?_set_ne (fe hj)]at e2;obtain⟨u',r',q⟩:=hl j y v' e1 e2 e3;refine⟨u',r',?_⟩;rcases q with⟨k,e⟩|⟨k,c,e,z⟩
    ·refine .inl ⟨k,?_⟩
     have:y≠x:=λe=>hj (Dx hN e1 (e▸hi))
     simp[this,e]
    ·exact .inr ⟨k,c,e,z.sameBut hs (pQ y c e)⟩
  ·obtain⟨w',z⟩:=I.cell y c e;exact⟨w',z.sameBut hs (pQ y c e)⟩
  ·obtain⟨e,n,ne,nf,d⟩:=I.pin p hp;exact⟨(hs.2 p.1 ne).trans e,n,ne,nf,d⟩
 ·have wO:X.fn x=true:=by
   rcases hf with z|z
   ·exact z
   ·rw[z]at hk;cases hk
  obtain⟨c,hc⟩:=I.ok.has x (.inl hk);obtain⟨w',z⟩:=I.cell x c hc;refine wpAny_storeName_cell I.ok.kind hk hc z (λh' oQ hs=>?_);obtain⟨oc,Kn,Tw⟩:=id z;refine h { s with heap:=h' } ⟨I.ok,I.os,I.bare,⟨λb o e n hb hx=>?_,λb o e n hb hx=>?_,I.base.free,λb o e hx=>?_,I.base.jc,I.base.iQ,I.base.jG⟩,⟨m,hn.sameBut hs (fe (pQ x c hc)),λj y v' e1 e2 e3=>?_⟩,λy c' e=>?_,I.free,I.l6,λp hp=>?_,Kl ⟨oc,Kn,I.l6 x c hc⟩ hs,by simpa using I.len⟩ ⟨c,hs,.inr hc⟩
  ·exact(hs.2 b (fK (jF (dH e) (I.ok.wK x c wO hc)))).trans (I.base.keep b o e n hb hx)
  ·obtain⟨sl,e1⟩:=I.base.slot b o e n hb hx;exact⟨sl,(hs.2 b (fK (jF (dH e) (I.ok.wK x c wO hc)))).trans e1⟩
  ·obtain⟨o',e1⟩:=I.base.there b o e hx;exact⟨o',(hs.2 b (fK (jF (dH e) (I.ok.wK x c wO hc)))).trans e1⟩
  ·by_cases hj:j=i
   ·subst hj;rw[hi]at e1;cases e1;rw[List.getElem?_set_self Kk]at e2;cases e2;exact⟨u,r,.inr ⟨.inl hk,c,hc,oQ⟩⟩
   ·rw[List.getElem?_set_ne (fe hj)]at e2;obtain⟨u',r',q⟩:=hl j y v' e1 e2 e3;refine⟨u',r',?_⟩;rcases q with q|⟨k,c',e,z'⟩
    ·exact .inl q
    ·refine .inr ⟨k,c',e,z'.sameBut hs ?_⟩;rintro rfl;exact hj (Dx hN e1 (I.ok.inj _ _ _ e hc▸hi))
  ·by_cases Ko:c'=c
   ·subst Ko;exact⟨_,oQ⟩
   ·obtain⟨w2,z2⟩:=I.cell y c' e;exact⟨w2,z2.sameBut hs Ko⟩
  ·obtain⟨e,n,ne,nf,d⟩:=I.pin p hp;refine⟨(hs.2 p.1 ?_).trans e,n,ne,nf,d⟩;intro q;rw[q,Kn]at e;have q':oc=p.2:=eF e;exact d w' (by rw[<- q'];exact Tw)
theorem uF(I:Inv X bc σ H s)(hN:X.N.Nodup)(hi:X.N[i]?=some x)(hx:Loc X.env.scope x)(r:RelV v u)
  (h:∀s',Inv X bc (σ.set i (some v)) H s'->Q () s') (hf:X.fn x=true\/X.env.scope.names.lookup x=some .local:=by first|exact .inl rfl|exact .inr rfl|assumption):wpAny M A (storeName X.env x u) Q E s:=
 Kj I hN hi hx r (λs' I' _=>h s' I') hf
theorem Inv.Kq{s':Shared}(I:Inv X bc σ H s)(ho:s'.os=s.os)(u:Un (gq X.stack) ch H H' s.heap s'.heap)(bZ:dN X.prog X.w H' s'.heap)(hg:AllBare s'.gens)
  (oP:∀b∈ch,(b∈X.ex\/X.s₀.heap.objs.size<=b)/\b≠X.env.locals/\(∀x c,X.env.cells.lookup x=some c->c≠b)/\∀p∈X.pn++bc,p.1≠b):Inv X bc σ H' s':=by
 obtain⟨h',g',d',t',o'⟩:=s';have e:o'=s.os:=ho;subst e;exact I.call (g':=g') (t':=t') (d':=d') u bZ hg oP
end
abbrev XK:=Value->Option Addr->Hp->Prop
abbrev St:=List (Option V)
abbrev VK:=V->Hp->Prop
abbrev TE:=St->Hp->VK->Prop
abbrev TT:=St->Hp->(Bool->Hp->Prop)->Prop
abbrev TA:=St->Hp->(List V->Hp->Prop)->Prop
structure Ends where
 nx:St->Hp->Prop
 rt:VK
 bk:St->Hp->Prop:=λ_ _=>False
 ct:St->Hp->Prop:=λ_ _=>False
abbrev TS:=Ends->St->Hp->Prop
def EP(X:Cx)(bc:List (Addr×Obj))(σ:St)(Q:VK)(u:Value)(s':Shared):Prop:=∃v H',Inv X bc σ H' s'/\RelV v u/\Q v H'
def TP(X:Cx)(bc:List (Addr×Obj))(σ:St)(Q:Bool->Hp->Prop)(b:Bool)(s':Shared):Prop:=∃H',Inv X bc σ H' s'/\Q b H'
def AP(X:Cx)(bc:List (Addr×Obj))(σ:St)(Q:List V->Hp->Prop)(us:List Value)(s':Shared):Prop:=∃vs H',Inv X bc σ H' s'/\Vals vs us/\Q vs H'
def SP(X:Cx)(bc:List (Addr×Obj))(D:Ends)(f:Flow)(s':Shared):Prop:=
 match f with
 | .next=>∃σ' H',Inv X bc σ' H' s'/\D.nx σ' H'
 | .brk=>∃σ' H',Inv X bc σ' H' s'/\D.bk σ' H'
 | .cont=>∃σ' H',Inv X bc σ' H' s'/\D.ct σ' H'
 | .ret u=>∃v σ' H',Inv X bc σ' H' s'/\RelV v u/\D.rt v H'
def PE(X:Cx)(e:Expr)(t:TE):Prop:=
 ∀(bc:List (Addr×Obj))(s:Shared)(σ:St)(H:Hp)(Q:VK),Inv X bc σ H s->t σ H Q->wpAny (model X.prog X.w) X.A (eval e X.env) (EP X bc σ Q) X.xe s
def PT(X:Cx)(e:Expr)(t:TT):Prop:=
 ∀(bc:List (Addr×Obj))(s:Shared)(σ:St)(H:Hp)(Q:Bool->Hp->Prop),Inv X bc σ H s->t σ H Q->wpAny (model X.prog X.w) X.A (isTrue e X.env (eval e X.env)) (TP X bc σ Q) X.xe s
def PW(X:Cx)(e:Expr)(t:TT):Prop:=
 ∀(rY:Sem Value)(bc:List (Addr×Obj))(s:Shared)(σ:St)(H:Hp)(Q:Bool->Hp->Prop),Inv X bc σ H s->t σ H Q->wpAny (model X.prog X.w) X.A (isTrue e X.env rY) (TP X bc σ Q) X.xe s
theorem PW.pt{t:TT}(h:PW X e t):PT X e t:=h _
def PA(X:Cx)(es:List Expr)(t:TA):Prop:=
 ∀(pos:Pos)(bc:List (Addr×Obj))(s:Shared)(σ:St)(H:Hp)(Q:List V->Hp->Prop),Inv X bc σ H s->t σ H Q->wpAny (model X.prog X.w) X.A (spliced (backTo pos (starEach es X.env))) (AP X bc σ Q) X.xe s
def PS(X:Cx)(st:Stmt)(t:TS):Prop:=
 ∀(bc:List (Addr×Obj))(s:Shared)(σ:St)(H:Hp)(D:Ends),Inv X bc σ H s->t D σ H->wpAny (model X.prog X.w) X.A (exec st X.env) (SP X bc D) X.xe s
def jW(X:Cx)(st:List Stmt)(t:TS):Prop:=
 ∀(bc:List (Addr×Obj))(s:Shared)(σ:St)(H:Hp)(D:Ends),Inv X bc σ H s->t D σ H->wpAny (model X.prog X.w) X.A (execs st X.env) (SP X bc D) X.xe s
theorem bj{α:Type}{t:Sem α}{Q Q':α->Shared->Prop}(h:wpAny M A t Q E s)(hQ:∀a s,Q a s->Q' a s):wpAny M A t Q' E s:=ag h hQ λ_ _ x=>x
section
variable{X:Cx}
theorem bin{a b:Expr}{ta tb:TE}(ha:PE X a ta)(hb:PE X b tb){R:V->V->Hp->Prop}(I:Inv X bc σ H s)(h:ta σ H λx H1=>tb σ H1 λy H2=>R x y H2)
  {α:Type} {Q:α->Shared->Prop} {f:Value->Value->Sem α}
  (hf:∀v u s2 x y H2,Inv X bc σ H2 s2->RelV x v->RelV y u->R x y H2->wpAny (model X.prog X.w) X.A (f v u) Q X.xe s2) :
  wpAny (model X.prog X.w) X.A (eval a X.env) (λv s₁=>wpAny (model X.prog X.w) X.A (eval b X.env) (λu s₂=>wpAny (model X.prog X.w) X.A (f v u) Q X.xe s₂) X.xe s₁) X.xe s:=by
 refine bj (ha bc s σ H _ I h) λv s1 ⟨x,H1,I1,r1,q1⟩=>?_;refine bj (hb bc s1 σ H1 _ I1 q1) λu s2 ⟨y,H2,I2,r2,q2⟩=>?_;exact hf v u s2 x y H2 I2 r1 r2 q2
def br(i:Nat):TE:=λσ H Q=>∃v,σ[i]?=some (some v)/\Q v H
def tC(v:V):TE:=λ_ H Q=>Q v H
theorem Kr{pos:Pos}(hN:X.N[i]?=some x)(hv:rT X.env.scope x)(hd:(x==("__debug__":Str))=false:=by decide)(iA:(x==("__classdict__":Str))=false:=by decide):PE X (.Name x pos) (br i):=by
 intro bc s σ H Q I h;obtain⟨v,e,h⟩:=h;obtain⟨m,hn,hl⟩:=I.loc;obtain⟨u,r,l⟩:=hl i x v hN e hv;have fin:EP X bc σ Q u s:=⟨v,H,I,r,h⟩;rcases l with⟨hk,hm⟩|⟨hk,c,hc,zP⟩
 ·exact wpAny_Name (wpAny_loadName_local I.ok.kind hk hn hm fin) hd
 ·rcases hk with hk|hk
  ·exact wpAny_Name (wpAny_loadName_cell I.ok.kind hk hc zP fin) hd
  ·exact wpAny_Name (wpAny_loadName_free I.ok.kind hk hc zP fin iA) hd
theorem bp{i j pos}:PE X (.Constant (.int i) j pos) (tC (.int i)):=λ_ _ _ H _ I h=>wpAny_Constant_int ⟨.int i,H,I.tok _,⟨_,rfl⟩,h⟩
theorem rZ{b j pos}:PE X (.Constant (.bool b) j pos) (tC (.bl b)):=λ_ _ _ H _ I h=>Constant_bool ⟨.bl b,H,I,rfl,h⟩
theorem gW{j pos}:PE X (.Constant .none j pos) (tC .cC):=λ_ _ _ H _ I h=>Constant_none ⟨.cC,H,I,rfl,h⟩
theorem bI{x j pos}:PE X (.Constant (.str x) j pos) (tC (.str x)):=λ_ _ _ H _ I h=>Calls.Constant_str ⟨.str x,H,I.tok _,⟨_,rfl⟩,h⟩
def Gl(X:Cx)(x:Str):Prop:=X.env.kindOf x=some .globalImplicit
theorem uG{pos:Pos}{Q:QV}(I:Inv X bc σ H s)(hg:Gl X x)(hm:X.mg x=some u)(h:Q u s)
  (hd:(x==("__debug__":Str))=false:=by decide):wpAny (model X.prog X.w) X.A (eval (.Name x pos) X.env) Q E s:=
 Calls.Name_function_global I.ok.kind hg (Calls.loadGlobal_global (by rw[I.ok.glob];exact I.mod.glob.keeps I.bk) hm h) hd
theorem pR{pos:Pos}{Q:QV}(I:Inv X bc σ H s)(hg:Gl X x)(hm:X.mg x=none)(hv:bootBuiltins x=some u)(h:Q u s)
  (hn:x ≠ "__name__":=by decide) (hd:(x==("__debug__":Str))=false:=by decide):wpAny (model X.prog X.w) X.A (eval (.Name x pos) X.env) Q E s:=by
 obtain⟨mb,h1,h2⟩:=I.mod.blt;exact Calls.Name_function_global I.ok.kind hg (Calls.loadGlobal_builtin (by rw[I.ok.glob];exact I.mod.glob.keeps I.bk) hm (by rw[I.ok.blt];exact h1.keeps I.bk) ((h2 x hn).trans hv) h) hd
theorem jX{pos:Pos}(hg:Gl X x)(hm:X.mg x=some u)(r:RelV v u)(hd:(x==("__debug__":Str))=false:=by decide):PE X (.Name x pos) (tC v):=
 λ_ _ _ H _ I h=>uG I hg hm ⟨v,H,I,r,h⟩ hd
theorem Tx{pos:Pos}(hg:Gl X x)(hm:X.mg x=none)(hv:bootBuiltins x=some u)(r:RelV v u)(hn:x ≠ "__name__":=by decide)(hd:(x==("__debug__":Str))=false:=by decide):PE X (.Name x pos) (tC v):=
 λ_ _ _ H _ I h=>pR I hg hm hv ⟨v,H,I,r,h⟩ hn hd
def Tz(ta tb:TE)(k:Int->Int->Hp->Prop):St->Hp->Prop:=λσ H=>ta σ H λx H1=>tb σ H1 λy H2=>∃i j,x=.int i/\y=.int j/\k i j H2
variable{a b:Expr}{ta tb:TE}{pos:Pos}
def PC(X:Cx)(op:CmpOp)(a b:Expr)(t:TE):Prop:=
 ∀(bc:List (Addr×Obj))(s:Shared)(σ:St)(H:Hp)(Q:VK),Inv X bc σ H s->t σ H Q->
  wpAny (model X.prog X.w) X.A (eval a X.env) (λv s₁=>wpAny (model X.prog X.w) X.A (eval b X.env) (λu s₂=>wpAny (model X.prog X.w) X.A (compareOp op v u) (EP X bc σ Q) X.xe s₂) X.xe s₁) X.xe s
theorem TC(b:Expr)(h:op≠.In)(h2:op≠.NotIn):behindInMarks op b=false:=by
 have e1:(op==CmpOp.In)=false:=by cases op<;>first|rfl|exact absurd rfl h
 have e2:(op==CmpOp.NotIn)=false:=by cases op<;>first|rfl|exact absurd rfl h2
 cases b<;>simp[behindInMarks,e1,e2]
def Ks(p:Int->Int->Bool)(ta tb:TE):TE:=λσ H Q=>Tz ta tb (λi j H2=>Q (.bl (p i j)) H2) σ H
abbrev TF:TE->TE->TE:=Ks λi j=>decide (i<=j)
theorem TH{p:Int->Int->Bool}(ha:PE X a ta)(hb:PE X b tb)
  (rule:∀(i j:Int)(t u:Tok)(Q:QV)(s:Shared),Q (.bool (p i j)) s->wpAny (model X.prog X.w) X.A (compareOp op (.int i t) (.int j u)) Q X.xe s):PC X op a b (Ks p ta tb):=by
 intro bc s σ H Q I h;refine bin ha hb I h λv u s2 x y H2 I2 rx ry q=>?_;obtain⟨i,j,rfl,rfl,q⟩:=q;obtain⟨t,rfl⟩:=rx;obtain⟨t',rfl⟩:=ry;exact rule i j t t' _ s2 ⟨.bl _,H2,I2,rfl,q⟩
theorem Kt(ha:PE X a ta)(hb:PE X b tb):PC X .LtE a b (TF ta tb):=TH ha hb λ_ _ _ _ _ _ h=>le_int h
def tB(t:TE):TT:=λσ H Q=>t σ H λx H1=>∃c,x=.bl c/\Q c H1
theorem Dz{t:TE}(h:PC X op a b t)(h1:behindInMarks op b=false:=by first|exact TC _ (by decide) (by decide)|rfl):PT X (.Compare a [op] [b] pos) (tB t):=by
 intro bc s σ H Q I hw;refine wpAny_isTrue_Compare1 (bj (h bc s σ H _ I hw) λv s1 h1=>bj h1 λu s2 h2=>bj h2 λc s3 ⟨x,H1,I1,r1,q1⟩=>?_) h1;obtain⟨d,rfl,q⟩:=q1;cases r1;exact ah ⟨H1,I1,q⟩
theorem oS{t:TE}(h:PE X e t)(he:∀rY,isTrue e X.env rY=(do let v <- rY;standAt e.pos;holding [v] (truthy v)):=by intro _;rfl):PT X e (tB t):=by
 intro bc s σ H Q I hw;refine isTrue_plain (bj (h bc s σ H _ I hw) λv s1 ⟨x,H1,I1,r1,q1⟩=>?_) (he _);obtain⟨d,rfl,q⟩:=q1;cases r1;exact ah ⟨H1,I1,q⟩
variable{tA zQ:TT}{cG:List Expr}
def eh(t u:TT):TT:=λσ H Q=>t σ H λc H1=>if c=true then u σ H1 Q else Q false H1
def DA(t u:TT):TT:=λσ H Q=>t σ H λc H1=>if c=true then Q true H1 else u σ H1 Q
def Ku(t:TT):TT:=λσ H Q=>t σ H λc H1=>Q (!c) H1
theorem iB(ha:PT X a tA):PW X (.BoolOp .And [a] pos) tA:=by
 intro wh bc s σ H Q I h;refine isTrue_and (bj (ha bc s σ H Q I h) λc s1 e=>?_);cases c with
 |true=>exact isTrue_and_nil e
 |false=>exact e
theorem DB(ha:PT X a tA):PW X (.BoolOp .Or [a] pos) tA:=by
 intro wh bc s σ H Q I h;refine isTrue_or (bj (ha bc s σ H Q I h) λc s1 e=>?_);cases c with
 |false=>exact isTrue_or_nil e
 |true=>exact e
theorem fQ(ha:PT X a tA)(hb:PW X (.BoolOp .And (b::cG) pos) zQ):PW X (.BoolOp .And (a::b::cG) pos) (eh tA zQ):=by
 intro wh bc s σ H Q I h;refine isTrue_and (bj (ha bc s σ H _ I h) λc s1 ⟨H1,I1,q1⟩=>?_);cases c with
 |true=>exact hb wh bc s1 σ H1 Q I1 q1
 |false=>exact⟨H1,I1,q1⟩
theorem wQ(ha:PT X a tA)(hb:PW X (.BoolOp .Or (b::cG) pos) zQ):PW X (.BoolOp .Or (a::b::cG) pos) (DA tA zQ):=by
 intro wh bc s σ H Q I h;refine isTrue_or (bj (ha bc s σ H _ I h) λc s1 ⟨H1,I1,q1⟩=>?_);cases c with
 |true=>exact⟨H1,I1,q1⟩
 |false=>exact hb wh bc s1 σ H1 Q I1 q1
theorem zR(ha:PT X a tA):PT X (.UnaryOp .Not a pos) (Ku tA):=by
 intro bc s σ H Q I h;exact isTrue_not (ha bc s σ H (λc H1=>Q (!c) H1) I h)
def TJ(ta tb:TE):TE:=λσ H Q=>ta σ H λx H1=>∃c,x=.bl c/\if c=true then tb σ H1 Q else Q (.bl false) H1
theorem Kv{op}{t:TE}(h:PE X a t):PE X (.BoolOp op [a] pos) t:=λbc s σ H Q I hw=>BoolOp_one (h bc s σ H Q I hw)
theorem DC(ha:PE X a ta)(hb:PE X (.BoolOp .And (b::cG) pos) tb):PE X (.BoolOp .And (a::b::cG) pos) (TJ ta tb):=by
 intro bc s σ H Q I h;refine BoolOp_and (bj (ha bc s σ H _ I h) λv s1 ⟨x,H1,I1,r1,q1⟩=>?_);obtain⟨c,rfl,q1⟩:=q1;cases r1;refine ah ?_;cases c with
 |true=>exact hb bc s1 σ H1 Q I1 q1
 |false=>exact⟨.bl false,H1,I1,rfl,q1⟩
def TK(t:TT)(ta tb:TE):TE:=λσ H Q=>t σ H λc H1=>if c=true then ta σ H1 Q else tb σ H1 Q
theorem Kw(hc:PT X c tA)(ha:PE X a ta)(hb:PE X b tb):PE X (.IfExp c a b pos) (TK tA ta tb):=by
 intro bc s σ H Q I h;refine wpAny_IfExp (bj (hc bc s σ H _ I h) λd s1 ⟨H1,I1,q1⟩=>?_);cases d with
 |true=>exact ha bc s1 σ H1 Q I1 q1
 |false=>exact hb bc s1 σ H1 Q I1 q1
end
def dC(K:Frag)(H:Hp)(a:Addr)(xs:List V):Prop:=
 Rd H a (.lst xs) \/
  ∃(o:Obj)(its:Array Value)(n:Nat),K.lookup a=some o/\o.cls=.type "list"/\o.dict=none/\o.data=.seq its n/\its.size<=sizeLine/\Vals xs its.toList
def cg(K:Frag)(H:Hp)(a:Addr)(xs:List V):Prop:=
 Rd H a (.tup xs) \/
  ∃(o:Obj)(its:Array Value)(n:Nat),K.lookup a=some o/\o.cls=.type "tuple"/\o.data=.seq its n/\its.size<=sizeLine/\Vals xs its.toList
noncomputable def uH:Value->Option V
 | .none=>some .cC
 | .bool b=>some (.bl b)
 | .int i _=>some (.int i)
 | .str x _=>some (.str x)
 | .bytes b _=>some (.lY b)
 | .float b _=>some (.uy b)
 | .ref a=>some (.ref a)
 | .type n=>some (.ty n)
 |_=>none
theorem RelV.abs{x:V}(r:RelV x u):uH u=some x:=by
 cases x with
 |cC=>cases r;rfl
 |bl _=>cases r;rfl
 |int _=>obtain⟨t,rfl⟩:=r;rfl
 |str _=>obtain⟨t,rfl⟩:=r;rfl
 |lY _=>obtain⟨t,rfl⟩:=r;rfl
 |uy _=>obtain⟨t,rfl⟩:=r;rfl
 |ref _=>cases r;rfl
 |ty _=>cases r;rfl
theorem RelV.inj{x y:V}{u:Value}(r:RelV x u)(q:RelV y u):x=y:=eF (r.abs.symm.trans q.abs)
theorem Vals.inj:∀{xs ys:List V}{us:List Value},Vals xs us->Vals ys us->xs=ys
 |_,_,_,.nil,.nil=>rfl
 |_,_,_,.cons r t,.cons r' t'=>by rw[r.inj r',Vals.inj t t']
section
variable{X:Cx}{bc:List (Addr×Obj)}{σ:St}{H:Hp}{s:Shared}{a:Addr}{xs ys:List V}
theorem dC.of{K:Frag}(h:H a=some (.lst xs)):dC K H a xs:=.inl (.inl h)
theorem cg.of{K:Frag}(h:H a=some (.tup xs)):cg K H a xs:=.inl (.inl h)
theorem Inv.list(I:Inv X bc σ H s)(h:dC X.K H a xs):∃its:List Value,Vals xs its/\PlainL s.heap a its.toArray/\xs.length<=sizeLine:=by
 rcases h with h|⟨o,its,n,hk,hc,hd,hs,hz,r⟩
 ·obtain⟨z,its,n,r,e⟩:=h.ok I.bZ;exact⟨its,r,⟨_,n,e,rfl,rfl,rfl⟩,z⟩
 ·refine⟨its.toList,r,⟨o,n,I.eK a o hk,hc,hd,by simpa using hs⟩,?_⟩;have e:=r.length;simp only[pK]at e;lia
theorem Inv.tuple(I:Inv X bc σ H s)(h:cg X.K H a xs):∃its:List Value,Vals xs its/\IsTup s.heap a its.toArray/\xs.length<=sizeLine:=by
 rcases h with h|⟨o,its,n,hk,hc,hs,hz,r⟩
 ·obtain⟨z,its,r,p⟩:=h.ok I.bZ;exact⟨its,r,p.tup,z⟩
 ·refine⟨its.toList,r,⟨o,I.eK a o hk,hc,n,by simpa using hs⟩,?_⟩;have e:=r.length;simp only[pK]at e;lia
theorem Inv.TL(I:Inv X bc σ H s)(h:dC X.K H a xs)(h':dC X.K H a ys):xs=ys:=by
 obtain⟨its,r,⟨o,n,e,_,_,d⟩,_⟩:=I.list h;obtain⟨its',r',⟨o',n',e',_,_,d'⟩,_⟩:=I.list h';rw[e]at e';cases e';rw[d]at d';injection d' with d1 _
 have:its=its':=by simpa using ai Array.toList d1
 subst this;exact r.inj r'
theorem Inv.TM(I:Inv X bc σ H s)(h:cg X.K H a xs)(h':cg X.K H a ys):xs=ys:=by
 obtain⟨its,r,⟨o,e,_,n,d⟩,_⟩:=I.tuple h;obtain⟨its',r',⟨o',e',_,n',d'⟩,_⟩:=I.tuple h';rw[e]at e';cases e';rw[d]at d';injection d' with d1 _
 have:its=its':=by simpa using ai Array.toList d1
 subst this;exact r.inj r'
end
noncomputable abbrev Cx.oU(X:Cx)(E:QV):Cx:={ X with xe:=E }
noncomputable abbrev Cx.qw(X:Cx):Cx:=X.oU λ_ _=>False
theorem Cx.Ok.oU{X:Cx}(ok:X.Ok)(E:QV):(X.oU E).Ok:=
 ⟨ok.mod,ok.kind,ok.glob,ok.blt,ok.above,ok.inj,ok.has,ok.wK,ok.hd,ok.frames,ok.uC,ok.wL,ok.bs,ok.qv,ok.wM,ok.uD,ok.mZ,ok.rV⟩
theorem Cx.Ok.qx(ok:(X.oU E).Ok):X.Ok:=
 ⟨ok.mod,ok.kind,ok.glob,ok.blt,ok.above,ok.inj,ok.has,ok.wK,ok.hd,ok.frames,ok.uC,ok.wL,ok.bs,ok.qv,ok.wM,ok.uD,ok.mZ,ok.rV⟩
section
variable{X:Cx}{bc:List (Addr×Obj)}{σ:St}{H:Hp}{s:Shared}{E:QV}
theorem Inv.oU(I:Inv X bc σ H s)(E:QV):Inv (X.oU E) bc σ H s:=⟨I.ok.oU E,I.os,I.bare,I.base,I.loc,I.cell,I.free,I.l6,I.pin,I.bZ,I.len⟩
theorem Inv.qx(I:Inv (X.oU E) bc σ H s):Inv X bc σ H s:=⟨I.ok.qx,I.os,I.bare,I.base,I.loc,I.cell,I.free,I.l6,I.pin,I.bZ,I.len⟩
theorem SP.qx{D:Ends}{f:Flow}{s':Shared}(h:SP (X.oU E) bc D f s'):SP X bc D f s':=by
 cases f with
 |next=>obtain⟨σ',H',I,q⟩:=h;exact⟨σ',H',I.qx,q⟩
 |brk=>obtain⟨σ',H',I,q⟩:=h;exact⟨σ',H',I.qx,q⟩
 |cont=>obtain⟨σ',H',I,q⟩:=h;exact⟨σ',H',I.qx,q⟩
 |ret u=>obtain⟨v,σ',H',I,r,q⟩:=h;exact⟨v,σ',H',I.qx,r,q⟩
theorem jW.qw{st:List Stmt}{t:TS}(h:jW X.qw st t):jW X st t:=λbc s σ H D I hw=>
 ag (h bc s σ H D (I.oU _) hw) (λ_ _ q=>q.qx) λ_ _ z=>False.elim z
end
section
variable{X:Cx}{st:Stmt}{cG:List Stmt}{t u:TS}{e:Expr}{te:TE}{pos:Pos}
def eA:TS:=λD σ H=>D.nx σ H
def cu(t u:TS):TS:=λD σ H=>t { D with nx:=u D } σ H
theorem cW:jW X [] eA:=λ_ _ σ H _ I h=>aj ⟨σ,H,I,h⟩
theorem bD(h1:PS X st t)(h2:jW X cG u):jW X (st::cG) (cu t u):=by
 intro bc s σ H D I h;refine wpAny_execs_cons (bj (h1 bc s σ H { D with nx:=u D } I h) λf s1 q=>?_);cases f with
 |next=>
  obtain⟨σ',H',I',q⟩:=q;exact h2 bc s1 σ' H' D I' q
 |ret v=>exact q
 |brk=>exact q
 |cont=>exact q
theorem bK(h1:PS X st t):jW X [st] t:=by
 intro bc s σ H D I h;refine wpAny_execs_cons (bj (h1 bc s σ H D I h) λf s1 q=>?_);cases f with
 |next=>exact aj q
 |ret v=>exact q
 |brk=>exact q
 |cont=>exact q
theorem Inv.quiet(I:Inv X bc σ H s):interactive X.env=false:=by simp[interactive,I.ok.kind]
def r6(te:TE):TS:=λD σ H=>te σ H λ_ H1=>D.nx σ H1
theorem l7(he:PE X e te)(hs:swapsWith e none pos.line X.env=pure false:=by rfl):PS X (.Expr e pos) (r6 te):=by
 intro bc s σ H D I h;exact wpAny_Expr_any (bj (he bc s σ H _ I h) λv s1 ⟨x,H1,I1,r1,q1⟩=>⟨σ,H1,I1,q1⟩) I.quiet hs
def dG(te:TE):TS:=λD σ H=>te σ H D.rt
theorem cE(he:PE X e te):PS X (.Return (some e) pos) (dG te):=by
 intro bc s σ H D I h;exact wpAny_Return_some (bj (he bc s σ H _ I h) λv s1 ⟨x,H1,I1,r1,q1⟩=>⟨x,σ,H1,I1,r1,q1⟩)
def cU(c:TT)(t u:TS):TS:=λD σ H=>c σ H λb H1=>if b=true then t D σ H1 else u D σ H1
theorem cO{a b:List Stmt}{tc:TT}(hc:PT X c tc)(ha:jW X a t)(hb:jW X b u):PS X (.If c a b pos) (cU tc t u):=by
 intro bc s σ H D I h;refine wpAny_If (bj (hc bc s σ H _ I h) λd s1 ⟨H1,I1,q1⟩=>?_);cases d with
 |true=>exact ha bc s1 σ H1 D I1 q1
 |false=>exact hb bc s1 σ H1 D I1 q1
end
abbrev TG:=V->St->Hp->(St->Hp->Prop)->Prop
abbrev oV:=List V->St->Hp->(St->Hp->Prop)->Prop
def PG(X:Cx)(target:Expr)(t:TG):Prop:=
 ∀(bc:List (Addr×Obj))(s:Shared)(σ:St)(H:Hp)(v:V)(u:Value)(Q:St->Hp->Prop),Inv X bc σ H s->RelV v u->t v σ H Q->
  wpAny (model X.prog X.w) X.A (assign target X.env u) (λ_ s'=>∃σ' H',Inv X bc σ' H' s'/\Q σ' H') X.xe s
def uI(X:Cx)(ts:List Expr)(t:oV):Prop:=
 ∀(bc:List (Addr×Obj))(s:Shared)(σ:St)(H:Hp)(vs:List V)(us:List Value)(Q:St->Hp->Prop),Inv X bc σ H s->Vals vs us->t vs σ H Q->
  wpAny (model X.prog X.w) X.A (assignInOrder ((assignEach ts X.env).map (·.2)) us) (λ_ s'=>∃σ' H',Inv X bc σ' H' s'/\Q σ' H') X.xe s
abbrev DE:=V->V->V->Hp->(Hp->Prop)->Prop
def Kx(X:Cx)(t:DE):Prop:=
 ∀(bc:List (Addr×Obj))(s:Shared)(σ:St)(H:Hp)(o i v:V)(ov iv u:Value)(Q:Hp->Prop),Inv X bc σ H s->RelV o ov->RelV i iv->RelV v u->t o i v H Q->
  wpAny (model X.prog X.w) X.A (setItem ov iv u) (λ_ s'=>∃H',Inv X bc σ H' s'/\Q H') X.xe s
abbrev zS:=V->V->Hp->VK->Prop
def DF(X:Cx)(op:Operator)(t:zS):Prop:=
 ∀(bc:List (Addr×Obj))(s:Shared)(σ:St)(H:Hp)(x y:V)(v u:Value)(Q:VK),Inv X bc σ H s->RelV x v->RelV y u->t x y H Q->
  wpAny (model X.prog X.w) X.A (inplaceOp op v u) (EP X bc σ Q) X.xe s
section
variable{X:Cx}{pos:Pos}
def bY(i:Nat):TG:=λv σ H Q=>Q (σ.set i (some v)) H
theorem eL(hN:X.N.Nodup)(hi:X.N[i]?=some x)(hx:Loc X.env.scope x)(hf:X.fn x=true\/X.env.scope.names.lookup x=some .local:=by first|exact .inl rfl|exact .inr rfl|assumption):PG X (.Name x pos) (bY i):=by
 intro bc s σ H v u Q I r h;exact wpAny_assign_Name (uF I hN hi hx r (λs' I'=>⟨_,H,I',h⟩) hf)
def qy:oV:=λvs σ H Q=>vs=[]/\Q σ H
def iR(t:TG)(u:oV):oV:=λvs σ H Q=>∃v r,vs=v::r/\t v σ H λσ' H'=>u r σ' H' Q
theorem wR:uI X [] qy:=by
 intro bc s σ H vs us Q I r h;obtain⟨e,h⟩:=h;subst e;cases r;exact assignInOrder_nil ⟨σ,H,I,h⟩
theorem lr{es:List Expr}{t:TG}{u:oV}(h1:PG X e t)(h2:uI X es u)
  (hs:(assignEach (e::es) X.env).map (·.2)=assign e X.env::(assignEach es X.env).map (·.2):=by rfl):uI X (e::es) (iR t u):=by
 intro bc s σ H vs us Q I r h;obtain⟨v,vr,e1,h⟩:=h;subst e1;cases r with
 |cons r rr=>
  rw[hs];refine assignInOrder_cons (bj (h1 bc s σ H _ _ _ I r h) λ_ s1 ⟨σ1,H1,I1,q1⟩=>?_);exact h2 bc s1 σ1 H1 _ _ Q I1 rr q1
def wU(K:Frag)(n:Nat)(t:oV):TG:=λv σ H Q=>∃a xs,v=.ref a/\cg K H a xs/\xs.length=n/\t xs σ H Q
theorem TN{es:List Expr}{k:Nat}{t:oV}(hc:X.calm=true)(h:uI X es t)
  (hn:(assignEach es X.env).length=n:=by rfl) (wV:(assignEach es X.env).findIdx? (·.1)=none:=by rfl):PG X (.Tuple es k pos) (wU X.K n t):=by
 intro bc s σ H v u Q I r hw;obtain⟨a,xs,e1,hq,hl,hw⟩:=hw;subst e1;cases r;obtain⟨its,rv,ht,hz⟩:=I.tuple hq;refine assign_Tuple_tuple (I.ok.hd hc) ht (by simp[hn,<- hl,rv.length]) wV λh' hx=>?_;have I1:Inv X bc σ H { s with heap:=h' }:=I.kept (t':=s.toks) λb o e=>hx b o (fK (dH e)) e;exact h bc _ σ H xs _ Q I1 (by simpa using rv) hw
def TQ(to ti:TE)(t:DE):TG:=λv σ H Q=>to σ H λo H1=>ti σ H1 λi H2=>t o i v H2 λH3=>Q σ H3
theorem TR{o i:Expr}{to ti:TE}{t:DE}(ho:PE X o to)(hi:PE X i ti)(hs:Kx X t)
  (ha:∀v,assign (.Subscript o i pos) X.env v=(do
   let ov <- holding [v] (eval o X.env)
   let iv <- holding [v,ov] (eval i X.env)
   standAt pos
   holding [v,ov,iv] (setItem ov iv v)
   release [v,ov,iv] []):=by intro _;rfl):PG X (.Subscript o i pos) (TQ to ti t):=by
 intro bc s σ H v u Q I r h;rw[ha];refine ak (ao (bj (ho bc s σ H _ I h) λov s1 ⟨x,H1,I1,r1,q1⟩=>?_));refine ak (ao (bj (hi bc s1 σ H1 _ I1 q1) λiv s2 ⟨y,H2,I2,r2,q2⟩=>?_));refine ak (wpAny_standAt (ak (ao (bj (hs bc s2 σ H2 x y v ov iv u _ I2 r1 r2 r q2) λ_ s3 ⟨H3,I3,q3⟩=>?_))));exact wpAny_release ⟨σ,H3,I3,q3⟩
def cR(te:TE)(g:TG):TS:=λD σ H=>te σ H λx H1=>g x σ H1 D.nx
theorem uJ(he:PE X e te)(hg:PG X tg g)(hs:swapsWithSole [tg] e pos.line X.env=pure false:=by rfl)(hw:swappedStores [tg] e X.env=pure none:=by rfl)
  (h1:(assignEach [tg] X.env).map (·.2)=[assign tg X.env]:=by rfl):PS X (.Assign [tg] e pos) (cR te g):=by
 intro bc s σ H D I h;refine wpAny_Assign_stores (bj (he bc s σ H _ I h) λv s1 ⟨x,H1,I1,r1,q1⟩=>?_) hs hw;rw[h1];exact bj (hg bc s1 σ H1 x v _ I1 r1 q1) λ_ s2 q=>q
theorem cx{jY:Pos}(hN:X.N.Nodup)(hi:X.N[i]?=some x)(hx:Loc X.env.scope x)(he:PE X e te)(hs:swapsWith e (some (.Name x jY)) pos.line X.env=pure false:=by rfl)(hf:X.fn x=true\/X.env.scope.names.lookup x=some .local:=by first|exact .inl rfl|exact .inr rfl|assumption) :
  PS X (.Assign [.Name x jY] e pos) (cR te (bY i)):=by
 intro bc s σ H D I h;refine wpAny_Assign_Name (bj (he bc s σ H _ I h) λv s1 ⟨y,H1,I1,r1,q1⟩=>?_) hs;exact uF I1 hN hi hx r1 (λs2 I2=>⟨_,H1,I2,q1⟩) hf
def TU(i:Nat)(te:TE)(ti:zS):TS:=λD σ H=>∃x,σ[i]?=some (some x)/\te σ H λy H1=>ti x y H1 λz H2=>D.nx (σ.set i (some z)) H2
theorem DG{op:Operator}{ti:zS}{jY:Pos}(hN:X.N.Nodup)(hi:X.N[i]?=some x)(hx:Loc X.env.scope x)(he:PE X e te)(ho:DF X op ti)(hf:X.fn x=true\/X.env.scope.names.lookup x=some .local:=by first|exact .inl rfl|exact .inr rfl|assumption) :
  PS X (.AugAssign (.Name x jY) op e pos) (TU i te ti):=by
 intro bc s σ H D I h;obtain⟨v,e1,h⟩:=h;obtain⟨m,hn,hl⟩:=I.loc;have TV:rT X.env.scope x:=by rcases hx with k|k;exact .inl k;exact .inr (.inl k)
 obtain⟨u,r,l⟩:=hl i x v hi e1 TV;refine wpAny_AugAssign_Name ?_;have go:wpAny (model X.prog X.w) X.A (eval e X.env) (λw s₂=>wpAny (model X.prog X.w) X.A (inplaceOp op u w) (λr s₃=>wpAny (model X.prog X.w) X.A (storeName X.env x r) (λ_=>SP X bc D .next) X.xe s₃) X.xe s₂) X.xe s:=by
  refine bj (he bc s σ H _ I h) λw s1 ⟨y,H1,I1,r1,q1⟩=>?_;refine bj (ho bc s1 σ H1 v y u w _ I1 r r1 q1) λz s2 ⟨zv,H2,I2,r2,q2⟩=>?_;exact uF I2 hN hi hx r2 (λs3 I3=>⟨_,H2,I3,q2⟩) hf
 rcases l with⟨hk,hm⟩|⟨hk,c,hc,zP⟩
 ·exact wpAny_loadName_local I.ok.kind hk hn hm go
 ·rcases hk with hk|hk
  ·exact wpAny_loadName_cell I.ok.kind hk hc zP go
  ·rcases hx with k|k
   ·have:X.env.scope.names.lookup x=some .free:=hk
    rw[k]at this;cases this
   ·have:X.env.scope.names.lookup x=some .free:=hk
    rw[k]at this;cases this
def TX(f:Int->Int->Int):zS:=λx y H Q=>∃i j,x=.int i/\y=.int j/\Q (.int (f i j)) H
theorem Ky:DF X .Add (TX λi j=>i+j):=by
 intro bc s σ H x y v u Q I r1 r2 h;obtain⟨i,j,e1,e2,q⟩:=h;subst e1;subst e2;obtain⟨t,rfl⟩:=r1;obtain⟨t',rfl⟩:=r2;exact iadd_int ⟨.int _,H,I.tok _,⟨_,rfl⟩,q⟩
end
section
variable{X:Cx}{pos:Pos}
def Kz(c:TT)(tb:TS):TS:=λD σ H=>∃W:Nat->St->Hp->Prop,(∃m,W m σ H)/\∀m σ H,W m σ H->
 c σ H λb H1=>if b=true then ∃N:St->Hp->Prop,(∀σ' H',N σ' H'->∃m',m'<m/\W m' σ' H')/\tb { D with nx:=N,ct:=N,bk:=D.nx } σ H1 else D.nx σ H1
theorem KA{tc:TT}(hp:PassesOwn (model X.prog X.w) X.A X.env X.xe)(hc:PT X c tc)(hb:jW X body tb):PS X (.While c body [] pos) (Kz tc tb):=by
 intro bc s σ H D I h;obtain⟨W,⟨m0,w0⟩,nP⟩:=h;refine wpAny_While (codeAny_whileLoop (λn s'=>∃σ' H',Inv X bc σ' H' s'/\W n σ' H') ?_ m0 ⟨σ,H,I,w0⟩);rintro n s1 ⟨σ1,H1,I1,w1⟩;refine aq hp (bj (hc bc s1 σ1 H1 _ I1 (nP n σ1 H1 w1)) λb s2 ⟨H2,I2,q2⟩=>?_);cases b with
 |true=>
  obtain⟨N,hN,q2⟩:=q2;rw[ae rfl];refine aq hp (bj (hb bc s2 σ1 H2 _ I2 q2) λf s3 q3=>?_);cases f with
  |next=>
   obtain⟨σ3,H3,I3,n3⟩:=q3;obtain⟨m',hm,w3⟩:=hN σ3 H3 n3;exact⟨m',hm,σ3,H3,I3,w3⟩
  |cont=>
   obtain⟨σ3,H3,I3,n3⟩:=q3;obtain⟨m',hm,w3⟩:=hN σ3 H3 n3;exact⟨m',hm,σ3,H3,I3,w3⟩
  |brk=>exact q3
  |ret v=>exact q3
 |false=>
  rw[af gN];exact aj ⟨σ1,H2,I2,q2⟩
end
structure It where
 go:Nat->Hp->Prop
 pS:Nat->Hp->V->Hp->Prop
 stop:Nat->Hp->Prop
def je(X:Cx)(bc:List (Addr×Obj))(H:Hp)(b:Addr):Prop:=
 H b=none/\b≠X.env.locals/\b ∉ X.fs/\(b∈X.ex\/X.s₀.heap.objs.size<=b)/\(∀x c,X.env.cells.lookup x=some c->c≠b)/\∀p∈X.pn++bc,p.1≠b
theorem Inv.l8{H':Hp}(I:Inv X bc σ H s)(hb:s.heap.objs.size<=b)(hn:H' b=none):je X bc H' b:=by
 refine⟨hn,Nat.ne_of_gt (jF I.lt hb),I.Tv hb,.inr (dj I.sz hb),λx c e z=>?_,λp hp z=>?_⟩
 ·obtain⟨v,q⟩:=I.cell x c e;exact absurd (jF q.lt (by rw[z];exact hb)) (Nat.lt_irrefl _)
 ·exact absurd (jF (dH (I.pin p hp).1) (by rw[z];exact hb)) (Nat.lt_irrefl _)
structure Turn(P:Program)(w:World)(K:Frag)(tg:Expr)(J:It)(fp:List Addr)(it:Addr)(tn:Nat->Heap->Prop):Prop where
 mem:it∈fp
 obj:∀i h,tn i h->∀b∈fp,∃o,h.get? b=some o/\∀v,o.data≠.cell v
 keep:∀i h h',tn i h->(∀b∈fp,∀o,h.get? b=some o->h'.get? b=some o)->tn i h'
 item:∀(X:Cx),X.prog=P->X.w=w->X.K=K->X.calm=true->∀(i:Nat)(bc:List (Addr×Obj))(s:Shared)(σ:St)(H:Hp)(E:QV),Inv X bc σ H s->(∀b∈fp,je X bc H b)->tn i s.heap->J.go i H->
  wpAny (model P w) X.A (pyNext (.ref it)) (λr s1=>∃u,r=some u/\
   wpAny (model P w) X.A (letOwnedTupleGo tg (.ref it) u) (λ_ s2=>∃x H',Inv X bc σ H' s2/\RelV x u/\J.pS i H x H'/\tn (i+1) s2.heap/\∀b∈fp,H' b=none) E s1) E s
 done:∀(X:Cx),X.prog=P->X.w=w->X.K=K->X.calm=true->∀(i:Nat)(bc:List (Addr×Obj))(s:Shared)(σ:St)(H:Hp)(E:QV),Inv X bc σ H s->(∀b∈fp,je X bc H b)->tn i s.heap->J.stop i H->
  wpAny (model P w) X.A (pyNext (.ref it)) (λr s1=>r=none/\Inv X bc σ H s1) E s
 self:∀(A:Around)(i:Nat)(s:Shared)(Q:QV)(E:QV),tn i s.heap->Q (.ref it) s->wpAny (model P w) A (pyIter (.ref it)) Q E s
abbrev TI:=St->Hp->(It->Hp->Prop)->Prop
def DH(X:Cx)(bc:List (Addr×Obj))(σ:St)(tg:Expr)(R:It->Hp->Prop)(zT:Value)(s2:Shared):Prop:=
 ∃(it:Addr)(fp:List Addr)(tn:Nat->Heap->Prop)(J:It)(H':Hp),zT=.ref it/\Inv X bc σ H' s2/\Turn X.prog X.w X.K tg J fp it tn/\tn 0 s2.heap/\(∀b∈fp,je X bc H' b)/\R J H'
def PI(X:Cx)(tg iter:Expr)(wi:TI):Prop:=
 ∀(bc:List (Addr×Obj))(s:Shared)(σ:St)(H:Hp)(R:It->Hp->Prop),Inv X bc σ H s->wi σ H R->
  wpAny (model X.prog X.w) X.A (eval iter X.env) (λv s1=>wpAny (model X.prog X.w) X.A (pyIter v) (DH X bc σ tg R) X.xe s1) X.xe s
theorem uK{it:Addr}{o:Obj}{n:String}{vs:Array Value}(ho:s.heap.get? it=some o)(hc:o.cls=.type n)(hd:o.data=.fields vs)
  (hn:["enumerate","zip","dict_itemiterator","dict_reverseitemiterator","odict_iterator","itertools.zip_longest","itertools.pairwise"].contains n=false) (hQ:Q () s):wpAny M A (letOwnedTupleGo tg (.ref it) u) Q E s:=by
 unfold letOwnedTupleGo;cases tg<;>first
  |exact au hQ
  |(cases u<;>first
    |exact au hQ
    |(refine ak (wpAny_load ho ?_);rw[hc,hd];show wpAny M A (if(["enumerate","zip","dict_itemiterator","dict_reverseitemiterator","odict_iterator","itertools.zip_longest","itertools.pairwise"].contains n&&vs[0]? == some (rawInt _))=true then _ else _) Q E s;rw[af (by intro h;rw[hn,Bool.false_and]at h;cases h)];exact au hQ))
noncomputable def uL(K:Frag)(a:Addr):It:=
 ⟨λi H=>∃xs x,dC K H a xs/\xs[i]?=some x,λi H x H'=>H'=H/\∀xs,dC K H a xs->xs[i]?=some x,λi H=>∃xs,dC K H a xs/\xs.length<=i⟩
noncomputable def wW(K:Frag)(a:Addr):It:=
 ⟨λi H=>∃xs x,cg K H a xs/\xs[i]?=some x,λi H x H'=>H'=H/\∀xs,cg K H a xs->xs[i]?=some x,λi H=>∃xs,cg K H a xs/\xs.length<=i⟩
noncomputable def qz(lo:Int)(n:Nat):It:=⟨λi _=>i<n,λi H x H'=>H'=H/\x=.int (lo+i),λi _=>n<=i⟩
theorem TY{P:Program}{w:World}{K:Frag}(a it:Addr):Turn P w K tg (uL K a) [it] it (λi h=>h.IsListIter it a i) where
 mem:=by simp
 obj:=λi h st b hb=>by
  have e:b=it:=by simpa using hb
  subst e;obtain⟨o,e,c,d⟩:=st;exact⟨o,e,λv z=>by rw[d]at z;cases z⟩
 keep:=λi h h' st k=>st.at λo e=>k it (by simp) o e
 item:=by
  intro X hP hw hK hc i bc s σ H E I hf st hg;subst hP hw hK;obtain⟨xs,x,hq,hx⟩:=hg;obtain⟨its,rv,p,hz⟩:=I.list hq;obtain⟨u,hu,ru⟩:=rv.get hx;obtain⟨f0,f1,f2,f3,f4,f5⟩:=hf it (by simp);refine wpAny_pyNext_list_item st p.isList (x:=u) (by simpa using hu) λh' iI sb=>?_;have I1:Inv X bc σ H { s with heap:=h' }:=I.turned (t':=s.toks) (λb o hb e=>(sb.2 b hb).trans e) f0 f1 f3 f4 f5;obtain⟨o,e,c,d⟩:=id iI;exact⟨u,rfl,uK (s:={ s with heap:=h' }) e c d (by decide) ⟨x,H,I1,ru,⟨rfl,λys hy=>by rw[I.TL hy hq];exact hx⟩,iI,λb hb=>(hf b hb).1⟩⟩
 done:=by
  intro X hP hw hK hc i bc s σ H E I hf st hg;subst hP hw hK;obtain⟨xs,hq,hx⟩:=hg;obtain⟨its,rv,p,hz⟩:=I.list hq;obtain⟨f0,f1,f2,f3,f4,f5⟩:=hf it (by simp);have hl:=rv.length;exact wpAny_pyNext_list_end (I.ok.hd hc) st p.isList (by simp;lia) λh' eb=>⟨rfl,I.turned (t':=s.toks) (λb o hb e=>eb b o hb e) f0 f1 f3 f4 f5⟩
 self:=λ_ _ _ _ _ st h=>wpAny_pyIter_listiter st h
theorem TZ{P:Program}{w:World}{K:Frag}(a it:Addr):Turn P w K tg (wW K a) [it] it (λi h=>h.IsTupleIter it a i) where
 mem:=by simp
 obj:=λi h st b hb=>by
  have e:b=it:=by simpa using hb
  subst e;obtain⟨o,e,c,d⟩:=st;exact⟨o,e,λv z=>by rw[d]at z;cases z⟩
 keep:=λi h h' st k=>st.at λo e=>k it (by simp) o e
 item:=by
  intro X hP hw hK hc i bc s σ H E I hf st hg;subst hP hw hK;obtain⟨xs,x,hq,hx⟩:=hg;obtain⟨its,rv,p,hz⟩:=I.tuple hq;obtain⟨u,hu,ru⟩:=rv.get hx;obtain⟨f0,f1,f2,f3,f4,f5⟩:=hf it (by simp);refine wpAny_pyNext_tuple_item st (show s.heap.IsTuple a its.toArray from p) (x:=u) (by simpa using hu) λh' iI sb=>?_
  have I1:Inv X bc σ H { s with heap:=h' }:=I.turned (t':=s.toks) (λb o hb e=>(sb.2 b hb).trans e) f0 f1 f3 f4 f5;obtain⟨o,e,c,d⟩:=id iI;exact⟨u,rfl,uK (s:={ s with heap:=h' }) e c d (by decide) ⟨x,H,I1,ru,⟨rfl,λys hy=>by rw[I.TM hy hq];exact hx⟩,iI,λb hb=>(hf b hb).1⟩⟩
 done:=by
  intro X hP hw hK hc i bc s σ H E I hf st hg;subst hP hw hK;obtain⟨xs,hq,hx⟩:=hg;obtain⟨its,rv,p,hz⟩:=I.tuple hq;obtain⟨f0,f1,f2,f3,f4,f5⟩:=hf it (by simp);have hl:=rv.length;exact wpAny_pyNext_tuple_end (I.ok.hd hc) st (show s.heap.IsTuple a its.toArray from p) (by simp;lia) λh' eb=>⟨rfl,I.turned (t':=s.toks) (λb o hb e=>eb b o hb e) f0 f1 f3 f4 f5⟩
 self:=λ_ _ _ _ _ st h=>wpAny_pyIter_tupleiter st h
theorem T4{P:Program}{w:World}{K:Frag}(it:Addr)(lo:Int)(n:Nat):Turn P w K tg (qz lo n) [it] it (λi h=>IsRangeIter h it (lo+(i:Nat)*1) ((n:Int)-(i:Nat)) 1) where
 mem:=by simp
 obj:=λi h st b hb=>by
  have e:b=it:=by simpa using hb
  subst e;exact⟨_,st,λv z=>by
   have z':Data.fields _=Data.cell v:=z;cases z'⟩
 keep:=λi h h' st k=>k it (by simp) _ st
 item:=by
  intro X hP hw hK hc i bc s σ H E I hf st hg;subst hP hw hK;obtain⟨f0,f1,f2,f3,f4,f5⟩:=hf it (by simp);have W:=Walks.range (prog:=X.prog) (w:=X.w) (I.ok.hd hc) it lo 1 n;refine W.item i s _ _ hg st λv h' tk hv iI kk=>?_;obtain⟨t,rfl⟩:=hv;have I1:Inv X bc σ H { s with heap:=h',toks:=tk }:=I.turned (λb o hb e=>kk b o (by simpa using hb) e) f0 f1 f3 f4 f5;refine⟨_,rfl,uK (s:={ s with heap:=h',toks:=tk }) (n := "range_iterator") iI rfl rfl (by decide) ⟨.int (lo+i),H,I1,⟨t,?_⟩,⟨rfl,rfl⟩,iI,λb hb=>(hf b hb).1⟩⟩;rw[Int.mul_one]
 done:=by
  intro X hP hw hK hc i bc s σ H E I hf st hg;subst hP hw hK;obtain⟨f0,f1,f2,f3,f4,f5⟩:=hf it (by simp);exact wpAny_pyNext_range_end (I.ok.hd hc) st (by have:n<=i:=hg;lia) λh' eb=>⟨rfl,I.turned (t':=s.toks) (λb o hb e=>eb b o hb e) f0 f1 f3 f4 f5⟩
 self:=λ_ _ _ _ _ st h=>wpAny_pyIter_rangeiter st h
section
variable{X:Cx}{tg:Expr}
def wX(K:Frag)(tl:TE):TI:=λσ H R=>tl σ H λx H1=>∃a,x=.ref a/\(∃xs,dC K H1 a xs)/\R (uL K a) H1
def KC(K:Frag)(tl:TE):TI:=λσ H R=>tl σ H λx H1=>∃a,x=.ref a/\(∃xs,cg K H1 a xs)/\R (wW K a) H1
theorem T5{l:Expr}{tl:TE}(hl:PE X l tl):PI X tg l (wX X.K tl):=by
 intro bc s σ H R I h;refine bj (hl bc s σ H _ I h) λv s1 ⟨x,H1,I1,r1,q1⟩=>?_;obtain⟨a,e,⟨xs,hq⟩,q⟩:=q1;subst e;cases r1;obtain⟨its,rv,p,hz⟩:=I1.list hq;refine wpAny_pyIter_list p.isList ?_;refine⟨s1.heap.objs.size,[s1.heap.objs.size],_,_,H1,rfl,I1.kept (t':=s1.toks) λb o e=>dJ _ e,TY a _,⟨_,gT _ rfl,rfl,rfl⟩,λb hb=>?_,q⟩;have e:b=s1.heap.objs.size:=by simpa using hb
 subst e;exact I1.l8 (cF _) (I1.bZ.fresh (cF _))
theorem T6{l:Expr}{tl:TE}(hl:PE X l tl):PI X tg l (KC X.K tl):=by
 intro bc s σ H R I h;refine bj (hl bc s σ H _ I h) λv s1 ⟨x,H1,I1,r1,q1⟩=>?_;obtain⟨a,e,⟨xs,hq⟩,q⟩:=q1;subst e;cases r1;obtain⟨its,rv,p,hz⟩:=I1.tuple hq;refine wpAny_pyIter_tuple (show s1.heap.IsTuple a its.toArray from p) ?_
 refine⟨s1.heap.objs.size,[s1.heap.objs.size],_,_,H1,rfl,I1.kept (t':=s1.toks) λb o e=>dJ _ e,TZ a _,⟨_,gT _ rfl,rfl,rfl⟩,λb hb=>?_,q⟩;have e:b=s1.heap.objs.size:=by simpa using hb
 subst e;exact I1.l8 (cF _) (I1.bZ.fresh (cF _))
theorem T7{R:It->Hp->Prop}{lo hi:Int}{t u v:Tok}{tk:Nat}(I:Inv X bc σ H s)(h1:-(2^62)<=lo)(h2:lo<2^62)(h3:-(2^62)<=hi)(h4:hi<2^62)
  (q:R (qz lo (hi-lo).toNat) H):wpAny (model X.prog X.w) X.A (pyIter (.ref s.heap.objs.size)) (DH X bc σ tg R) E { s with heap:=s.heap.push { cls:=.type "range",data:=.fields #[.int lo t,.int hi u,.int 1 v] },toks:=tk }:=by
 refine wpAny_pyIter_range (IsRange.new ..) (small_one h1 h2 h3 h4) ?_;have I1:Inv X bc σ H { s with heap:=s.heap.push { cls:=.type "range",data:=.fields #[.int lo t,.int hi u,.int 1 v] },toks:=tk }:=I.kept λb o e=>dJ _ e;refine⟨(s.heap.push { cls:=.type "range",data:=.fields #[.int lo t,.int hi u,.int 1 v] }).objs.size,[(s.heap.push { cls:=.type "range",data:=.fields #[.int lo t,.int hi u,.int 1 v] }).objs.size],_,_,H,rfl,
  I1.kept (t':=tk) λb o e=>dJ _ e,T4 _ lo (hi-lo).toNat,?_,λb hb=>?_,q⟩
 ·have e1:lo+((0:Nat):Int)*1=lo:=by simp
  have e2:(((hi-lo).toNat:Nat):Int)-((0:Nat):Int)=Builtin.Range.rangeSize lo hi 1:=by rw[rangeSize_one];split<;>lia
  show IsRangeIter _ _ (lo+((0:Nat):Int)*1) ((((hi-lo).toNat:Nat):Int)-((0:Nat):Int)) 1;rw[e1,e2];exact gT _ rfl
 ·have e:b=(s.heap.push { cls:=.type "range",data:=.fields #[.int lo t,.int hi u,.int 1 v] }).objs.size:=by simpa using hb
  subst e;exact I1.l8 (cF _) (I1.bZ.fresh (cF _))
def DI(ta:TA):TI:=λσ H R=>ta σ H λvs H1=>∃j:Int,vs=[.int j]/\-(2^62)<=j/\j<2^62/\R (qz 0 j.toNat) H1
theorem qA{a:Expr}{ta:TA}{p pos:Pos}(hg:Gl X "range")(hm:X.mg "range"=none)(ha:PA X [a] ta)(hs:starEach [a] X.env=[(false,eval a X.env)]:=by rfl):PI X tg (.Call (.Name "range" p) [a] [] pos) (DI ta):=by
 intro bc s σ H R I h;refine Call_ (pR I hg hm boot_range (wF (bj (ha pos bc s σ H _ I h) λus s1 ⟨vs,H1,I1,r1,q1⟩=>?_) hs rfl));obtain⟨j,e,q1,q2,q⟩:=q1;subst e;cases r1 with
 |cons r rr=>
  cases rr;obtain⟨t,rfl⟩:=r;exact call_range_1 (T7 I1 (by lia) (by lia) q1 q2 (by simpa using q))
def DJ(wi:TI)(g:TG)(tb:TS):TS:=λD σ H=>wi σ H λJ H1=>∃W:Nat->Nat->St->Hp->Prop,(∃m,W 0 m σ H1)/\∀i m σ H,W i m σ H->
 (J.stop i H/\D.nx σ H)\/(J.go i H/\∃N:St->Hp->Prop,(∀σ' H',N σ' H'->∃m',m'<m/\W (i+1) m' σ' H')/\∀x H',J.pS i H x H'->g x σ H' λσ2 H2=>tb { D with nx:=N,ct:=N,bk:=D.nx } σ2 H2)
noncomputable def wY(fp:List Addr)(h:Heap):List (Addr×Obj):=fp.filterMap λb=>(h.get? b).map λo=>(b,o)
theorem zU{o:Obj}(hb:b∈fp)(e:h.get? b=some o):(b,o)∈wY fp h:=List.mem_filterMap.mpr ⟨b,hb,by rw[e];rfl⟩
theorem T8{p:Addr×Obj}(hp:p∈wY fp h):p.1∈fp/\h.get? p.1=some p.2:=by
 obtain⟨b,hb,e⟩:=List.mem_filterMap.mp hp;cases q:h.get? b with
 |none=>rw[q]at e;cases e
 |some o=>
  rw[q]at e;have e':(b,o)=p:=eF e;subst e';exact⟨hb,q⟩
theorem Inv.pinned(I:Inv X bc σ H s)(hf:∀b∈fp,je X bc H b)(ho:∀b∈fp,∃o,s.heap.get? b=some o/\∀v,o.data≠.cell v):Inv X (bc++wY fp s.heap) σ H s:=
 I.zO λp hp=>(iG.mp hp).elim (λz=>I.pin p (jU _ z)) λz=>by
  obtain⟨hb,e⟩:=T8 z;obtain⟨f0,f1,f2,_⟩:=hf p.1 hb;obtain⟨o,e',d⟩:=ho p.1 hb;rw[e]at e';cases e';exact⟨e,f0,f1,f2,d⟩
theorem Inv.DK{pl:List (Addr×Obj)}(I:Inv X (bc++pl) σ H s):Inv X bc σ H s:=I.zO λp hp=>I.pin p (jU _ (rL _ hp))
theorem lx{iter:Expr}{wi:TI}{pos:Pos}(hp:PassesOwn (model X.prog X.w) X.A X.env X.xe)(hc:X.calm=true)(hi:PI X tg iter wi)(hg:PG X tg g)(hb:jW X body tb)
  (hs:∀x,foldedSetIterable iter X.env x=pure x:=by intro _;rfl):PS X (.For tg iter body [] pos) (DJ wi g tb):=by
 intro bc s σ H D I h;refine wpAny_For (bj (hi bc s σ H _ I h) λv s1 h1=>bj h1 λzT s2 h2=>?_) hs;obtain⟨it,fp,tn,J,H2,e,I2,T,qB,f2,W,⟨m0,w0⟩,nP⟩:=h2;subst e;have DM:∀{H':Hp},(∀b∈fp,H' b=none)->∀b∈fp,je X bc H' b:=λhn b hb=>⟨hn b hb,(f2 b hb).2⟩;refine codeAny_forLoop_any (λn s'=>∃i σ' H',Inv X bc σ' H' s'/\tn i s'.heap/\(∀b∈fp,H' b=none)/\W i n σ' H') ?_ m0 ⟨0,σ,H2,I2,qB,λb hb=>(f2 b hb).1,w0⟩;rintro n s3 ⟨i,σ3,H3,I3,KD,KG,w3⟩;rcases nP i n σ3 H3 w3 with⟨stop,qn⟩|⟨go,N,hN,step⟩
 ·refine aq hp (bj (T.done X rfl rfl rfl hc i bc s3 σ3 H3 X.xe I3 (DM KG) KD stop) λr s4 ⟨hr,I4⟩=>?_);subst hr;exact aj ⟨σ3,H3,I4,qn⟩
 ·refine aq hp (bj (T.item X rfl rfl rfl hc i bc s3 σ3 H3 X.xe I3 (DM KG) KD go) λr s4 ⟨u,hr,h4⟩=>?_);subst hr;refine aq hp (bj h4 λ_ s5 ⟨x,H5,I5,r5,y5,DN,zV⟩=>?_);have T9:=I5.pinned (DM zV) (T.obj _ _ DN);refine aq hp (bj (hg _ s5 σ3 H5 x u _ T9 r5 (step x H5 y5)) λ_ s6 ⟨σ6,H6,I6,q6⟩=>?_);refine aq hp (bj (hb _ s6 σ6 H6 _ I6 q6) λf s7 q7=>?_);have again:∀{σ7:St}{H7:Hp},Inv X (bc++wY fp s5.heap) σ7 H7 s7->N σ7 H7->∃m,m<n/\∃i σ' H',Inv X bc σ' H' s7/\tn i s7.heap/\(∀b∈fp,H' b=none)/\W i m σ' H':=λ{σ7 H7} I7 n7=>by
   obtain⟨m',hm,w7⟩:=hN σ7 H7 n7;refine⟨m',hm,i+1,σ7,H7,I7.DK,T.keep _ _ _ DN λb hb o e=>(I7.pin (b,o) (jU _ (jU _ (zU hb e)))).1,λb hb=>?_,w7⟩;obtain⟨o,e,d⟩:=T.obj _ _ DN b hb;exact(I7.pin (b,o) (jU _ (jU _ (zU hb e)))).2.1
  cases f with
  |next=>obtain⟨σ7,H7,I7,n7⟩:=q7;exact again I7 n7
  |cont=>obtain⟨σ7,H7,I7,n7⟩:=q7;exact again I7 n7
  |brk=>obtain⟨σ7,H7,I7,q7⟩:=q7;exact⟨σ7,H7,I7.DK,q7⟩
  |ret v=>obtain⟨x7,σ7,H7,I7,r7,q7⟩:=q7;exact⟨x7,σ7,H7,I7.DK,r7,q7⟩
end
theorem wZ{K:Frag}(Pv:Nat->St->Hp->Prop)(h0:Pv 0 σ H)(hl:∀i σ H,i<=xs.length->Pv i σ H->dC K H a xs)
  (hs:∀i x σ H,xs[i]?=some x->Pv i σ H->g x σ H λσ2 H2=>tb { D with nx:=Pv (i+1),ct:=Pv (i+1),bk:=D.nx } σ2 H2) (hd:∀σ H,Pv xs.length σ H->D.nx σ H) :
  ∃W:Nat->Nat->St->Hp->Prop,(∃m,W 0 m σ H)/\∀i m σ H,W i m σ H->
   ((uL K a).stop i H/\D.nx σ H)\/((uL K a).go i H/\∃N:St->Hp->Prop,(∀σ' H',N σ' H'->∃m',m'<m/\W (i+1) m' σ' H')/\∀x H',(uL K a).pS i H x H'->g x σ H' λσ2 H2=>tb { D with nx:=N,ct:=N,bk:=D.nx } σ2 H2):=by
 refine⟨λi m σ H=>m=xs.length-i/\i<=xs.length/\Pv i σ H,⟨xs.length,by simp,gH _,h0⟩,?_⟩;rintro i m σ H ⟨rfl,hi,p⟩;have q:=hl i σ H hi p;by_cases cY:i<xs.length
 ·refine .inr ⟨⟨xs,xs[i],q,by simp[cY]⟩,Pv (i+1),λσ' H' p'=>⟨xs.length-(i+1),by lia,rfl,cY,p'⟩,λx H' y=>?_⟩;obtain⟨e,y⟩:=y;subst e;exact hs i x σ _ (y xs q) p
 ·have e:i=xs.length:=by lia
  subst e;exact .inl ⟨⟨xs,q,cF _⟩,hd σ H p⟩
theorem KH{K:Frag}(Pv:Nat->St->Hp->Prop)(h0:Pv 0 σ H)(hl:∀i σ H,i<=xs.length->Pv i σ H->cg K H a xs)
  (hs:∀i x σ H,xs[i]?=some x->Pv i σ H->g x σ H λσ2 H2=>tb { D with nx:=Pv (i+1),ct:=Pv (i+1),bk:=D.nx } σ2 H2) (hd:∀σ H,Pv xs.length σ H->D.nx σ H) :
  ∃W:Nat->Nat->St->Hp->Prop,(∃m,W 0 m σ H)/\∀i m σ H,W i m σ H->
   ((wW K a).stop i H/\D.nx σ H)\/((wW K a).go i H/\∃N:St->Hp->Prop,(∀σ' H',N σ' H'->∃m',m'<m/\W (i+1) m' σ' H')/\∀x H',(wW K a).pS i H x H'->g x σ H' λσ2 H2=>tb { D with nx:=N,ct:=N,bk:=D.nx } σ2 H2):=by
 refine⟨λi m σ H=>m=xs.length-i/\i<=xs.length/\Pv i σ H,⟨xs.length,by simp,gH _,h0⟩,?_⟩;rintro i m σ H ⟨rfl,hi,p⟩;have q:=hl i σ H hi p;by_cases cY:i<xs.length
 ·refine .inr ⟨⟨xs,xs[i],q,by simp[cY]⟩,Pv (i+1),λσ' H' p'=>⟨xs.length-(i+1),by lia,rfl,cY,p'⟩,λx H' y=>?_⟩;obtain⟨e,y⟩:=y;subst e;exact hs i x σ _ (y xs q) p
 ·have e:i=xs.length:=by lia
  subst e;exact .inl ⟨⟨xs,q,cF _⟩,hd σ H p⟩
theorem w6{lo:Int}(Pv:Nat->St->Hp->Prop)(h0:Pv 0 σ H)
  (hs:∀i σ H,i<n->Pv i σ H->g (.int (lo+i)) σ H λσ2 H2=>tb { D with nx:=Pv (i+1),ct:=Pv (i+1),bk:=D.nx } σ2 H2) (hd:∀σ H,Pv n σ H->D.nx σ H) :
  ∃W:Nat->Nat->St->Hp->Prop,(∃m,W 0 m σ H)/\∀i m σ H,W i m σ H->
   ((qz lo n).stop i H/\D.nx σ H)\/((qz lo n).go i H/\∃N:St->Hp->Prop,(∀σ' H',N σ' H'->∃m',m'<m/\W (i+1) m' σ' H')/\∀x H',(qz lo n).pS i H x H'->g x σ H' λσ2 H2=>tb { D with nx:=N,ct:=N,bk:=D.nx } σ2 H2):=by
 refine⟨λi m σ H=>m=n-i/\i<=n/\Pv i σ H,⟨n,by simp,gH _,h0⟩,?_⟩;rintro i m σ H ⟨rfl,hi,p⟩;by_cases cY:i<n
 ·refine .inr ⟨cY,Pv (i+1),λσ' H' p'=>⟨n-(i+1),by lia,rfl,cY,p'⟩,λx H' y=>?_⟩;obtain⟨e,y⟩:=y;subst e y;exact hs i σ _ cY p
 ·have e:i=n:=by lia
  subst e;exact .inl ⟨cF _,hd σ H p⟩
abbrev R2:=V->V->Hp->VK->Prop
def eU(X:Cx)(f:Value->Value->Sem Value)(r:R2):Prop:=
 ∀(bc:List (Addr×Obj))(s:Shared)(σ:St)(H:Hp)(x y:V)(v u:Value)(Q:VK),Inv X bc σ H s->RelV x v->RelV y u->r x y H Q->
  wpAny (model X.prog X.w) X.A (f v u) (EP X bc σ Q) X.xe s
def DO(X:Cx)(f:Value->Sem Value)(r:V->Hp->VK->Prop):Prop:=
 ∀(bc:List (Addr×Obj))(s:Shared)(σ:St)(H:Hp)(x:V)(v:Value)(Q:VK),Inv X bc σ H s->RelV x v->r x H Q->
  wpAny (model X.prog X.w) X.A (f v) (EP X bc σ Q) X.xe s
def eW(X:Cx)(f:Value)(r:List V->Hp->VK->Prop):Prop:=
 ∀(bc:List (Addr×Obj))(s:Shared)(σ:St)(H:Hp)(xs:List V)(us:List Value)(Q:VK),Inv X bc σ H s->Vals xs us->r xs H Q->
  wpAny (model X.prog X.w) X.A (call f us) (EP X bc σ Q) X.xe s
def Ua(X:Cx)(r:V->Hp->(Bool->Hp->Prop)->Prop):Prop:=
 ∀(bc:List (Addr×Obj))(s:Shared)(σ:St)(H:Hp)(x:V)(v:Value)(Q:Bool->Hp->Prop),Inv X bc σ H s->RelV x v->r x H Q->
  wpAny (model X.prog X.w) X.A (truthy v) (TP X bc σ Q) X.xe s
def bw(r:R2)(ta tb:TE):TE:=λσ H Q=>ta σ H λx H1=>tb σ H1 λy H2=>r x y H2 Q
def KI(r:V->Hp->VK->Prop)(ta:TE):TE:=λσ H Q=>ta σ H λx H1=>r x H1 Q
def rI(C:Int->Int->Prop)(g:Int->Int->V):R2:=λx y H Q=>∃i j,x=.int i/\y=.int j/\C i j/\Q (g i j) H
def dZ(g:Int->Int->V):R2:=λx y H Q=>∃i j,x=.int i/\y=.int j/\Q (g i j) H
def rU(g:Int->V):V->Hp->VK->Prop:=λx H Q=>∃i,x=.int i/\Q (g i) H
section
variable{X:Cx}{a b c:Expr}{ta tb tc:TE}{pos:Pos}
theorem DP(ha:PE X a ta)(hb:PE X b tb){R:V->V->Hp->Prop}(I:Inv X bc σ H s)
  (h:ta σ H λx H1=>tb σ H1 λy H2=>R x y H2) {Q:QV} {f:Value->Value->Sem Value}
  (hf:∀v u s2 x y H2,Inv X bc σ H2 s2->RelV x v->RelV y u->R x y H2->wpAny (model X.prog X.w) X.A (f v u) Q X.xe s2) :
  wpAny (model X.prog X.w) X.A (eval a X.env) (λv s₁=>wpAny (model X.prog X.w) X.A (eval b X.env) (λu s₂=>wpAny (model X.prog X.w) X.A (f v u) Q X.xe s₂) X.xe s₁) X.xe s:=by
 refine bj (ha bc s σ H _ I h) λv s1 ⟨x,H1,I1,r1,q1⟩=>?_;refine bj (hb bc s1 σ H1 _ I1 q1) λu s2 ⟨y,H2,I2,r2,q2⟩=>?_;exact hf v u s2 x y H2 I2 r1 r2 q2
theorem bH{op:Operator}{r:R2}(ho:eU X (binaryOp op) r)(ha:PE X a ta)(hb:PE X b tb):PE X (.BinOp a op b pos) (bw r ta tb):=by
 intro bc s σ H Q I h;exact wpAny_BinOp (DP ha hb I h λv u s2 x y H2 I2 rx ry q=>ho bc s2 σ H2 x y v u Q I2 rx ry q)
theorem r8{op:UnaryOp}{r:V->Hp->VK->Prop}(ho:DO X (unaryOp op) r)(ha:PE X a ta):PE X (.UnaryOp op a pos) (KI r ta):=by
 intro bc s σ H Q I h;exact UnaryOp_ (bj (ha bc s σ H _ I h) λv s1 ⟨x,H1,I1,r1,q1⟩=>ho bc s1 σ H1 x v Q I1 r1 q1)
theorem zW{C:Int->Int->Prop}{g:Int->Int->Int}
  (rule:∀(i j:Int)(t u:Tok)(s:Shared)(Q:QV)(E:QV),C i j->Q (.int (g i j) s.toks) { s with toks:=s.toks+1 }->wpAny (model X.prog X.w) X.A (f (.int i t) (.int j u)) Q E s) :
  eU X f (rI C λi j=>.int (g i j)):=by
 intro bc s σ H x y v u Q I rx ry h;obtain⟨i,j,rfl,rfl,hc,q⟩:=h;obtain⟨t,rfl⟩:=rx;obtain⟨t',rfl⟩:=ry;exact rule i j t t' s _ _ hc ⟨.int (g i j),H,I.tok _,⟨_,rfl⟩,q⟩
theorem DQ{g:Int->Int->Int}
  (rule:∀(i j:Int)(t u:Tok)(s:Shared)(Q:QV)(E:QV),Q (.int (g i j) s.toks) { s with toks:=s.toks+1 }->wpAny (model X.prog X.w) X.A (f (.int i t) (.int j u)) Q E s) :
  eU X f (dZ λi j=>.int (g i j)):=by
 intro bc s σ H x y v u Q I rx ry h;obtain⟨i,j,rfl,rfl,q⟩:=h;obtain⟨t,rfl⟩:=rx;obtain⟨t',rfl⟩:=ry;exact rule i j t t' s _ _ ⟨.int (g i j),H,I.tok _,⟨_,rfl⟩,q⟩
theorem DR{g:Int->Int->Bool}
  (rule:∀(i j:Int)(t u:Tok)(s:Shared)(Q:QV)(E:QV),Q (.bool (g i j)) s->wpAny (model X.prog X.w) X.A (f (.int i t) (.int j u)) Q E s) :
  eU X f (dZ λi j=>.bl (g i j)):=by
 intro bc s σ H x y v u Q I rx ry h;obtain⟨i,j,rfl,rfl,q⟩:=h;obtain⟨t,rfl⟩:=rx;obtain⟨t',rfl⟩:=ry;exact rule i j t t' s _ _ ⟨.bl (g i j),H,I,rfl,q⟩
def se(i j:Int):Prop:=0<j/\j<1073741824
def KJ(i j:Int):Prop:=0<=j/\j<=1000000/\i.natAbs<2^64
def w8(i j:Int):Prop:=(-(2^64)<i/\i<2^64)\/(-(2^64)<j/\j<2^64)
theorem w8.ok{i j:Int}(h:w8 i j):IntMulOk i j:=by
 rcases h with⟨h1,h2⟩|⟨h1,h2⟩
 ·exact .of_left (intBits_le_64 h1 h2)
 ·exact .of_right (intBits_le_64 h1 h2)
theorem gC:eU X (binaryOp .Add) (dZ λi j=>.int (i+j)):=DQ λ_ _ _ _ _ _ _ q=>add_int q
theorem jZ:eU X (binaryOp .Sub) (dZ λi j=>.int (i-j)):=DQ λ_ _ _ _ _ _ _ q=>sub_int q
theorem qC:eU X (binaryOp .Mult) (rI w8 λi j=>.int (i*j)):=zW λ_ _ _ _ _ _ _ hc q=>mul_int q hc.ok
theorem gE:eU X (binaryOp .FloorDiv) (rI se λi j=>.int (i/j)):=zW λi j _ _ _ _ _ hc q=>by
 have h1:(0:Int)<j:=hc.1;have h2:j<1073741824:=hc.2;exact floordiv_int (by lia) (by rw[Int.fdiv_eq_ediv_of_nonneg i (by lia)];exact q) (.inl (PyProof.noPylong_small (by lia)))
theorem eI:eU X (binaryOp .Mod) (rI (λ_ j=>0<j) λi j=>.int (i%j)):=zW λi j _ _ _ _ _ hc q=>by
 have h1:(0:Int)<j:=hc;exact mod_int' (by lia) (by rw[Int.fmod_eq_emod_of_nonneg i (by lia)];exact q)
theorem Ub:eU X (binaryOp .Pow) (rI KJ λi j=>.int (i^j.toNat)):=zW λ_ _ _ _ _ _ _ hc q=>pow_int_small hc.1 hc.2.1 hc.2.2 q
theorem KL:eU X (binaryOp .BitOr) (dZ λi j=>.int (Builtin.bitOr i j)):=DQ λ_ _ _ _ _ _ _ q=>or_int q
theorem Uc{f:Value->Sem Value}{g:Int->Int}
  (rule:∀(i:Int)(t:Tok)(s:Shared)(Q:QV)(E:QV),Q (.int (g i) s.toks) { s with toks:=s.toks+1 }->wpAny (model X.prog X.w) X.A (f (.int i t)) Q E s) :
  DO X f (rU λi=>.int (g i)):=by
 intro bc s σ H x v Q I rx h;obtain⟨i,rfl,q⟩:=h;obtain⟨t,rfl⟩:=rx;exact rule i t s _ _ ⟨.int (g i),H,I.tok _,⟨_,rfl⟩,q⟩
theorem sf:DO X (unaryOp .USub) (rU λi=>.int (-i)):=Uc λ_ _ _ _ _ q=>neg_int q
end
noncomputable def DS:V->V->Bool
 | .cC,.cC=>true | .cC,.int _=>true | .int _,.cC=>true | .cC,.bl _=>true | .bl _,.cC=>true | .cC,.str _=>true | .str _,.cC=>true
 | .int _,.int _=>true | .bl _,.bl _=>true | .str _,.str _=>true | .lY _,.lY _=>true
 | .int _,.str _=>true | .str _,.int _=>true | .bl _,.str _=>true | .str _,.bl _=>true
 |_,_=>false
def lz:R2:=λx y H Q=>DS x y=true/\Q (.bl (decide (x=y))) H
def zX:R2:=λx y H Q=>DS x y=true/\Q (.bl (!decide (x=y))) H
theorem DT{i j:Int}:decide (V.int i=V.int j)=(i==j):=by
 rw[Bool.eq_iff_iff];simp
theorem KN{i j:Bool}:decide (V.bl i=V.bl j)=(i==j):=by
 rw[Bool.eq_iff_iff];simp
theorem KO{i j:Str}:decide (V.str i=V.str j)=(i==j):=by
 rw[Bool.eq_iff_iff];simp
theorem KQ{i j:Array UInt8}:decide (V.lY i=V.lY j)=(i.toList==j.toList):=by
 rw[Bool.eq_iff_iff];cases i;cases j;simp
section
variable{X:Cx}{a b c:Expr}{ta tb tc:TE}{pos:Pos}
theorem fk{Q:VK}{k k':Bool}(I:Inv X bc σ H s)(q:Q (.bl k) H)(e:k=k'):EP X bc σ Q (.bool k') s:=by
 subst e;exact⟨.bl k,H,I,rfl,q⟩
theorem cS:eU X (compareOp .Eq) lz:=by
 intro bc s σ H x y v u Q I rx ry h;obtain⟨hs,q⟩:=h;cases x with
 |cC=>
  cases rx;cases y with
  |cC=>cases ry;exact PySem.EqNone.eq_none_none (fk I q (by simp))
  |bl j=>cases ry;exact PySem.EqNone.eq_none_bool (fk I q (by simp))
  |int j=>obtain⟨t',rfl⟩:=ry;exact PySem.EqNone.eq_none_int (fk I q (by simp))
  |str j=>obtain⟨t',rfl⟩:=ry;exact PySem.EqNone.eq_none_str (fk I q (by simp))
  |_=>exact absurd (show false=true from hs) gN
 |bl i=>
  cases rx;cases y with
  |cC=>cases ry;exact PySem.EqNone.eq_bool_none (fk I q (by simp))
  |bl j=>cases ry;exact eq_bool (fk I q KN)
  |str j=>obtain⟨t',rfl⟩:=ry;exact PySem.EqMixed.eq_bool_str (fk I q (by simp))
  |_=>exact absurd (show false=true from hs) gN
 |int i=>
  obtain⟨t,rfl⟩:=rx;cases y with
  |cC=>cases ry;exact PySem.EqNone.eq_int_none (fk I q (by simp))
  |int j=>obtain⟨t',rfl⟩:=ry;exact eq_int (fk I q DT)
  |str j=>obtain⟨t',rfl⟩:=ry;exact PySem.EqMixed.eq_int_str (fk I q (by simp))
  |_=>exact absurd (show false=true from hs) gN
 |str i=>
  obtain⟨t,rfl⟩:=rx;cases y with
  |cC=>cases ry;exact PySem.EqNone.eq_str_none (fk I q (by simp))
  |bl j=>cases ry;exact PySem.EqMixed.eq_str_bool (fk I q (by simp))
  |int j=>obtain⟨t',rfl⟩:=ry;exact PySem.EqMixed.eq_str_int (fk I q (by simp))
  |str j=>obtain⟨t',rfl⟩:=ry;exact eq_str (fk I q KO)
  |_=>exact absurd (show false=true from hs) gN
 |lY i=>
  obtain⟨t,rfl⟩:=rx;cases y with
  |lY j=>obtain⟨t',rfl⟩:=ry;exact PySem.W.eq_bytes (fk I q KQ)
  |_=>exact absurd (show false=true from hs) gN
 |_=>cases y<;>exact absurd (show false=true from hs) gN
theorem zY:eU X (compareOp .NotEq) zX:=by
 intro bc s σ H x y v u Q I rx ry h;obtain⟨hs,q⟩:=h;cases x with
 |cC=>
  cases rx;cases y with
  |cC=>cases ry;exact PySem.EqNone.ne_none_none (fk I q (by simp))
  |bl j=>cases ry;exact PySem.EqNone.ne_none_bool (fk I q (by simp))
  |int j=>obtain⟨t',rfl⟩:=ry;exact PySem.EqNone.ne_none_int (fk I q (by simp))
  |str j=>obtain⟨t',rfl⟩:=ry;exact PySem.EqNone.ne_none_str (fk I q (by simp))
  |_=>exact absurd (show false=true from hs) gN
 |bl i=>
  cases rx;cases y with
  |cC=>cases ry;exact PySem.EqNone.ne_bool_none (fk I q (by simp))
  |bl j=>cases ry;exact ne_bool (fk I q (ai not KN))
  |str j=>obtain⟨t',rfl⟩:=ry;exact PySem.EqMixed.ne_bool_str (fk I q (by simp))
  |_=>exact absurd (show false=true from hs) gN
 |int i=>
  obtain⟨t,rfl⟩:=rx;cases y with
  |cC=>cases ry;exact PySem.EqNone.ne_int_none (fk I q (by simp))
  |int j=>obtain⟨t',rfl⟩:=ry;exact ne_int (fk I q (ai not DT))
  |str j=>obtain⟨t',rfl⟩:=ry;exact PySem.EqMixed.ne_int_str (fk I q (by simp))
  |_=>exact absurd (show false=true from hs) gN
 |str i=>
  obtain⟨t,rfl⟩:=rx;cases y with
  |cC=>cases ry;exact PySem.EqNone.ne_str_none (fk I q (by simp))
  |bl j=>cases ry;exact PySem.EqMixed.ne_str_bool (fk I q (by simp))
  |int j=>obtain⟨t',rfl⟩:=ry;exact PySem.EqMixed.ne_str_int (fk I q (by simp))
  |str j=>obtain⟨t',rfl⟩:=ry;exact ne_str (fk I q (ai not KO))
  |_=>exact absurd (show false=true from hs) gN
 |lY i=>
  obtain⟨t,rfl⟩:=rx;cases y with
  |lY j=>obtain⟨t',rfl⟩:=ry;exact PySem.W.ne_bytes (fk I q (ai not KQ))
  |_=>exact absurd (show false=true from hs) gN
 |_=>cases y<;>exact absurd (show false=true from hs) gN
theorem DU:eU X (compareOp .Lt) (dZ λi j=>.bl (decide (i<j))):=DR λ_ _ _ _ _ _ _ q=>lt_int q
theorem KR:eU X (compareOp .LtE) (dZ λi j=>.bl (decide (i<=j))):=DR λ_ _ _ _ _ _ _ q=>le_int q
theorem uM:eU X (compareOp .Gt) (dZ λi j=>.bl (decide (j<i))):=DR λ_ _ _ _ _ _ _ q=>gt_int q
theorem zZ:eU X (compareOp .Is) (λx y H Q=>y=.cC/\Q (.bl (decide (x=.cC))) H):=by
 intro bc s σ H x y v u Q I rx ry h;obtain⟨rfl,q⟩:=h;cases ry;refine is_none_gen (fk I q ?_);cases x<;>first
  |(cases rx;rfl)
  |(obtain⟨t,rfl⟩:=rx;rfl)
theorem uN:eU X (compareOp .IsNot) (λx y H Q=>y=.cC/\Q (.bl (!decide (x=.cC))) H):=by
 intro bc s σ H x y v u Q I rx ry h;obtain⟨rfl,q⟩:=h;cases ry;refine isnot_none_gen (fk I q ?_);cases x<;>first
  |(cases rx;rfl)
  |(obtain⟨t,rfl⟩:=rx;rfl)
theorem cm(b:Expr)(h:op≠.In:=by decide)(h2:op≠.NotIn:=by decide):behindInMarks op b=false:=by
 have e1:(op==CmpOp.In)=false:=by cases op<;>first|rfl|exact absurd rfl h
 have e2:(op==CmpOp.NotIn)=false:=by cases op<;>first|rfl|exact absurd rfl h2
 cases b<;>simp[behindInMarks,e1,e2]
theorem qD{r:R2}(ho:eU X (compareOp op) r)(ha:PE X a ta)(hb:PE X b tb)(hm:behindInMarks op b=false):PE X (.Compare a [op] [b] pos) (bw r ta tb):=by
 intro bc s σ H Q I h;exact wpAny_Compare1 (DP ha hb I h λv u s2 x y H2 I2 rx ry q=>ho bc s2 σ H2 x y v u Q I2 rx ry q) hm
def eM(t:TE):TT:=λσ H Q=>t σ H λx H'=>∃k,x=.bl k/\Q k H'
theorem cj{r:R2}(ho:eU X (compareOp op) r)(ha:PE X a ta)(hb:PE X b tb)(hm:behindInMarks op b=false):PT X (.Compare a [op] [b] pos) (eM (bw r ta tb)):=by
 intro bc s σ H Q I h;refine wpAny_isTrue_Compare1 (bj (ha bc s σ H _ I h) λv s1 ⟨x,H1,I1,r1,q1⟩=>bj (hb bc s1 σ H1 _ I1 q1) λu s2 ⟨y,H2,I2,r2,q2⟩=>
  bj (ho bc s2 σ H2 x y v u _ I2 r1 r2 q2) λc s3 ⟨z,H3,I3,r3,k,e,q3⟩=>?_) hm
 subst e;cases r3;exact ah ⟨H3,I3,q3⟩
def KS(K:Frag)(x:V)(H:Hp)(k:Bool):Prop:=
 match x with
 | .cC=>k=false
 | .bl b=>k=b
 | .int i=>k=(i != 0)
 | .str y=>y.length<=sizeLine/\k=((y.length:Int) != 0)
 | .lY y=>y.size<=sizeLine/\k=((y.size:Int) != 0)
 | .ref p=>(∃xs,dC K H p xs/\k=!xs.isEmpty)\/(∃xs,cg K H p xs/\k=!xs.isEmpty)\/∃bf,H p=some (.dK bf)/\k=!bf.isEmpty
 |_=>False
theorem Ud{κ:Type}{bf:List (κ×V)}{vs:List (κ×Value)}(r:KV bf vs):(!vs.isEmpty)=!bf.isEmpty:=by
 cases r<;>rfl
theorem KU{its:List Value}(r:Vals xs its):(!its.toArray.isEmpty)=!xs.isEmpty:=by
 cases r<;>simp
theorem si:(sizeLine:Nat)<2^63:=by rw[av];decide
theorem Ue:Ua X (λx H Q=>∃k,KS X.K x H k/\Q k H):=by
 intro bc s σ H x v Q I rx h;obtain⟨k,e,q⟩:=h;have hl:=si;have hs:sizeLine=16777216:=av;cases x with
 |cC=>
  cases rx;have e':k=false:=e;subst e';exact truthy_none ⟨H,I,q⟩
 |bl b=>
  cases rx;have e':k=b:=e;subst e';exact ah ⟨H,I,q⟩
 |int i=>
  obtain⟨t,rfl⟩:=rx;have e':k=(i != 0):=e;subst e';exact PySem.P.truthy_int ⟨H,I,q⟩
 |str y=>
  obtain⟨t,rfl⟩:=rx;obtain⟨hy,e'⟩:y.length<=sizeLine/\k=((y.length:Int) != 0):=e;subst e';exact PySem.P.truthy_str (by lia) ⟨H,I.tok _,q⟩
 |lY y=>
  obtain⟨t,rfl⟩:=rx;obtain⟨hy,e'⟩:y.size<=sizeLine/\k=((y.size:Int) != 0):=e;subst e';exact PySem.W.truthy_bytes (by lia) ⟨H,I.tok _,q⟩
 |ref p=>
  cases rx;have e':(∃xs,dC X.K H p xs/\k=!xs.isEmpty)\/(∃xs,cg X.K H p xs/\k=!xs.isEmpty)\/∃bf,H p=some (.dK bf)/\k=!bf.isEmpty:=e;rcases e' with⟨xs,hx,e'⟩|⟨xs,hx,e'⟩|⟨bf,hx,e'⟩
  ·subst e';obtain⟨its,r,pl,hz⟩:=I.list hx;have cT:=r.length;exact wpAny_truthy_list pl.isList (by simp only[dR];lia) ⟨H,I.tok _,by rw[KU r];exact q⟩
  ·subst e';obtain⟨its,r,pl,hz⟩:=I.tuple hx;have cT:=r.length;exact truthy_tuple pl (by simp only[dR];lia) ⟨H,I.tok _,by rw[KU r];exact q⟩
  ·subst e';obtain⟨hz,hS,vs,r,m⟩:bf.length<=sizeLine/\(p==sysModules)=false/\∃vs,KV bf vs/\s.heap.DictOf (gO X.prog X.w) p vs:=I.bZ p _ hx;have cT:bf.length=vs.length:=Paired.length r;exact wpAny_truthy_dict hS m (by lia) ⟨H,I.tok _,by rw[Ud r];exact q⟩
 |_=>exact(show False from e).elim
theorem KW(ha:PE X a ta)(he:∀rY,isTrue a X.env rY=(do let v <- rY;standAt a.pos;holding [v] (truthy v))) :
  PT X a (λσ H Q=>ta σ H λx H'=>∃k,KS X.K x H' k/\Q k H'):=by
 intro bc s σ H Q I h;exact isTrue_plain (bj (ha bc s σ H _ I h) λv s1 ⟨x,H1,I1,r1,q1⟩=>Ue bc s1 σ H1 x v Q I1 r1 q1) (he _)
theorem qE:eU X (binaryOp .Add) (λx y H Q=>∃i j,x=.str i/\y=.str j/\i.length+j.length<=sizeLine/\Q (.str (i++j)) H):=by
 intro bc s σ H x y v u Q I rx ry h;obtain⟨i,j,rfl,rfl,hz,q⟩:=h;obtain⟨t,rfl⟩:=rx;obtain⟨t',rfl⟩:=ry;exact add_str (λt' tk=>⟨.str (i++j),H,I.tok _,⟨_,rfl⟩,q⟩) hz
theorem vals1{x:V}(r:Vals [x] us):∃u,us=[u]/\RelV x u:=by
 cases r with
 |cons r1 r2=>cases r2;exact⟨_,rfl,r1⟩
theorem vals2{x y:V}(r:Vals [x,y] us):∃u w',us=[u,w']/\RelV x u/\RelV y w':=by
 cases r with
 |cons r1 r2=>
  cases r2 with
  |cons r3 r4=>cases r4;exact⟨_,_,rfl,r1,r3⟩
theorem Ug(hc:X.calm=true):eW X (.builtin "max") (λxs H Q=>∃i j,xs=[.int i,.int j]/\Q (.int (if j>i then j else i)) H):=by
 intro bc s σ H xs us Q I r h;obtain⟨i,j,rfl,q⟩:=h;obtain⟨u,w',rfl,⟨t,rfl⟩,⟨t',rfl⟩⟩:=vals2 r;refine max_two_ints (I.ok.hd hc) λh' tk k=>⟨_,H,I.kept k,?_,q⟩;by_cases hj:j>i
 ·rw[ae hj,ae hj];exact⟨_,rfl⟩
 ·rw[af hj,af hj];exact⟨_,rfl⟩
theorem Aa:eW X (.type "int") (λxs H Q=>(∃i,xs=[.int i]/\Q (.int i) H)\/∃k,xs=[.bl k]/\Q (.int (if k then 1 else 0)) H):=by
 intro bc s σ H xs us Q I r h;rcases h with⟨i,rfl,q⟩|⟨k,rfl,q⟩
 ·obtain⟨u,rfl,t,rfl⟩:=vals1 r;exact call_int_int ⟨.int i,H,I,⟨_,rfl⟩,q⟩
 ·obtain⟨u,rfl,r1⟩:=vals1 r;cases r1;exact call_int_bool ⟨.int (if k then 1 else 0),H,I.tok _,⟨_,rfl⟩,q⟩
theorem Uh:eW X (.type "str") (λxs H Q=>∃i,xs=[.int i]/\i.natAbs.log2<1920/\Q (.str (toString i)) H):=by
 intro bc s σ H xs us Q I r h;obtain⟨i,rfl,hz,q⟩:=h;obtain⟨u,rfl,t,rfl⟩:=vals1 r;exact PySem.P.str_of_int hz ⟨.str _,H,I.tok _,⟨_,rfl⟩,q⟩
end
structure DV(h:Heap)(x dx C:Addr)(mA:Str->Option Value):Prop where
 obj:h.get? x=some (PySem.W.instObj C dx)
 ns:h.Ns1 dx mA
 ne:dx≠x
theorem Ui{dx:Addr}{mA:Str->Option Value}(n:h.Ns1 dx mA):∃od,h.get? dx=some od/\∀name,PySem.W.lookIn name od=some (mA name):=by
 obtain⟨o,es,ep,ho,hd,hk,_,hm⟩:=n;refine⟨o,ho,λname=>?_⟩;have e:=hm name;unfold nsFind findBy at e;rw[<- Array.find?_toList]at e;unfold PySem.W.lookIn;rw[hd];dsimp only;split
 ·rename_i y q
  rw[q]at e;exact ai some e
 ·rename_i q
  rw[q]at e;have a:es.toList.any (·.refKey)=false:=by
   rw[List.any_eq_false];intro y hy;obtain⟨z,t,Uj⟩:=hk y (Array.mem_toList_iff.mp hy);simp[DictEntry.refKey,Uj]
  have a':¬es.toList.any (·.refKey)=true:=by rw[a];exact gN
  rw[af a'];exact ai some e
theorem DV.look{x dx C:Addr}{mA:Str->Option Value}(I:DV h x dx C mA):∃od,PySem.W.InstAt h x (PySem.W.instObj C dx) C (some od)/\∀name,PySem.W.lookIn name od=some (mA name):=
 let ⟨od,ho,hl⟩:=Ui I.ns
 ⟨od,⟨I.obj,rfl,rfl,ho⟩,hl⟩
section
variable{prog:Program}{w:World}{A:Around}{E:QV}{s:Shared}{K:Frag}{x dx C f:Addr}{mA:Str->Option Value}{name:Str}{v:Value}
end
theorem lZ.some_of{o:Option Value}(r:lZ (some v) o):∃u,o=some u/\RelV v u:=by
 cases o with
 |none=>exact(show False from r).elim
 |some u=>exact⟨u,rfl,r⟩
section
variable{P:Program}{w:World}{H H':Hp}{h h':Heap}{a C dx:Addr}{fs Ds:List (Str×V)}
theorem Uk(bZ:dN P w H h)(e:H a=some (.ins C dx fs)):∃mA,DV h a dx C mA/\(∀f,lZ (fs.lookup f) (mA f))/\PySem.Within mA (fs.map (·.1))/\fs.length<=1000/\H dx=some (.own a):=by
 obtain⟨d,z,ne,ob,mA,n,r,q⟩:=(show eQ P w H h a (.ins C dx fs) from bZ a _ e)
 exact⟨mA,⟨ob,n,ne⟩,r,q,z,d⟩
end
structure DW(K:Frag)(C:Addr):Prop where
 pg:PySem.W.plainGet K C Str.empty=true
 hd:PySem.W.hasDictIn K C=true
 po:PySem.W.plainOver K C=true
 sa:PySem.W.findIn K (.ref C) "__setattr__"=some (some (.builtin "object.__setattr__"))
theorem DW.get{K:Frag}{C:Addr}(c:DW K C)(f:Str):PySem.W.plainGet K C f=true:=c.pg
section
variable{X:Cx}{bc:List (Addr×Obj)}{σ:St}{H:Hp}{s:Shared}{a C dx:Addr}{fs:List (Str×V)}{f:Str}{v:V}{A:Around}{E:QV}
end
section
variable{X:Cx}{o e value:Expr}{f:Str}{pos jY Ul:Pos}{ta tv:TE}
end
section
variable{X:Cx}{bc:List (Addr×Obj)}{σ:St}{H:Hp}{s:Shared}{A:Around}{E:QV}{Q:QV}{c:Value}{b:Bool}
inductive ma(K:Frag)(H:Hp):V->Value->Prop where
 |cC:ma K H .cC (.type "NoneType")
 |bl (x:Bool):ma K H (.bl x) (.type "bool")
 |int (i:Int):ma K H (.int i) (.type "int")
 |str (x:Str):ma K H (.str x) (.type "str")
 |uy (x:UInt64):ma K H (.uy x) (.type "float")
 |lst {a:Addr} {xs:List V} (e:H a=some (.lst xs)):ma K H (.ref a) (.type "list")
 |dM {a:Addr} {o:Obj} {xs:List V} (e:H a=some (.dM o (.lst xs))):ma K H (.ref a) (.type "list")
 |tup {a:Addr} {xs:List V} (e:H a=some (.tup xs)):ma K H (.ref a) (.type "tuple")
 |dK {a:Addr} {bf:List (Key×V)} (e:H a=some (.dK bf)):ma K H (.ref a) (.type "dict")
 |dT {a:Addr} {bf:List (List Key×V)} (e:H a=some (.dT bf)):ma K H (.ref a) (.type "dict")
 |ins {a C dx:Addr} {fs:List (Str×V)} (e:H a=some (.ins C dx fs)) (cl:DW K C) (ha:PySem.W.findIn K (.ref C) "__class__"=some (some (.builtin "object.__class__")))
   (hn:PySem.W.specialIn K (.builtin "object.__class__") "__get__"=some (some (.builtin "getset_descriptor.__get__"))) (KY:PySem.W.takesIn K (.builtin "object.__class__")=some true)
   (hm:PySem.W.mroIn K C (.type "object")=some true):ma K H (.ref a) (.ref C)
theorem Um{x:V}{t:Value}(I:Inv X bc σ H s)(rx:RelV x u)(ty:ma X.K H x t)(e:kitOne X.K t c=some b)(h:∀tk,Q (.bool b) { s with toks:=tk }) :
  wpAny (model X.prog X.w) A (call (.builtin "isinstance") [u,c]) Q E s:=by
 cases ty with
 |cC=>cases(show u=Value.none from rx);exact nJ PySem.W.kitx_none I.eK True.intro e (λz=>nomatch z) h
 |bl y=>cases(show u=Value.bool y from rx);exact nJ PySem.W.kitx_bool I.eK True.intro e (λz=>nomatch z) h
 |int i=>obtain⟨t,q⟩:=(show ∃t,u=Value.int i t from rx);cases q;exact nJ PySem.W.kitx_int I.eK True.intro e (λz=>nomatch z) h
 |str y=>obtain⟨t,q⟩:=(show ∃t,u=Value.str y t from rx);cases q;exact nJ PySem.W.kitx_str I.eK True.intro e (λz=>nomatch z) h
 |uy y=>obtain⟨t,q⟩:=(show ∃t,u=Value.float y t from rx);cases q;exact nJ PySem.W.kitx_float I.eK True.intro e (λz=>nomatch z) h
 | @lst a xs ea=>
  cases(show u=Value.ref a from rx)
  obtain⟨_,_,n,_,h1⟩:=(show eQ X.prog X.w H s.heap a (.lst xs) from I.bZ a _ ea)
  exact nJ PySem.W.kitx_list I.eK ⟨_,h1,rfl⟩ e (λz=>nomatch z) h
 | @dM a ob xs ea=>
  cases(show u=Value.ref a from rx)
  obtain⟨_,_,_,n,_,h1⟩:=(show eQ X.prog X.w H s.heap a (.dM ob (.lst xs)) from I.bZ a _ ea)
  exact nJ PySem.W.kitx_list I.eK ⟨_,h1,rfl⟩ e (λz=>nomatch z) h
 | @tup a xs ea=>
  cases(show u=Value.ref a from rx)
  obtain⟨_,_,_,p⟩:=(show eQ X.prog X.w H s.heap a (.tup xs) from I.bZ a _ ea)
  obtain⟨o,h1,h2,_⟩:=p;exact nJ PySem.W.kitx_tuple I.eK ⟨o,h1,h2⟩ e (λz=>nomatch z) h
 | @dK a bf ea=>
  cases(show u=Value.ref a from rx)
  obtain⟨_,_,vs,_,p⟩:=(show eQ X.prog X.w H s.heap a (.dK bf) from I.bZ a _ ea)
  obtain⟨o,es,ep,h1,h2,_⟩:=p;exact nJ PySem.W.kitx_dict I.eK ⟨o,h1,h2.1⟩ e (λz=>nomatch z) h
 | @dT a bf ea=>
  cases(show u=Value.ref a from rx)
  obtain⟨_,_,xs,_,o,es,ep,h1,h2,_⟩:=(show eQ X.prog X.w H s.heap a (.dT bf) from I.bZ a _ ea)
  exact nJ PySem.W.kitx_dict I.eK ⟨o,h1,h2.1⟩ e (λz=>nomatch z) h
 | @ins a C dx fs ea cl ha hn KY hm=>
  cases(show u=Value.ref a from rx)
  obtain⟨mA,O,_⟩:=Uk I.bZ ea;obtain⟨od,J,_⟩:=O.look;exact nJ (PySem.W.kitx_own (cl.get _) cl.hd ha hn KY hm) I.eK J e (λz=>nomatch z) h
end
structure dS(k:Nat)(A:Around):Prop where
 hd:A.handled=none
 dp:A.depth+3*k+5<recursionLimit
 un:A.units+16*k+200<cLine
theorem dS.mono{j k:Nat}(r:dS k A)(h:j<=k):dS j A:=⟨r.hd,by have:=r.dp;lia,by have:=r.un;lia⟩
theorem dS.deeper{k:Nat}{A:Around}(r:dS (k+1) A)(env:Env):dS k (A.deeper env):=
 ⟨r.hd,by have:=r.dp;show A.depth+1+3*k+5<_;lia,by have:=r.un;show A.units+3+16*k+200<_;lia⟩
theorem dS.depth{k:Nat}{A:Around}(r:dS k A):A.depth<recursionLimit:=by have:=r.dp;lia
theorem dS.units{k:Nat}{A:Around}(r:dS k A):A.units+64<cLine:=by have:=r.un;lia
def bQ:TA:=λ_ H Q=>Q [] H
def bo(ta:TE)(tr:TA):TA:=λσ H Q=>ta σ H λx H1=>tr σ H1 λxs H2=>Q (x::xs) H2
section
variable{X:Cx}{e:Expr}{es:List Expr}{te:TE}{t:TA}{pos:Pos}
theorem bq:PA X [] bQ:=λ_ _ _ _ H Q I h=>ug ⟨[],H,I,.nil,h⟩
theorem bg(ha:PE X e te)(hr:PA X es t)(hs:starEach (e::es) X.env=(false,eval e X.env)::starEach es X.env:=by rfl):PA X (e::es) (bo te t):=by
 intro pos bc s σ H Q I h;rw[hs];show wpAny _ _ (spliced ((false,eval e X.env)::backTo pos (starEach es X.env))) _ _ s;refine qr (bj (ha bc s σ H _ I h) λu s1 ⟨x,H1,I1,r1,q1⟩=>?_);exact bj (hr pos bc s1 σ H1 _ I1 q1) λus s2 ⟨xs,H2,I2,r2,q2⟩=>⟨x::xs,H2,I2,.cons r1 r2,q2⟩
def eX(t:TA):TE:=λσ H Q=>t σ H λxs H1=>xs.length<=sizeLine/\∀p,H1 p=none->Q (.ref p) (upd H1 p (.tup xs))
def cP(t:TA):TE:=λσ H Q=>t σ H λxs H1=>xs.length<=sizeLine/\∀p,H1 p=none->Q (.ref p) (upd H1 p (.lst xs))
theorem dh{x1}(h:PA X es t):PE X (.Tuple es x1 pos) (eX t):=by
 intro bc s σ H Q I hq;refine wpAny_Tuple_spliced (bj (h pos bc s σ H _ I hq) λus s1 ⟨xs,H1,I1,r,z,q⟩=>⟨by rw[<- r.length];exact z,?_⟩);have hf:H1 s1.heap.objs.size=none:=I1.bZ.fresh (cF _);refine⟨.ref s1.heap.objs.size,upd H1 s1.heap.objs.size (.tup xs),I1.laid (t':=s1.toks) (λb u e=>dJ _ e) (cF _) ?_,rfl,q _ hf⟩;exact⟨z,us,r,⟨_,gT _ rfl,rfl,rfl,_,rfl⟩⟩
theorem cK(h:PA X es t):PE X (.List es pos) (cP t):=by
 intro bc s σ H Q I hq;refine wpAny_List_spliced (bj (h pos bc s σ H _ I hq) λus s1 ⟨xs,H1,I1,r,z,q⟩=>⟨by rw[<- r.length];exact z,?_⟩);have hf:H1 s1.heap.objs.size=none:=I1.bZ.fresh (cF _);refine⟨.ref s1.heap.objs.size,upd H1 s1.heap.objs.size (.lst xs),I1.laid (t':=s1.toks) (λb u e=>dJ _ e) (cF _) ?_,rfl,q _ hf⟩;exact⟨z,us,0,r,gT _ rfl⟩
end
abbrev Sp:=List V->Hp->VK->XK->Prop
abbrev md:=List Env->Hp->Shared->XK->Value->Shared->Prop
structure uO(P:Program)(w:World)(K:Frag)(mg:Str->Option Value)(base:Heap)(A:Around)(outer:List Env)(s:Shared)(H:Hp):Prop where
 frames:A.frames=some outer
 mod:Mod K mg base
 bs:∀b o,base.get? b=some o->s.heap.get? b=some o/\H b=none
 qv:base.objs.size<=s.heap.objs.size
 mZ:s.heap.FunFrames base outer
 rV:∀b∈gq outer,H b=none
 bZ:dN P w H s.heap
 bare:AllBare s.gens
def CE(outer:List Env)(P:Program)(w:World)(H:Hp)(s:Shared)(Q:VK)(u:Value)(s':Shared):Prop:=
 ∃v H',s'.os=s.os/\AllBare s'.gens/\Un (gq outer) [] H H' s.heap s'.heap/\dN P w H' s'.heap/\RelV v u/\Q v H'
def CR(CX:md)(outer:List Env)(P:Program)(w:World)(H:Hp)(s:Shared)(Q:VK)(E:XK)(r:Result)(s':Shared):Prop:=
 match r with
 | .ok (.ret u)=>CE outer P w H s Q u s'
 | .ok _=>False
 | .error e=>CX outer H s E e s'
structure ck(P:Program)(w:World)(K:Frag)(mg:Str->Option Value)(base:Heap)(CX:md)(k:Nat)(f:Addr)(fd:FuncData)(ps:List Str)(sp:Sp):Prop where
 len:∀vs H Q E,sp vs H Q E->vs.length=ps.length
 run:∀(A:Around)(outer:List Env)(s:Shared)(H:Hp)(args:Args)(us:List Value)(vs:List V)(Q:VK)(E:XK),dS k A->uO P w K mg base A outer s H->BindsTo s fd args (ps.zip us)->Vals vs us->sp vs H Q E->
  codeAny (model P w) A (.call (.ref f) args) (CR CX outer P w H s Q E) s
section
variable{X:Cx}{bc:List (Addr×Obj)}{σ:St}{H:Hp}{s s':Shared}
theorem Inv.Ab(I:Inv X bc σ H s):uO X.prog X.w X.K X.mg X.base X.A X.stack s H:=
 ⟨I.ok.frames,I.ok.mod,I.bs,dj I.ok.qv I.sz,I.stack,I.zL,I.bZ,I.bare⟩
theorem Inv.after{Q:VK}(I:Inv X bc σ H s)(h:CE X.stack X.prog X.w H s Q u s'):EP X bc σ Q u s':=by
 obtain⟨v,H',os,bare,un,bZ,r,q⟩:=h;obtain⟨hh,g,d,t,Uo⟩:=s';obtain rfl:Uo=s.os:=os;exact⟨v,H',I.call (h':=hh) (g':=g) (d':=d) (t':=t) (ch:=[]) un bZ bare (λb z=>absurd z (by simp)),r,q⟩
end
def ij(sp:Sp)(oW:List V)(E:XK)(t:TA):TE:=λσ H Q=>t σ H λvs H1=>sp (vs++oW) H1 Q E
def Binds(K:Frag)(fd:FuncData)(ps:List Str)(ds:List Value):Prop:=
 ∀(s:Shared)(us:List Value),K.In s.heap->(us++ds).length=ps.length->BindsTo s fd ⟨us,[]⟩ (ps.zip (us++ds))
theorem Binds.all{K:Frag}{fd:FuncData}{ps:List Str}(h:∀us:List Value,us.length=ps.length->bindArgs fd ⟨us,[]⟩=pure (ps.zip us)):Binds K fd ps []:=λs us _ hl=>by
 rw[gU]at hl |-;exact .of_eq (h us hl)
def Passes(CX:md)(X:Cx)(E:XK):Prop:=∀(bc:List (Addr×Obj))(σ:St)(H:Hp)(s:Shared)(e:Value)(s':Shared),Inv X bc σ H s->CX X.stack H s E e s'->X.xe e s'
section
variable{X:Cx}{CX:md}{k:Nat}{f C:Addr}{fd:FuncData}{ps:List Str}{sp:Sp}{oW:List V}{ds:List Value}{E:XK}{x m:Str}{p pos gX:Pos}{e o:Expr}{es:List Expr}{ta:TE}{t:TA}
theorem KZ{Q:VK}{vs:List V}(F:ck X.prog X.w X.K X.mg X.base CX k f fd ps sp)(hr:dS k X.A)(hb:Binds X.K fd ps ds)(hd:Vals oW ds)(hx:Passes CX X E)
  (I:Inv X bc σ H s) (r:Vals vs us) (h:sp (vs++oW) H Q E):wpAny (model X.prog X.w) X.A (call (.ref f) us) (EP X bc σ Q) X.xe s:=by
 have r2:Vals (vs++oW) (us++ds):=r.append hd;have hl:(us++ds).length=ps.length:=by rw[<- r2.length];exact F.len _ _ _ _ h
 refine wpAny_call (codeAny_mono (F.run X.A X.stack s H ⟨us,[]⟩ (us++ds) (vs++oW) Q E hr I.Ab (hb s us I.eK hl) r2 h) λr s' hq=>?_);cases r with
 |error e=>exact hx bc σ H s e s' I hq
 |ok fl=>
  cases fl with
  |ret u=>exact I.after hq
  |next=>exact False.elim hq
  |brk=>exact False.elim hq
  |cont=>exact False.elim hq
theorem cZ(F:ck X.prog X.w X.K X.mg X.base CX k f fd ps sp)(hr:dS k X.A)(hg:Gl X x)(hm:X.mg x=some (.ref f))(hk:Kp X.K f)(hb:Binds X.K fd ps ds)(hd:Vals oW ds)(hx:Passes CX X E)
  (ha:PA X (e::es) t) (nQ:(x==("__debug__":Str))=false:=by decide) (he:starEach (e::es) X.env=(false,eval e X.env)::starEach es X.env:=by rfl) (ik:(backTo pos (starEach es X.env)).any (·.1)=false:=by rfl) :
  PE X (.Call (.Name x p) (e::es) [] pos) (ij sp oW E t):=by
 intro bc s σ H Q I h;refine az (uG I hg hm ?_ nQ);refine PySem.W.callWith_K (h₀:=X.base) I.ok.mod.pP hk (bj (ha pos bc s σ H _ I h) λus s1 ⟨vs,H1,I1,r,q⟩=>⟨I1.eK,?_⟩) he ik;exact KZ F hr hb hd hx I1 r q
theorem K0(F:ck X.prog X.w X.K X.mg X.base CX k f fd ps sp)(hr:dS k X.A)(hg:Gl X x)(hm:X.mg x=some (.ref f))(hk:Kp X.K f)(hb:Binds X.K fd ps ds)(hd:Vals oW ds)(hx:Passes CX X E)
  (nQ:(x==("__debug__":Str))=false:=by decide):PE X (.Call (.Name x p) [] [] pos) (ij sp oW E bQ):=by
 intro bc s σ H Q I h;refine az (uG I hg hm ?_ nQ);exact PySem.W.callWith_K0 I.eK hk (KZ (us:=[]) F hr hb hd hx I .nil h)
end
section
variable{X:Cx}{CX:md}{k:Nat}{f C:Addr}{fd:FuncData}{ps ks:List Str}{sp:Sp}{E:XK}{x m:Str}{p pos gX aee:Pos}{e o:Expr}{es:List Expr}{kws:List Keyword}{te ta:TE}{t tk:TA}{nm:Option Str}
variable{g:List Value->List Value->List Value}{gV:List V->List V->List V}
end
structure dD(N P:List Str)(sc:Scope):Prop where
 kind:sc.kind=.function
 co:sc.isCoroutine=false
 gen:sc.isGenerator=false
 nd:N.Nodup
 pre:N.take P.length=P
 par:∀x∈P,sc.names.lookup x=some .local\/sc.names.lookup x=some .cell
 Up:∀y∈sc.names,y.2≠.free
theorem dU{N P:List Str}{sc:Scope}(a:sc.kind=.function)(b:sc.isCoroutine=false)(c:sc.isGenerator=false)(h:N.Nodup/\(∀x∈P,sc.names.lookup x=some .local\/sc.names.lookup x=some .cell)/\∀y∈sc.names,y.2≠.free)(e:N.take P.length=P):dD N P sc:=⟨a,b,c,h.1,e,h.2.1,h.2.2⟩
theorem K1{kindOf:Str->Option NameKind}{x:Str}:∀{binds:List (Str×Value)}{m:Str->Option Value},(∀v,(x,v) ∉ binds)->bindL kindOf binds m x=m x
 | [],_,_=>rfl
 |(n,v)::r,m,h=>by
  unfold bindL;rw[K1 λw hw=>h w (e9 _ hw)];split
  ·have:x≠n:=by rintro rfl;exact h v c6
   simp[this]
  ·rfl
theorem K2{kindOf:Str->Option NameKind}{x:Str}:∀{binds:List (Str×Value)}{m:Str->Option Value},(∀v,(x,v) ∉ binds)->bindC kindOf binds m x=m x
 | [],_,_=>rfl
 |(n,v)::r,m,h=>by
  unfold bindC;rw[K2 λw hw=>h w (e9 _ hw)];split
  ·rfl
  ·have:x≠n:=by rintro rfl;exact h v c6
   simp[this]
theorem K3{kindOf:Str->Option NameKind}{x:Str}{v:Value}:∀{P:List Str}{vs:List Value}{i:Nat}{m:Str->Option Value},P.Nodup->P[i]?=some x->vs[i]?=some v->kindOf x=some .local->
  bindL kindOf (P.zip vs) m x=some v
 | [],_,_,_,_,h,_,_=>by simp at h
 |_::_,[],_,_,_,_,h,_=>by simp at h
 |p::P,w::vs,0,m,nd,h1,h2,hk=>by
  simp at h1 h2;subst h1;subst h2;show bindL kindOf ((p,w)::P.zip vs) m p=_;unfold bindL;rw[K1 λv hv=>(List.nodup_cons.mp nd).1 (List.of_mem_zip hv).1,ae hk];simp
 |p::P,w::vs,i+1,m,nd,h1,h2,hk=>by
  show bindL kindOf ((p,w)::P.zip vs) m x=_;unfold bindL;exact K3 (i:=i) (List.nodup_cons.mp nd).2 (by simpa using h1) (by simpa using h2) hk
theorem K4{kindOf:Str->Option NameKind}{x:Str}{v:Value}:∀{P:List Str}{vs:List Value}{i:Nat}{m:Str->Option Value},P.Nodup->P[i]?=some x->vs[i]?=some v->kindOf x≠some .local->
  bindC kindOf (P.zip vs) m x=some v
 | [],_,_,_,_,h,_,_=>by simp at h
 |_::_,[],_,_,_,_,h,_=>by simp at h
 |p::P,w::vs,0,m,nd,h1,h2,hk=>by
  simp at h1 h2;subst h1;subst h2;show bindC kindOf ((p,w)::P.zip vs) m p=_;unfold bindC;rw[K2 λv hv=>(List.nodup_cons.mp nd).1 (List.of_mem_zip hv).1,af hk];simp
 |p::P,w::vs,i+1,m,nd,h1,h2,hk=>by
  show bindC kindOf ((p,w)::P.zip vs) m x=_;unfold bindC;exact K4 (i:=i) (List.nodup_cons.mp nd).2 (by simpa using h1) (by simpa using h2) hk
noncomputable def start(N:List Str)(vs:List V):St:=vs.map some++List.replicate (N.length-vs.length) none
noncomputable def jH(CX:md)(P:Program)(w:World)(K:Frag)(mg:Str->Option Value)(base:Heap)(N:List Str)(qual:Str)(scope:Scope)(f:Addr)(cd:Value)(A:Around)(outer:List Env)(s:Shared)(H:Hp)(E:XK):Cx where
 prog:=P
 w:=w
 K:=K
 mg:=mg
 base:=base
 A:=A.deeper (envOfC qual scope s.heap.objs.size f cd)
 N:=N
 s₀:=s
 H₀:=H
 env:=envOfC qual scope s.heap.objs.size f cd
 outer:=outer
 stack:=envOfC qual scope s.heap.objs.size f cd::outer
 ex:=[]
 calm:=true
 fn:=λ_=>true
 pn:=[]
 xe:=λe s'=>wpAny (model P w) (A.deeper (envOfC qual scope s.heap.objs.size f cd)) (leaving (envOfC qual scope s.heap.objs.size f cd) e) (λ_ jI=>CX outer H s E e jI) (λe' jI=>CX outer H s E e' jI) s'
theorem K5{sc:Scope}(h:sc.names.lookup x=some .cell):∃c,(cellsFrom n sc.names []).lookup x=some c:=by
 have q:=Df sc.names n [] (.inl h);exact wG.mp q
theorem DX{CX:md}{P:Program}{w:World}{K:Frag}{mg:Str->Option Value}{base:Heap}{N ps:List Str}{qual:Str}{scope:Scope}{f:Addr}{cd:Value}{outer:List Env}{s1:Shared}{E:XK}{vs:List V}
  (S:dD N ps scope) (hd:A.handled=none) (e0:uO P w K mg base A outer s H) (hl:vs.length=ps.length) (r:Vals vs us)
  (x:InCallC s s.heap.objs.size (bindL (envOfC qual scope s.heap.objs.size f cd).kindOf (ps.zip us) λ_=>none) (cellsFrom (s.heap.objs.size+1) scope.names []) (bindC (envOfC qual scope s.heap.objs.size f cd).kindOf (ps.zip us) λ_=>none) s1) :
  Inv (jH CX P w K mg base N qual scope f cd A outer s H E) [] (start N vs) H s1:=by
 have ik:ps.length<=N.length:=by have:=ai List.length S.pre;rw[oH]at this;lia
 obtain⟨h1,tk,rfl,hk⟩:=x.done;have xa:∀b:Addr,b ∉ (jH CX P w K mg base N qual scope f cd A outer s H E).ex:=λb z=>absurd (show b∈([]:List Addr) from z) (by simp)
 refine⟨⟨e0.mod,S.kind,rfl,rfl,cF _,λy z c h1 h2=>?_,λy hy=>?_,λy c _ h=>?_,λ_=>hd,Around.frames_deeper e0.frames,.inr ⟨rfl,rfl⟩,λb z=>absurd z (xa b),e0.bs,e0.qv,λb _ _=>xa b,λb z=>absurd z (xa b),e0.mZ,e0.rV⟩,
  rfl,e0.bare,Un.kept hk,⟨_,x.toInCall.ns,λi y v h1 h2 h3=>?_⟩,λy c h=>⟨_,x.cell y c h⟩,e0.bZ.fresh (cF _),λy c h=>?_,λp hp=>absurd (show p∈([]:List (Addr×Obj)) from hp) (by simp),e0.bZ.kept hk,?_⟩
 ·exact name_of_addr x.apart (rM h1) (rM h2)
 ·have hy:scope.names.lookup y=some .cell\/scope.names.lookup y=some .free:=hy;rcases hy with hy|hy
  ·exact K5 hy
  ·exact absurd rfl (S.Up _ (rM hy))
 ·exact Nat.le_of_lt (x.above y c (rM h))
 ·have hi:i<vs.length:=by
   unfold start at h2;by_cases hi:i<vs.length
   ·exact hi
   ·rw[kZ (by simpa using hi)]at h2;rw[List.getElem?_replicate]at h2;split at h2<;>cases h2
  have ha:vs[i]?=some v:=by
   unfold start at h2;rw[lg (by simpa using hi),fw]at h2;cases e:vs[i]? with
   |none=>rw[e]at h2;cases h2
   |some a=>rw[e]at h2;cases h2;rfl
  obtain⟨u,hu,rv⟩:=r.get ha;have hp:ps[i]?=some y:=by
   rw[<- S.pre,List.getElem?_take_of_lt (by lia)];exact h1
  have K6:ps.Nodup:=by rw[<- S.pre];exact S.nd.sublist (List.take_sublist _ _)
  refine⟨u,rv,?_⟩;rcases S.par y (iO hp)with k|k
  ·exact .inl ⟨k,K3 K6 hp hu k⟩
  ·obtain⟨c,e⟩:=K5 (n:=s.heap.objs.size+1) k;refine .inr ⟨.inl k,c,e,?_⟩;have q:=x.cell y c e;rw[K4 K6 hp hu (by show scope.names.lookup y≠_;rw[k];decide)]at q;exact q
 ·exact e0.bZ.fresh (Nat.le_of_lt (x.above y c (rM h)))
 ·unfold start;show _=N.length;rw[cL,cB,uh];lia
theorem K7{CX:md}{P:Program}{w:World}{K:Frag}{mg:Str->Option Value}{base:Heap}{k:Nat}{f:Addr}{name qual:Str}{params:Arguments}{scope:Scope}{dV kV doc pm cI ct oc:Value}{an od:Option Addr}
  {me:Array (Option Value)} {N ps:List Str} {sp:Sp} (lk:K.lookup f=some ⟨oc,od,.func (fnOf name qual params body scope dV kV doc pm an cI ct),me⟩) (iA:PySem.W.codeIn K cI qual=true) (S:dD N ps scope)
  (len:∀vs H Q E,sp vs H Q E->vs.length=ps.length)
  (sj:∀(A:Around)(outer:List Env)(s:Shared)(H:Hp)(vs:List V)(Q:VK)(E:XK),dS k (A.deeper (envOfC qual scope s.heap.objs.size f cI))->sp vs H Q E->
   ∃t,jW (jH CX P w K mg base N qual scope f cI A outer s H E) body t/\t { nx:=λ_ H'=>Q .cC H',rt:=Q } (start N vs) H) :
  ck P w K mg base CX (k+1) f (fnOf name qual params body scope dV kV doc pm an cI ct) ps sp:=by
 refine⟨len,λA outer s H args us vs Q E hr e0 hb r jf=>?_⟩;have hl:=len _ _ _ _ jf;have KX:K.In s.heap:=e0.mod.pP.keeps λb o e=>(e0.bs b o e).1;have xb:s.heap.NoLimit:=e0.mod.nolimit.keeps λb o e=>(e0.bs b o e).1;have xc:∀y∈ps.zip us,scope.names.lookup y.1=some .local\/(scope.names.lookup y.1=some .cell/\((cellsFrom (s.heap.objs.size+1) scope.names []).lookup y.1).isSome=true):=λ⟨n,v⟩ hy=>by
  rcases S.par n (List.of_mem_zip hy).1 with q|q
  ·exact .inl q
  ·exact .inr ⟨q,Df _ _ _ (.inl q)⟩
 refine codeAny_call_function hr.depth (KX _ _ lk) rfl S.co S.gen rfl (PySem.W.codeRec_of KX iA) (hb _ _ _ _ ?_);refine aA S.kind xc λenv he s1 x=>?_;subst he;refine⟨xb.keeps x.toInCall.keep,codeAny_func ?_⟩;obtain⟨t,ht,hq⟩:=sj A outer s H vs Q E (hr.deeper _) jf;have I:Inv (jH CX P w K mg base N qual scope f cI A outer s H E) [] (start N vs) H s1:=DX S hr.hd e0 hl r x;refine ag (ht [] s1 (start N vs) H _ I hq) (λfl s' hs=>?_) λe s' hs=>hs;have fin:∀{σ':St}{H':Hp}{v:V}{u:Value},Inv (jH CX P w K mg base N qual scope f cI A outer s H E) [] σ' H' s'->RelV v u->Q v H'->CE outer P w H s Q u s':=
  λ{σ' H' v u} J rv q=>⟨v,H',J.os,J.bare,J.base,J.bZ,rv,q⟩
 cases fl with
 |ret u=>
  obtain⟨v,σ',H',J,rv,q⟩:=hs;exact fin J rv q
 |next=>
  obtain⟨σ',H',J,q⟩:=hs;exact fin (v:=V.cC) (u:=Value.none) J rfl q
 |brk=>
  obtain⟨_,_,_,q⟩:=hs;exact False.elim q
 |cont=>
  obtain⟨_,_,_,q⟩:=hs;exact False.elim q
section
variable{X:Cx}{x:Str}{p pos:Pos}{e:Expr}{es:List Expr}{t:TA}{id T:String}{r:List V->Hp->VK->Prop}
def lA(r:List V->Hp->VK->Prop)(t:TA):TE:=λσ H Q=>t σ H λvs H1=>r vs H1 Q
theorem gu(hc:eW X (.builtin id) r)(hg:Gl X x)(hm:X.mg x=none)(hv:bootBuiltins x=some (.builtin id))(ha:PA X (e::es) t)(hn:x ≠ "__name__":=by decide)(nQ:(x==("__debug__":Str))=false:=by decide)
  (he:starEach (e::es) X.env=(false,eval e X.env)::starEach es X.env:=by rfl) (ik:(backTo pos (starEach es X.env)).any (·.1)=false:=by rfl):PE X (.Call (.Name x p) (e::es) [] pos) (lA r t):=by
 intro bc s σ H Q I h;refine az (pR I hg hm hv ?_ hn nQ);exact PyProof.Rows.callWith_builtin1 (bj (ha pos bc s σ H _ I h) λus s1 ⟨vs,H1,I1,r1,q1⟩=>hc bc s1 σ H1 vs us Q I1 r1 q1) he ik
theorem oX(hc:eW X (.type T) r)(hg:Gl X x)(hm:X.mg x=none)(hv:bootBuiltins x=some (.type T))(ha:PA X (e::es) t)(hn:x ≠ "__name__":=by decide)(nQ:(x==("__debug__":Str))=false:=by decide)
  (he:starEach (e::es) X.env=(false,eval e X.env)::starEach es X.env:=by rfl) (ik:(backTo pos (starEach es X.env)).any (·.1)=false:=by rfl):PE X (.Call (.Name x p) (e::es) [] pos) (lA r t):=by
 intro bc s σ H Q I h;refine az (pR I hg hm hv ?_ hn nQ);exact wF (bj (ha pos bc s σ H _ I h) λus s1 ⟨vs,H1,I1,r1,q1⟩=>hc bc s1 σ H1 vs us Q I1 r1 q1) he ik
end
end L2
namespace HT
open PySem PyProof.Rows
section
open PySem.SeqAt
open PySem.AutoSeq1 (wpAny_loadPart')
open PySem.MeetsSeq PySem.MeetsSeq2 PySem.MeetsSeq3
end
section
variable{prog:Program}{w:World}{A:Around}{E:QV}{s:Shared}
theorem Uq{t b:Addr}{vs ws:List Value}{Q:QV}(ht:IsTup s.heap t vs.toArray)(hb:IsTup s.heap b ws.toArray)(hv:vs≠[])
  (h1:ws=[]->Q (.ref t) s) (h2:ws≠[]->Q (.ref s.heap.objs.size) { s with heap:=s.heap.push { cls:=.type "tuple",data:=.seq (vs++ws).toArray } })
  (hsz:vs.length+ws.length<=sizeLine):wpAny (model prog w) A (binaryOp .Add (.ref t) (.ref b)) Q E s:=by
 obtain⟨⟨cls,dd,data,sl⟩,ho,hc,n,hd⟩:=id ht;obtain⟨⟨aef,Ac,data2,uP⟩,sk,uQ,n2,oY⟩:=id hb;simp only at hc hd uQ oY;subst hc hd uQ oY;have e:vs.toArray++ws.toArray=(vs++ws).toArray:=by simp
 by_cases hw:ws=[]
 ·exact concat_meets ⟨_,ho,rfl⟩ ⟨_,sk,rfl⟩ noFill_tuple_add seq_tuple_add PySem.F.slot_tuple_add PySem.F.entry_tuple_add (PySem.F.args_tuple_add_2 _ _)
   (tuple_addW1 t b vs.toArray ws.toArray n n2 dd Ac sl uP (by simpa using hv) (by simp[hw])) ⟨ho,sk,h1 hw⟩
 ·refine concat_meets ⟨_,ho,rfl⟩ ⟨_,sk,rfl⟩ noFill_tuple_add seq_tuple_add PySem.F.slot_tuple_add PySem.F.entry_tuple_add (PySem.F.args_tuple_add_2 _ _)
   (tuple_addW2 t b vs.toArray ws.toArray n n2 dd Ac sl uP (by simpa using hv) (by simpa using hw) (by rw[dR,dR];exact hsz)) ⟨ho,sk,?_⟩
  rw[e];exact h2 hw
noncomputable def cQ(n d:Nat):Option Int->Nat
 |none=>d
 |some v=>if v<0 then(v+(n:Int)).toNat else min v.toNat n
theorem DY(n d:Nat):cQ n d none=d:=rfl
theorem Ad(n d k:Nat):cQ n d (some (k:Int))=min k n:=by
 show(if(k:Int)<0 then((k:Int)+(n:Int)).toNat else min (k:Int).toNat n)=min k n
 rw[af (by lia),Int.toNat_natCast]
theorem Ur(n d:Nat)(hd:d<=n)(o:Option Int):cQ n d o<=n:=by
 cases o with
 |none=>exact hd
 |some v=>
  show(if v<0 then(v+(n:Int)).toNat else min v.toNat n)<=n
  by_cases hv:v<0
  ·rw[ae hv];lia
  ·rw[af hv];exact Nat.min_le_right _ _
theorem K8(v:Int)(n d:Nat):(if v<0 then max (v+(n:Int)) 0 else min v (n:Int))=((cQ n d (some v):Nat):Int):=by
 show(if v<0 then max (v+(n:Int)) 0 else min v (n:Int))=(((if v<0 then(v+(n:Int)).toNat else min v.toNat n):Nat):Int)
 by_cases hv:v<0
 ·simp only[ae hv];lia
 ·simp only[af hv];lia
theorem Us(lo hi:Option Int)(n:Nat):Builtin.Slice.sliceAdjust lo hi 1 (n:Int)=(((cQ n 0 lo:Nat):Int),((cQ n n hi:Nat):Int)):=by
 have h1:¬((1:Int)<0):=by lia
 unfold Builtin.Slice.sliceAdjust;simp only[h1,if_false];refine Prod.ext ?_ ?_
 ·cases lo with
  |none=>rfl
  |some v=>exact K8 v n 0
 ·cases hi with
  |none=>rfl
  |some v=>exact K8 v n n
theorem Ut(i j:Nat):Builtin.Slice.slicePlaces (i:Int) (j:Int) 1=j-i:=by
 unfold Builtin.Slice.slicePlaces;have h1:(1:Int)>0:=by lia
 simp only[h1,if_true,Int.ediv_one];split<;>lia
theorem K9{v:Value}{o:Option Int}{Q:Option Int->Shared->Prop}(p:IsPart v o)(h:Q o s):wpAny (model prog w) A (Builtin.Slice.slicePartIndex v) Q E s:=by
 cases p with
 |none=>exact slicePart_none h
 |int i t=>exact slicePart_int h
theorem La{sl:Addr}{vl vu:Value}{lo hi:Option Int}{n:Nat}{Q:Int×Int×Nat->Shared->Prop}(hs:s.heap.IsSliceOf sl vl vu .none)(pl:IsPart vl lo)(pu:IsPart vu hi)
  (h:Q (((cQ n 0 lo:Nat):Int),1,cQ n n hi-cQ n 0 lo) s):wpAny (model prog w) A (Builtin.Slice.sliceApplied (.ref sl) (pure (n:Int))) Q E s:=by
 obtain⟨os,so,Ae,xf⟩:=id hs;unfold Builtin.Slice.sliceApplied Builtin.Slice.sliceFields;refine ak (ak (aB so xf (x:=vl) rfl (ak (aB so xf (x:=vu) rfl (ak (aB so xf (x:=.none) rfl (au ?_)))))));refine ak (slicePart_none ?_);show wpAny _ _ (if((1:Int)==0)=true then _ else _) _ _ s
 rw[af (by decide)];refine ak (K9 pl (ak (K9 pu (ak (au ?_)))));show wpAny _ _ (match Builtin.Slice.sliceAdjust lo hi 1 (n:Int)with|(lo,hi)=>pure (lo,(1:Int),Builtin.Slice.slicePlaces lo hi 1)) _ _ s
 rw[Us lo hi n];show wpAny _ _ (pure (((cQ n 0 lo:Nat):Int),(1:Int),Builtin.Slice.slicePlaces ((cQ n 0 lo:Nat):Int) ((cQ n n hi:Nat):Int) 1)) _ _ s;rw[Ut];exact au h
theorem Uu(xs:Array Value)(i k:Nat):((List.range k).filterMap λ(m:Nat)=>xs[((i:Int)+(m:Int)*1).toNat]?).toArray=((xs.toList.drop i).take k).toArray:=by
 have e:(λ(m:Nat)=>xs[((i:Int)+(m:Int)*1).toNat]?)=λm=>xs[i+m]?:=by
  funext m
  have:((i:Int)+(m:Int)*1).toNat=i+m:=by lia
  rw[this]
 rw[e]
 have:=pick_run xs i k
 rw[List.filterMap_map]at this;have e2:((λx=>xs[x]?) ∘ λx=>i+x)=λm=>xs[i+m]?:=rfl;rw[e2]at this;rw[this]
theorem Uv{t sl:Addr}{items:Array Value}{vl vu:Value}{lo hi:Option Int}{Q:QV}(ht:IsTup s.heap t items)(hs:s.heap.IsSliceOf sl vl vu .none)(pl:IsPart vl lo)(pu:IsPart vu hi)
  (hw:¬(cQ items.size 0 lo=0/\cQ items.size items.size hi=items.size))
  (h:Q (.ref s.heap.objs.size) { s with heap:=s.heap.push { cls:=.type "tuple",data:=.seq ((items.toList.drop (cQ items.size 0 lo)).take (cQ items.size items.size hi-cQ items.size 0 lo)).toArray } })
  (hsz:items.size<=sizeLine):wpAny (model prog w) A (getItem (.ref t) (.ref sl)) Q E s:=by
 have Af:sizeOk (.seq ((items.toList.drop (cQ items.size 0 lo)).take (cQ items.size items.size hi-cQ items.size 0 lo)).toArray):=by
  show((items.toList.drop (cQ items.size 0 lo)).take (cQ items.size items.size hi-cQ items.size 0 lo)).toArray.size<=sizeLine;rw[dR,oH,nK,pK];lia
 have hj:cQ items.size items.size hi<=items.size:=Ur _ _ (cF _) hi;obtain⟨os,so,Ae,xf⟩:=id hs;have DZ:s.TypeIs (.ref sl) "slice":=⟨os,so,Ae⟩;unfold getItem
 try with_reducible refine ao ?_
 first|refine ak (au ?_)|skip
 refine ak (wpAny_sequenceKey ht.typeIs (by decide) ?_);refine ak (aC (name:=Str.ofString "__getitem__") ht.typeIs zB (aE zB ht.typeIs entry_tuple_getitem ?_ (args_tuple_getitem _ _)));show wpAny _ _ (Builtin.Tuple.tupleItemsOf (.ref t) >>= _) _ _ s;refine ak (tupleItemsOf_ ht ?_);refine ak (wpAny_typeOf DZ ?_);rw[ae (by decide)];refine ak (La hs pl pu ?_);have sr:¬((((cQ items.size 0 lo:Nat):Int)==0&&(1:Int)==1&&(cQ items.size items.size hi-cQ items.size 0 lo)==items.size)=true):=by
  intro q;rw[dq,dq]at q;have q1:((cQ items.size 0 lo:Nat):Int)=0:=eq_of_beq q.1.1;have q2:cQ items.size items.size hi-cQ items.size 0 lo=items.size:=eq_of_beq q.2;exact hw ⟨by lia,by lia⟩
 show wpAny _ _ (if(((cQ items.size 0 lo:Nat):Int)==0&&(1:Int)==1&&(cQ items.size items.size hi-cQ items.size 0 lo)==items.size)=true then _ else _) _ _ s
 rw[af sr,Uu];first
  |exact ak (m:=Builtin.Tuple.tupleExact _) (aF (au ⟨_,rfl,au h⟩) Af)
  |exact ak (m:=Builtin.Tuple.tupleExact _) (aF (ak (au (au ⟨_,rfl,au h⟩))) Af)
  |exact ak (ak (m:=Builtin.Tuple.tupleExact _) (aF (au (au ⟨_,rfl,au h⟩)) Af))
  |exact ak (ak (m:=Builtin.Tuple.tupleExact _) (aF (au ⟨_,rfl,au h⟩) Af))
end
end HT
namespace L2
open PySem PySem.Spec PyProof.Rows
variable{its:List Value}{n:Nat}{s:Shared}{x:V}{α:Type}
abbrev TO:=St->Hp->(Option Int->Hp->Prop)->Prop
def PO(X:Cx)(e:Option Expr)(t:TO):Prop:=
 ∀(bc:List (Addr×Obj))(s:Shared)(σ:St)(H:Hp)(Q:Option Int->Hp->Prop),Inv X bc σ H s->t σ H Q->
  wpAny (model X.prog X.w) X.A (evalPart e X.env) (λu s'=>∃o H',Inv X bc σ H' s'/\IsPart u o/\Q o H') X.xe s
def uR:TO:=λ_ H Q=>Q none H
def uS(t:TE):TO:=λσ H Q=>t σ H λx H1=>∃i,x=.int i/\Q (some i) H1
section
variable{X:Cx}{e:Expr}{te:TE}{lo hi:Option Expr}{tl th:TO}{pos p2:Pos}
theorem mf:PO X none uR:=by
 intro bc s σ H Q I h;rw[evalPart_none];exact au ⟨none,H,I,.none,h⟩
theorem iS(h:PE X e te):PO X (some e) (uS te):=by
 intro bc s σ H Q I hw;rw[evalPart_some];refine bj (h bc s σ H _ I hw) λu s1 ⟨x,H1,I1,r1,q1⟩=>?_;obtain⟨i,rfl,q⟩:=q1;obtain⟨t,rfl⟩:=r1;exact⟨some i,H1,I1,.int i t,q⟩
def su(X:Cx)(r:V->Option Int->Option Int->Hp->VK->Prop):Prop:=
 ∀(bc:List (Addr×Obj))(s:Shared)(σ:St)(H:Hp)(x:V)(v vl vu:Value)(lo hi:Option Int)(sl:Addr)(Q:VK),Inv X bc σ H s->RelV x v->s.heap.IsSliceOf sl vl vu .none->IsPart vl lo->IsPart vu hi->r x lo hi H Q->
  ∃T id,typeLookup (.type T) "__getitem__"=pure (some (.builtin id))/\s.TypeIs v T/\wpAny (model X.prog X.w) X.A (getItem v (.ref sl)) (EP X bc σ Q) X.xe s
def uT(r:V->Option Int->Option Int->Hp->VK->Prop)(te:TE)(tl th:TO):TE:=λσ H Q=>te σ H λx H1=>tl σ H1 λl H2=>th σ H2 λu H3=>r x l u H3 Q
theorem jJ{r:V->Option Int->Option Int->Hp->VK->Prop}(hr:su X r)(he:PE X e te)(hl:PO X lo tl)(hu:PO X hi th):PE X (.Subscript e (.Slice lo hi none p2) pos) (uT r te tl th):=by
 intro bc s σ H Q I h;refine Subscript_ (bj (he bc s σ H _ I h) λv s1 ⟨x,H1,I1,r1,q1⟩=>?_);refine wpAny_Slice (bj (hl bc s1 σ H1 _ I1 q1) λvl s2 ⟨l,H2,I2,pl,q2⟩=>bj (hu bc s2 σ H2 _ I2 q2) λvu s3 ⟨u,H3,I3,pu,q3⟩=>?_);rw[evalPart_none];refine au ?_;have I4:Inv X bc σ H3 { s3 with heap:=s3.heap.push { cls:=.type "slice",data:=.fields #[vl,vu,.none] } }:=I3.kept (t':=s3.toks) λb ob q=>dJ _ q;obtain⟨T,id,hT,ht,hg⟩:=hr bc { s3 with heap:=s3.heap.push { cls:=.type "slice",data:=.fields #[vl,vu,.none] } } σ H3 x v vl vu l u s3.heap.objs.size Q I4 r1 (Heap.IsSliceOf.new ..) pl pu q3;show wpAny (model X.prog X.w) X.A (subscriptTail e (.Slice lo hi none p2) v (.ref s3.heap.objs.size)) (EP X bc σ Q) X.xe { s3 with heap:=s3.heap.push { cls:=.type "slice",data:=.fields #[vl,vu,.none] } };exact tail_any (ops:=[.ref s3.heap.objs.size,v]) ht hT hg (by with_unfolding_all rfl)
noncomputable def iJ(xs:List V)(lo hi:Option Int):List V:=(xs.drop (HT.cQ xs.length 0 lo)).take (HT.cQ xs.length xs.length hi-HT.cQ xs.length 0 lo)
theorem Lb(xs:List V)(lo hi:Option Int):(iJ xs lo hi).length<=xs.length:=by
 unfold iJ;rw[oH,nK];lia
def Uw(K:Frag):V->Option Int->Option Int->Hp->VK->Prop:=λx lo hi H Q=>∃a xs,x=.ref a/\cg K H a xs/\
 ¬(HT.cQ xs.length 0 lo=0/\HT.cQ xs.length xs.length hi=xs.length)/\∀p,H p=none->Q (.ref p) (upd H p (.tup (iJ xs lo hi)))
theorem Ux:su X (Uw X.K):=by
 intro bc s σ H x v vl vu lo hi sl Q I rx hs pl pu h;obtain⟨a,xs,rfl,hx,hw,q⟩:=h;cases rx;obtain⟨its,r,ht,hz⟩:=I.tuple hx;have cT:its.toArray.size=xs.length:=by rw[dR];exact r.length.symm
 refine⟨"tuple",_,zB.lookup,ht.typeIs,?_⟩;refine HT.Uv ht hs pl pu (by rw[cT];exact hw) ?_ (by rw[cT];exact hz);rw[cT];refine⟨.ref s.heap.objs.size,_,I.laid (t':=s.toks) (o:=.tup (iJ xs lo hi)) (λb ob q=>dJ _ q) (cF _) ?_,rfl,q _ (I.bZ.fresh (cF _))⟩;exact⟨dj (Lb xs lo hi) hz,_,(r.drop (HT.cQ xs.length 0 lo)).take (HT.cQ xs.length xs.length hi-HT.cQ xs.length 0 lo),pN.new _ _⟩
def Uy(K:Frag):R2:=λx y H Q=>∃a b xs ys,x=.ref a/\y=.ref b/\cg K H a xs/\cg K H b ys/\xs≠[]/\xs.length+ys.length<=sizeLine/\
 (ys=[]->Q (.ref a) H)/\(ys≠[]->∀p,H p=none->Q (.ref p) (upd H p (.tup (xs++ys))))
theorem Vals.uU{xs:List V}{us:List Value}(r:Vals xs us):us=[]↔xs=[]:=by
 cases r with
 |nil=>simp
 |cons _ _=>simp
theorem Uz:eU X (binaryOp .Add) (Uy X.K):=by
 intro bc s σ H x y v u Q I rx ry h;obtain⟨a,b,xs,ys,rfl,rfl,ha,hb,hx,hz,q1,q2⟩:=h;cases rx;cases ry;obtain⟨its,r1,p1,_⟩:=I.tuple ha;obtain⟨ju,r2,p2,_⟩:=I.tuple hb;refine HT.Uq p1 p2 (λz=>hx (r1.uU.mp z)) (λz=>⟨.ref a,H,I,rfl,q1 (r2.uU.mp z)⟩) (λz=>?_) (by rw[<- r1.length,<- r2.length];exact hz);refine⟨.ref s.heap.objs.size,_,I.laid (t':=s.toks) (o:=.tup (xs++ys)) (λb ob q=>dJ _ q) (cF _) ?_,rfl,q2 (λw=>z (r2.uU.mpr w)) _ (I.bZ.fresh (cF _))⟩;exact⟨by rw[cL];exact hz,_,r1.append r2,pN.new _ _⟩
end
noncomputable def pT(n:Nat)(i:Int):Option Nat:=if 0<=i then(if i<n then some i.toNat else none)else if -(n:Int)<=i then some (i+n).toNat else none
noncomputable def jK(xs:List α)(i:Int):Option α:=(pT xs.length i).bind λj=>xs[j]?
theorem Lc{i:Int}{j:Nat}(h:pT n i=some j):seqIndex? i n=some j/\j<n/\-(n:Int)<=i/\i<n:=by
 unfold pT at h;by_cases h0:0<=i
 ·rw[ae h0]at h;by_cases h1:i<n
  ·rw[ae h1]at h;have e:i.toNat=j:=eF h;exact⟨by rw[seqIndex_of h0 h1,e],by lia,by lia,h1⟩
  ·rw[af h1]at h;cases h
 ·rw[af h0]at h;by_cases h1:-(n:Int)<=i
  ·rw[ae h1]at h;have e:(i+n).toNat=j:=eF h;exact⟨by rw[seqIndex_neg (by lia) h1,e],by lia,h1,by lia⟩
  ·rw[af h1]at h;cases h
theorem D6{xs:List α}{i:Int}{v:α}(h:jK xs i=some v):∃j,seqIndex? i xs.length=some j/\xs[j]?=some v/\j<xs.length/\-(xs.length:Int)<=i/\i<xs.length:=by
 unfold jK at h;cases e:pT xs.length i with
 |none=>rw[e]at h;cases h
 |some j=>
  rw[e]at h;obtain⟨h1,h2,h3,h4⟩:=Lc e;exact⟨j,h1,h,h2,h3,h4⟩
theorem cc{xs:List α}{j:Nat}{v:α}(h:xs[j]?=some v):jK xs (j:Int)=some v:=by
 have hj:j<xs.length:=(fO.mp h).1;have e:pT xs.length (j:Int)=some j:=by
  unfold pT;rw[ae (by lia),ae (by lia)];simp
 unfold jK;rw[e];exact h
theorem Ld(xs:List α)(v:α):jK (xs++[v]) (-1)=some v:=by
 have hl:(xs++[v]).length=xs.length+1:=by simp
 have e:pT (xs++[v]).length (-1)=some xs.length:=by
  unfold pT;rw[hl,af (by decide),ae (by lia)]
  congr 1
  lia
 unfold jK;rw[e];show(xs++[v])[xs.length]?=some v;simp
def UA(b:Expr):Prop:=∀o i,subscripted b false o i=operate [o,i] (getItem o i)
def uW(X:Cx)(r:R2):Prop:=
 ∀(value slice:Expr)(bc:List (Addr×Obj))(s:Shared)(σ:St)(H:Hp)(x y:V)(v u:Value)(Q:VK),Inv X bc σ H s->RelV x v->RelV y u->r x y H Q->
  subscripted slice false v u=operate [v,u] (getItem v u)->wpAny (model X.prog X.w) X.A (subscriptTail value slice v u) (EP X bc σ Q) X.xe s
def Ag(X:Cx)(id:String)(r:V->List V->Hp->VK->Prop):Prop:=
 ∀(bc:List (Addr×Obj))(s:Shared)(σ:St)(H:Hp)(x:V)(xs:List V)(v:Value)(us:List Value)(Q:VK),Inv X bc σ H s->RelV x v->Vals xs us->r x xs H Q->
  wpAny (model X.prog X.w) X.A (call (.builtin id) (v::us)) (EP X bc σ Q) X.xe s
section
variable{X:Cx}{a b:Expr}{ta tb:TE}{pos:Pos}
theorem bO{r:R2}(hr:uW X r)(ha:PE X a ta)(hb:PE X b tb)(hs:UA b:=by exact λ_ _=>rfl):PE X (.Subscript a b pos) (bw r ta tb):=by
 intro bc s σ H Q I h;exact Subscript_ (DP ha hb I h λv u s2 x y H2 I2 rx ry q=>hr a b bc s2 σ H2 x y v u Q I2 rx ry q (hs _ _))
def gJ(K:Frag):R2:=λx y H Q=>∃p xs i v,x=.ref p/\y=.int i/\dC K H p xs/\jK xs i=some v/\Q v H
def xg(K:Frag):R2:=λx y H Q=>∃p xs i v,x=.ref p/\y=.int i/\cg K H p xs/\jK xs i=some v/\Q v H
def Le:R2:=λx y H Q=>∃z i c,x=.str z/\y=.int i/\z.length<=sizeLine/\jK z.cps.toList i=some c/\Q (.str ⟨#[c]⟩) H
theorem UB:uW X (gJ X.K):=by
 intro value slice bc s σ H x y v u Q I rx ry h hs;obtain⟨p,xs,i,z,rfl,rfl,hq,he,q⟩:=h;cases rx;obtain⟨t,rfl⟩:=ry;obtain⟨its,r,pl,hz⟩:=I.list hq;obtain⟨j,h1,h2,h3,h4,h5⟩:=D6 he;obtain⟨w,ew,mh⟩:=r.get h2;have hl:=r.length;have hn:=si;have fin:EP X bc σ Q w s:=⟨z,H,I,mh,q⟩;by_cases h0:0<=i
 ·have hj:i.toNat=j:=by
   rw[seqIndex_of h0 h5]at h1;exact eF h1
  exact item_listR pl.isList h0 (by lia) (by rw[hj];simpa using ew) fin hs
 ·have hj:(i+(its.toArray.size:Int)).toNat=j:=by
   rw[seqIndex_neg (by lia) h4]at h1;rw[dR,<- hl];exact eF h1
  exact subscriptTail_builtinR (x:=w) pl.isList.typeIs slot_list_getitem.lookup
   (wpAny_getItem_list_neg (Q:=λr s'=>r=w/\EP X bc σ Q r s') pl.isList (by lia) (by rw[dR]<;>lia) (by lia) (by rw[hj];simpa using ew) ⟨rfl,fin⟩) hs
theorem UC:uW X (xg X.K):=by
 intro value slice bc s σ H x y v u Q I rx ry h hs;obtain⟨p,xs,i,z,rfl,rfl,hq,he,q⟩:=h;cases rx;obtain⟨t,rfl⟩:=ry;obtain⟨its,r,pl,hz⟩:=I.tuple hq;obtain⟨j,h1,h2,h3,h4,h5⟩:=D6 he;obtain⟨w,ew,mh⟩:=r.get h2;have hl:=r.length;have hn:=si;have fin:EP X bc σ Q w s:=⟨z,H,I,mh,q⟩;exact subscriptTail_builtinR (x:=w) pl.typeIs slot_tuple_getitem.lookup
  (getItem_tuple (j:=j) (Q:=λr s'=>r=w/\EP X bc σ Q r s') pl (by lia) (by lia) (by rw[dR,<- hl];exact h1) (by simpa using ew) ⟨rfl,fin⟩) hs
theorem UD:uW X Le:=by
 intro value slice bc s σ H x y v u Q I rx ry h hs;obtain⟨z,i,c,rfl,rfl,hz,he,q⟩:=h;obtain⟨t,rfl⟩:=rx;obtain⟨t',rfl⟩:=ry;obtain⟨j,h1,h2,h3,h4,h5⟩:=D6 he;have hl:z.cps.toList.length=z.length:=by simp[Str.length]
 rw[hl]at h1 h4 h5;have hn:=si;exact tail_any (typeIs_str s z t) slot_str_getitem.lookup (getItem_str (c:=c) (by
  have e1:decide (i < -(2^63:Int))=false:=aa (by lia);have e2:decide (i>=2^63)=false:=aa (by lia);rw[e1,e2,Bool.or_false]) (by rw[h1];simpa using h2) ⟨.str ⟨#[c]⟩,H,I.tok _,⟨_,rfl⟩,q⟩) hs
theorem UE(its:List Value)(n j:Nat)(u:Value):Obj.mapSeq (·.setIfInBounds j u) { cls:=.type "list",data:=.seq its.toArray n }={ cls:=.type "list",data:=.seq (its.set j u).toArray n }:=by
 simp[Obj.mapSeq]
theorem Inv.lst{bc:List (Addr×Obj)}{σ:St}{H:Hp}{s:Shared}{p:Addr}{xs:List V}(I:Inv X bc σ H s)(h:H p=some (.lst xs)) :
  ∃(its:List Value)(n:Nat),Vals xs its/\s.heap.get? p=some { cls:=.type "list",data:=.seq its.toArray n }/\xs.length<=sizeLine:=by
 obtain⟨z,its,n,r,e⟩:=I.bZ p _ h;exact⟨its,n,r,e,z⟩
theorem Inv.UG{bc:List (Addr×Obj)}{σ:St}{H:Hp}{p:Addr}{xs ys:List V}{its':List Value}{n':Nat}{f:Obj->Obj}(I:Inv X bc σ H s)(h:H p=some (.lst xs))
  (ho:s.heap.get? p=some { cls:=.type "list",data:=.seq its.toArray n }) (hf:f { cls:=.type "list",data:=.seq its.toArray n }={ cls:=.type "list",data:=.seq its'.toArray n' }) (r:Vals ys its') (hz:ys.length<=sizeLine) (t:Nat) :
  Inv X bc σ (upd H p (.lst ys)) { s with heap:=s.heap.update p f,toks:=t }:=by
 have e:(s.heap.update p f).get? p=some { cls:=.type "list",data:=.seq its'.toArray n' }:=by
  rw[rN f ho (by rw[hf]<;>rfl),hf]
 refine I.write (x:=p) (e:=p) (by rw[h];trivial) (.inl rfl) (λb u hb q=>(nL _ _ (fe hb)).trans q) ⟨_,e⟩ ?_;exact⟨hz,its',n',r,e⟩
def UH:V->V->V->Hp->(Hp->Prop)->Prop:=λo i v H Q=>∃p xs k j,o=.ref p/\i=.int k/\H p=some (.lst xs)/\pT xs.length k=some j/\Q (upd H p (.lst (xs.set j v)))
theorem UI:Kx X UH:=by
 intro bc s σ H o i v ov iv u Q I ro ri rv h;obtain⟨p,xs,k,j,rfl,rfl,hp,hj,q⟩:=h;cases ro;obtain⟨t,rfl⟩:=ri;obtain⟨its,n,r,ho,hz⟩:=I.lst hp;obtain⟨h1,h2,h3,h4⟩:=Lc hj;have hl:=r.length;have hn:=si;have I':Inv X bc σ (upd H p (.lst (xs.set j v))) { s with heap:=s.heap.update p (Obj.mapSeq (·.setIfInBounds j u)) }:=
  I.UG hp ho (UE its n j u) (r.set rv j) (by rw[List.length_set];exact hz) s.toks
 by_cases h0:0<=k
 ·have hk:k.toNat=j:=by
   rw[seqIndex_of h0 h4]at h1;exact eF h1
  exact PySem.W.ki_setAt ho h0 (by lia) (by rw[dR,<- hl];exact h4) (by rw[hk];exact⟨_,I',q⟩)
 ·have hk:(k+(its.toArray.size:Int)).toNat=j:=by
   rw[seqIndex_neg (by lia) h3]at h1;rw[dR,<- hl];exact eF h1
  exact PySem.W.ki_setBack ho (by lia) (by rw[dR,<- hl];exact h3) (by lia) (by rw[hk];exact⟨_,I',q⟩)
theorem UJ(lo hi:Option Int)(n:Nat):(sliceBounds lo hi none n).1=((HT.cQ n 0 lo:Nat):Int)/\(sliceBounds lo hi none n).2.1=((HT.cQ n n hi:Nat):Int)/\(sliceBounds lo hi none n).2.2=1:=by
 refine⟨?_,?_,rfl⟩
 ·cases lo with
  |none=>simp[sliceBounds,HT.cQ]
  |some i=>
   simp only[sliceBounds,HT.cQ,Option.getD_none,show(1:Int)>0 by decide,if_true];by_cases h:i<0
   ·simp only[h,if_true]<;>lia
   ·simp only[h,if_false]<;>lia
 ·cases hi with
  |none=>simp[sliceBounds,HT.cQ]
  |some i=>
   simp only[sliceBounds,HT.cQ,Option.getD_none,show(1:Int)>0 by decide,if_true];by_cases h:i<0
   ·simp only[h,if_true]<;>lia
   ·simp only[h,if_false]<;>lia
theorem UK(its:List Value)(lo hi:Option Int):slicePick its.toArray lo hi none=((its.drop (HT.cQ its.length 0 lo)).take (HT.cQ its.length its.length hi-HT.cQ its.length 0 lo)).toArray:=by
 obtain⟨h1,h2,h3⟩:=UJ lo hi its.toArray.size;unfold slicePick;rw[h1,h2,h3];simp only[sliceRange_one,pick_run,dR]<;>rfl
def Lf(K:Frag):V->Option Int->Option Int->Hp->VK->Prop:=λx lo hi H Q=>∃a xs,x=.ref a/\dC K H a xs/\∀p,H p=none->Q (.ref p) (upd H p (.lst (iJ xs lo hi)))
theorem UL:su X (Lf X.K):=by
 intro bc s σ H x v vl vu lo hi sl Q I rx hs pl pu h;obtain⟨a,xs,rfl,hx,q⟩:=h;cases rx;obtain⟨its,r,ht,hz⟩:=I.list hx;have cT:=r.length;refine⟨"list",_,slot_list_getitem.lookup,ht.isList.typeIs,?_⟩;refine wpAny_getItem_list_slice ht.isList hs pl pu .none (by simp) ?_ (by rw[dR]<;>lia)
 rw[UK,<- cT];refine⟨.ref s.heap.objs.size,_,I.laid (t':=s.toks) (o:=.lst (iJ xs lo hi)) (λb ob q=>dJ _ q) (cF _) ?_,rfl,q _ (I.bZ.fresh (cF _))⟩;exact⟨dj (Lb xs lo hi) hz,_,0,(r.drop (HT.cQ xs.length 0 lo)).take (HT.cQ xs.length xs.length hi-HT.cQ xs.length 0 lo),gT _ rfl⟩
noncomputable def oZ:V->Bool
 | .cC=>true
 | .bl _=>true
 | .int _=>true
 | .str _=>true
 |_=>false
noncomputable def gF:V->V->Bool
 | .cC,.cC=>true
 | .bl a,.bl b=>a==b
 | .bl a,.int b=>(if a then 1 else 0)==b
 | .int a,.bl b=>a==(if b then 1 else 0)
 | .int a,.int b=>a==b
 | .str a,.str b=>a==b
 |_,_=>false
theorem UM{A:Around}{y:V}{u v:Value}(ry:RelV y u)(rx:RelV x v)(fy:oZ y=true)(fx:oZ x=true):SeqAt.EqAt A s u v (gF y x):=by
 cases y with
 |cC=>
  cases ry;cases x with
  |cC=>cases rx;exact SeqAt.EqAt.same _
  |bl b=>cases rx;exact SeqAt.EqAt.none_bool b
  |int b=>obtain⟨t,rfl⟩:=rx;exact SeqAt.EqAt.none_int b t
  |str b=>obtain⟨t,rfl⟩:=rx;exact SeqAt.EqAt.none_str b t
  |_=>exact absurd (show false=true from fx) gN
 |bl a=>
  cases ry;cases x with
  |cC=>cases rx;exact SeqAt.EqAt.bool_none a
  |bl b=>cases rx;exact SeqAt.EqAt.bool_bool a b
  |int b=>obtain⟨t,rfl⟩:=rx;exact SeqAt.EqAt.bool_int a b t
  |str b=>obtain⟨t,rfl⟩:=rx;exact SeqAt.EqAt.bool_str a b t
  |_=>exact absurd (show false=true from fx) gN
 |int a=>
  obtain⟨t',rfl⟩:=ry;cases x with
  |cC=>cases rx;exact SeqAt.EqAt.int_none a t'
  |bl b=>cases rx;exact SeqAt.EqAt.int_bool a t' b
  |int b=>obtain⟨t,rfl⟩:=rx;exact SeqAt.EqAt.int_int a t' b t
  |str b=>obtain⟨t,rfl⟩:=rx;exact SeqAt.EqAt.int_str a t' b t
  |_=>exact absurd (show false=true from fx) gN
 |str a=>
  obtain⟨t',rfl⟩:=ry;cases x with
  |cC=>cases rx;exact SeqAt.EqAt.str_none a t'
  |bl b=>cases rx;exact SeqAt.EqAt.str_bool a t' b
  |int b=>obtain⟨t,rfl⟩:=rx;exact SeqAt.EqAt.str_int a t' b t
  |str b=>obtain⟨t,rfl⟩:=rx;exact SeqAt.EqAt.str_str a t' b t
  |_=>exact absurd (show false=true from fx) gN
 |_=>exact absurd (show false=true from fy) gN
noncomputable def pU(x:V)(u:Value):Bool:=match u with
 | .none=>gF .cC x
 | .bool b=>gF (.bl b) x
 | .int i _=>gF (.int i) x
 | .str z _=>gF (.str z) x
 |_=>false
theorem Lg{y:V}{u:Value}(r:RelV y u)(f:oZ y=true):pU x u=gF y x:=by
 cases y with
 |cC=>cases r;rfl
 |bl b=>cases r;rfl
 |int i=>obtain⟨t,rfl⟩:=r;rfl
 |str z=>obtain⟨t,rfl⟩:=r;rfl
 |_=>exact absurd (show false=true from f) gN
theorem D7{x:V}:∀{xs:List V}{us:List Value},Vals xs us->xs.all oZ=true->us.any (pU x)=xs.any λy=>gF y x
 |_,_,.nil,_=>rfl
 |y::xs,u::us,.cons r t,f=>by
  rw[nM,dq]at f;rw[List.any_cons,List.any_cons,Lg r f.1,D7 t f.2]
theorem D8{A:Around}{s:Shared}{x:V}{v:Value}(rx:RelV x v)(fx:oZ x=true):∀{xs:List V}{us:List Value},Vals xs us->xs.all oZ=true->∀u∈us,SeqAt.EqAt A s u v (pU x u)
 |_,_,.nil,_=>λu hu=>by cases hu
 |y::xs,u::us,.cons r t,f=>λu' hu=>by
  rw[nM,dq]at f;rcases dI.mp hu with rfl|hu
  ·rw[Lg r f.1];exact UM r rx f.1 fx
  ·exact D8 rx fx t f.2 u' hu
noncomputable def il(x:V)(xs:List V):Bool:=xs.any λy=>gF y x
def xi(K:Frag)(neg:Bool):R2:=λx y H Q=>∃p xs,y=.ref p/\(dC K H p xs\/cg K H p xs)/\oZ x=true/\xs.all oZ=true/\Q (.bl (if neg then !il x xs else il x xs)) H
theorem UN:eU X (compareOp .In) (xi X.K false):=by
 intro bc s σ H x y v u Q I rx ry h;obtain⟨p,xs,rfl,hq,fx,fs,q⟩:=h;cases ry;rcases hq with hq|hq
 ·obtain⟨its,r,pl,hz⟩:=I.list hq;refine SeqAt.in_listAt (pU x) pl.isList (λw hw=>D8 rx fx r fs w (by simpa using hw)) ⟨.bl _,H,I,rfl,?_⟩;rw[show its.toArray.any (pU x)=its.any (pU x) by simp,D7 r fs];exact q
 ·obtain⟨its,r,pl,hz⟩:=I.tuple hq;refine SeqAt.in_tupleAt (pU x) pl (λw hw=>D8 rx fx r fs w (by simpa using hw)) ⟨.bl _,H,I,rfl,?_⟩;rw[show its.toArray.any (pU x)=its.any (pU x) by simp,D7 r fs];exact q
theorem UO:eW X (.builtin "len") (λxs H Q=>∃p ys,xs=[.ref p]/\(dC X.K H p ys\/cg X.K H p ys)/\Q (.int ys.length) H):=by
 intro bc s σ H xs us Q I r h;obtain⟨p,ys,rfl,hq,q⟩:=h;obtain⟨u,rfl,rx⟩:=vals1 r;cases rx;have hn:=si;rcases hq with hq|hq
 ·obtain⟨its,r',pl,hz⟩:=I.list hq;have cT:=r'.length;exact Calls.call_len_list pl.isList (by simp only[dR]<;>lia) ⟨.int ys.length,H,I.tok _,⟨s.toks+1,by rw[dR,cT]⟩,q⟩
 ·obtain⟨its,r',pl,hz⟩:=I.tuple hq;have cT:=r'.length;exact len_tuple pl (by simp only[dR]<;>lia) ⟨.int ys.length,H,I.tok _,⟨s.toks+1,by rw[dR,cT]⟩,q⟩
theorem UP:eW X (.builtin "len") (λxs H Q=>∃z,xs=[.str z]/\z.length<=sizeLine/\Q (.int z.length) H):=by
 intro bc s σ H xs us Q I r h;obtain⟨z,rfl,hz,q⟩:=h;obtain⟨u,rfl,t,rfl⟩:=vals1 r;have hn:=si;exact len_str (by lia) ⟨.int z.length,H,I.tok _,⟨_,rfl⟩,q⟩
theorem eW.or{f:Value}{r r':List V->Hp->VK->Prop}(h:eW X f r)(h':eW X f r'):eW X f (λxs H Q=>r xs H Q\/r' xs H Q):=by
 intro bc s σ H xs us Q I rs q;rcases q with q|q
 ·exact h bc s σ H xs us Q I rs q
 ·exact h' bc s σ H xs us Q I rs q
theorem UQ:eW X (.type "tuple") (λxs H Q=>∃p ys,xs=[.ref p]/\((dC X.K H p ys/\∀l,H l=none->Q (.ref l) (upd H l (.tup ys)))\/(cg X.K H p ys/\Q (.ref p) H))):=by
 intro bc s σ H xs us Q I r h;obtain⟨p,ys,rfl,h⟩:=h;obtain⟨u,rfl,rx⟩:=vals1 r;cases rx;rcases h with⟨hq,q⟩|⟨hq,q⟩
 ·obtain⟨its,r',pl,hz⟩:=I.list hq;have cT:=r'.length;refine call_tuple_list pl.isList (λh' kp=>?_) (by simp only[dR]<;>lia)
  have I1:Inv X bc σ H { s with heap:=h' }:=I.kept (t':=s.toks) kp;have I2:Inv X bc σ (upd H h'.objs.size (.tup ys)) { s with heap:=h'.push { cls:=.type "tuple",data:=.seq its.toArray } }:=
   I1.laid (t':=s.toks) (λb o e=>dJ _ e) (cF _) (show eQ X.prog X.w _ _ _ (.tup ys) from⟨hz,its,r',pN.new _ _⟩)
  exact⟨.ref h'.objs.size,_,I2,rfl,q _ (I1.bZ.fresh (cF _))⟩
 ·obtain⟨its,r',pl,hz⟩:=I.tuple hq;exact call_tuple_same pl ⟨.ref p,H,I,rfl,q⟩
def D9(K:Frag)(T:String)(x:V)(H:Hp):Prop:=match x with
 | .str _=>T="str"
 | .int _=>T="int"
 | .ref p=>(T="list"/\∃xs,dC K H p xs)\/(T="tuple"/\∃o,K.lookup p=some o/\o.cls=.type "tuple"/\o.dict=none) \/
   (T="dict"/\((∃bf,H p=some (.dK bf))\/∃bf,H p=some (.dT bf)))\/(T="set"/\∃S n,H p=some (.set S n))
 |_=>False
theorem Lh{bc:List (Addr×Obj)}{σ:St}{H:Hp}{T:String}{v:Value}(I:Inv X bc σ H s)(r:RelV x v)(ty:D9 X.K T x H) :
  s.TypeIs v T/\∀a,v=.ref a->∃ob,s.heap.get? a=some ob/\ob.dict=none:=by
 cases x with
 |str z=>
  obtain⟨t,rfl⟩:=r;cases(show T="str" from ty)
  exact⟨typeIs_str s z t,λ_ e=>nomatch e⟩
 |int i=>
  obtain⟨t,rfl⟩:=r;cases(show T="int" from ty)
  exact⟨typeIs_int s i t,λ_ e=>nomatch e⟩
 |ref p=>
  cases r;rcases ty with⟨rfl,xs,hq⟩|⟨rfl,o,hk,hc,hd⟩|⟨rfl,hk⟩|⟨rfl,S,n,hk⟩
  ·obtain⟨its,_,pl,_⟩:=I.list hq;refine⟨pl.isList.typeIs,λa e=>?_⟩;cases e;obtain⟨o,n,e,c,hd,_⟩:=pl;exact⟨o,e,hd⟩
  ·refine⟨⟨o,I.eK p o hk,hc⟩,λa e=>?_⟩;cases e;exact⟨o,I.eK _ o hk,hd⟩
  ·have z:∃o,s.heap.get? p=some o/\o.ExactDict:=by
    rcases hk with⟨bf,hk⟩|⟨bf,hk⟩
    ·obtain⟨_,_,_,_,o,_,_,e,ex,_⟩:=I.bZ p _ hk;exact⟨o,e,ex⟩
    ·obtain⟨_,_,_,_,o,_,_,e,ex,_⟩:=I.bZ p _ hk;exact⟨o,e,ex⟩
   obtain⟨o,e,ex⟩:=z;refine⟨⟨o,e,ex.1⟩,λa e2=>?_⟩;cases e2;exact⟨o,e,ex.2.1⟩
  ·obtain⟨o,_,_,_,e,ex,_⟩:=I.bZ p _ hk;refine⟨⟨o,e,ex.1⟩,λa e2=>?_⟩;cases e2;exact⟨o,e,ex.2.1⟩
 |_=>exact False.elim ty
def uX(K:Frag)(T:String)(r:V->List V->Hp->VK->Prop)(to:TE):TE:=λσ H Q=>to σ H λx H1=>D9 K T x H1/\r x [] H1 Q
def o4(K:Frag)(T:String)(r:V->List V->Hp->VK->Prop)(to:TE)(t:TA):TE:=λσ H Q=>to σ H λx H1=>D9 K T x H1/\t σ H1 λxs H2=>r x xs H2 Q
variable{o e:Expr}{es:List Expr}{to:TE}{t:TA}{name:Str}{gX dW:Pos}{T id:String}{r:V->List V->Hp->VK->Prop}
theorem Ah(pa:PlainAttrs T)(slot:Slot T name id)(Ea:typeOf (.builtin id)=pure (.type "method_descriptor"))(hm:Ag X id r)(ho:PE X o to)
  (xj:attributeBase o name X.env (eval o X.env)=eval o X.env:=by rfl) (xk:(gX.endLine==dW.line)=true:=by rfl):PE X (.Call (.Attribute o name gX) [] [] dW) (uX X.K T r to):=by
 intro bc s σ H Q I h;refine wpAny_Call_method0_late xj xk (bj (ho bc s σ H _ I h) λv s1 ⟨x,H1,I1,r1,ty,q1⟩=>?_);obtain⟨h1,h2⟩:=Lh I1 r1 ty;exact⟨T,id,pa,slot,Ea,h1,h2,Dg rfl (PySem.evalArgs_none (hm bc s1 σ H1 x [] v [] Q I1 r1 .nil q1))⟩
theorem jv(pa:PlainAttrs T)(slot:Slot T name id)(Ea:typeOf (.builtin id)=pure (.type "method_descriptor"))(hm:Ag X id r)(ho:PE X o to)(ha:PA X (e::es) t)
  (xj:attributeBase o name X.env (eval o X.env)=eval o X.env:=by rfl)
  (xl:((backTo dW (starEach (e::es) X.env)).all (λx=>!x.1)&&(backToKw dW (keywordEach [] X.env)).all (λx=>x.1.isSome)
   && decide ((e::es).length+([]:List Keyword).length+(if([]:List Keyword).isEmpty then 0 else 1)<30))=true:=by rfl)
  (xk:(gX.endLine==dW.line)=true:=by rfl) (hs:starEach (e::es) X.env=(false,eval e X.env)::starEach es X.env:=by rfl) (UR:(backTo dW (starEach es X.env)).any (·.1)=false:=by rfl) :
  PE X (.Call (.Attribute o name gX) (e::es) [] dW) (o4 X.K T r to t):=by
 intro bc s σ H Q I h;refine wpAny_Call_method_late xj xl xk rfl (bj (ho bc s σ H _ I h) λv s1 ⟨x,H1,I1,r1,ty,q1⟩=>?_);obtain⟨h1,h2⟩:=Lh I1 r1 ty;refine⟨T,id,pa,slot,Ea,h1,h2,?_⟩;have hA:=ha dW bc s1 σ H1 _ I1 q1;rw[hs]at hA |-;refine Dg (by show(false||(backTo dW (starEach es X.env)).any (·.1))=false;rw[UR]<;>rfl) (Calls.evalArgs_plain ?_)
 exact bj hA λus s2 ⟨vs,H2,I2,r2,q2⟩=>hm bc s2 σ H2 x vs v us Q I2 r1 r2 q2
end
def uY(X:Cx)(id:String)(r:V->List V->Hp->VK->Prop):Prop:=
 ∀(bc:List (Addr×Obj))(s:Shared)(σ:St)(H:Hp)(x:V)(xs:List V)(v:Value)(us:List Value)(Q:VK),Inv X bc σ H s->RelV x v->Vals xs us->r x xs H Q->
  wpAny (model X.prog X.w) X.A (call (.builtin id) (v::us)) (EP X bc σ Q) X.xe s
theorem Vals.one:∀{x:V}{us:List Value},Vals [x] us->∃u,us=[u]/\RelV x u
 |_,_,.cons r .nil=>⟨_,rfl,r⟩
theorem Vals.two:∀{x y:V}{us:List Value},Vals [x,y] us->∃u v,us=[u,v]/\RelV x u/\RelV y v
 |_,_,_,.cons r (.cons q .nil)=>⟨_,_,rfl,r,q⟩
theorem Vals.zero:∀{us:List Value},Vals [] us->us=[]
 |_,.nil=>rfl
theorem Vals.dropLast{xs:List V}{us:List Value}(h:Vals xs us):Vals xs.dropLast us.dropLast:=by
 induction h with
 |nil=>exact .nil
 |cons r t ih=>
  cases t with
  |nil=>exact .nil
  |cons q t'=>exact .cons r ih
theorem Vals.reverse{xs:List V}{us:List Value}(h:Vals xs us):Vals xs.reverse us.reverse:=by
 induction h with
 |nil=>exact .nil
 |cons r t ih=>rw[rO,rO];exact Vals.append ih (.cons r .nil)
theorem Vals.rep{xs:List V}{us:List Value}(h:Vals xs us):∀k:Nat,Vals (List.replicate k xs).flatten (List.replicate k us).flatten
 |0=>.nil
 |k+1=>by
  rw[wH,wH,zC,zC];exact Vals.append h (Vals.rep h k)
theorem US(l:List α):l.eraseIdx (l.length-1)=l.dropLast:=by
 induction l with
 |nil=>rfl
 |cons a r ih=>
  cases r with
  |nil=>rfl
  |cons b r=>
   have e:(a::b::r).length-1=((b::r).length-1)+1:=by
    have h1:(a::b::r).length=r.length+2:=rfl;have h2:(b::r).length=r.length+1:=rfl;lia
   rw[e,List.eraseIdx_cons_succ,ih];all_goals rfl
theorem foldl_rep(its:List Value):∀(k:Nat)(acc:List Value),
  List.foldl (λx1 x2=>x1++x2) acc.toArray (List.replicate k its.toArray)=(acc++(List.replicate k its).flatten).toArray
 |0,acc=>by simp
 |k+1,acc=>by
  have e:acc.toArray++its.toArray=(acc++its).toArray:=by simp
  have e2:(acc++its)++(List.replicate k its).flatten=acc++(List.replicate (k+1) its).flatten:=by
   rw[wH,zC,fg]
  rw[<- e2,<- foldl_rep its k (acc++its),<- e,wH,List.foldl_cons]
section
variable{X:Cx}{bc:List (Addr×Obj)}{σ:St}{H:Hp}{s:Shared}{l b:Addr}{xs ys zs:List V}
theorem Inv.xm{its':List Value}{f:Array Value->Array Value}{t':Nat}(I:Inv X bc σ H s)(hH:H l=some (.lst xs))
  (e:s.heap.get? l=some { cls:=.type "list",data:=.seq its.toArray n }) (hf:f its.toArray=its'.toArray) (hv:Vals ys its') (hz:ys.length<=sizeLine) :
  Inv X bc σ (upd H l (.lst ys)) { s with heap:=s.heap.update l (Obj.mapSeq f),toks:=t' }:=by
 have q:=PySem.IsL.update e f;rw[hf]at q;refine I.write (x:=l) (e:=l) (by rw[hH];exact trivial) (.inl rfl) (λb' u hb hu=>(nL s.heap (Obj.mapSeq f) (fe hb)).trans hu) ⟨_,q⟩ ?_;exact⟨hz,its',_,hv,q⟩
theorem Inv.Li{t':Nat}(I:Inv X bc σ H s)(hv:Vals ys its)(hz:ys.length<=sizeLine) :
  Inv X bc σ (upd H s.heap.objs.size (.lst ys)) { s with heap:=s.heap.push { cls:=.type "list",data:=.seq its.toArray },toks:=t' }:=
 I.laid (λ_ _ q=>dJ _ q) (cF _) ⟨hz,its,0,hv,gT _ rfl⟩
theorem Inv.fresh(I:Inv X bc σ H s):H s.heap.objs.size=none:=I.bZ.fresh (cF _)
theorem Inv.o5(I:Inv X bc σ H s)(hH:H l=some (.lst xs)):xs.length<=sizeLine/\∃(its:List Value)(n:Nat),Vals xs its/\xs.length=its.length/\s.heap.get? l=some { cls:=.type "list",data:=.seq its.toArray n }:=by
 obtain⟨z,its,n,r,e⟩:=I.bZ l _ hH;exact⟨z,its,n,r,r.length,e⟩
theorem Eb(h:n<=sizeLine):Builtin.List.listTooLong n=false:=by
 unfold Builtin.List.listTooLong;exact aa (by lia)
end
section
variable{X:Cx}
def uZ:V->List V->Hp->VK->Prop:=λx vs H Q=>∃l xs y,x=.ref l/\vs=[y]/\H l=some (.lst xs)/\xs.length<sizeLine/\Q .cC (upd H l (.lst (xs++[y])))
theorem pV:uY X "list.append" uZ:=by
 intro bc s σ H x vs v us Q I rx rv h;obtain⟨l,xs,y,rfl,rfl,hH,hz,q⟩:=h;cases rx;obtain⟨u,rfl,ru⟩:=rv.one;obtain⟨z,its,n,r,hl,e⟩:=I.o5 hH;refine call_meets F.slot_list_append ⟨_,e,rfl⟩ F.entry_list_append (F.args_list_append_2 _ _) (PySem.list_append l its.toArray n u (by rw[dR];lia)) ⟨e,?_⟩;refine⟨.cC,_,I.xm (its':=its++[u]) hH e (by simp) (r.append (.cons ru .nil)) ?_,rfl,q⟩;rw[cL,List.length_singleton];lia
def Lj:V->List V->Hp->VK->Prop:=λx vs H Q=>∃l b xs zs,x=.ref l/\vs=[.ref b]/\H l=some (.lst xs)/\H b=some (.lst zs)/\xs.length+zs.length<=sizeLine/\Q .cC (upd H l (.lst (xs++zs)))
theorem Lk:uY X "list.extend" Lj:=by
 intro bc s σ H x vs v us Q I rx rv h;obtain⟨l,b,xs,zs,rfl,rfl,hH,hB,hz,q⟩:=h;cases rx;obtain⟨u,rfl,ru⟩:=rv.one;cases ru;obtain⟨z,its,n,r,hl,e⟩:=I.o5 hH;obtain⟨z2,ju,n2,r2,ip,e2⟩:=I.o5 hB;have hsz:its.toArray.size+ju.toArray.size<=sizeLine:=by rw[dR,dR];lia
 have Ec:¬(!its.toArray.isEmpty&&Builtin.List.listTooLong (its.toArray.size+ju.toArray.size))=true:=by
  rw[Eb hsz,Bool.and_false];exact gN
 refine call_meets F.slot_list_extend ⟨_,e,rfl⟩ F.entry_list_extend (F.args_list_extend_2 _ _)
  (AutoSeq1.list_extend_list_list_0 l its.toArray n b ju.toArray n2 Ec (by rw[dR];lia) (by lia)) ⟨e,e2,?_⟩
 refine⟨.cC,_,I.xm (its':=its++ju) hH e (by simp) (r.append r2) ?_,rfl,q⟩;rw[cL];lia
def Ed:V->List V->Hp->VK->Prop:=λx vs H Q=>∃l xs y,x=.ref l/\vs=[]/\H l=some (.lst xs)/\xs[xs.length-1]?=some y/\Q y (upd H l (.lst xs.dropLast))
theorem UT:uY X "list.pop" Ed:=by
 intro bc s σ H x vs v us Q I rx rv h;obtain⟨l,xs,y,rfl,rfl,hH,hy,q⟩:=h;cases rx;have xn:=rv.zero;subst xn;obtain⟨z,its,n,r,hl,e⟩:=I.o5 hH;obtain⟨u,hu,ru⟩:=r.get hy;have Ai:its.toArray[its.toArray.size-1]?=some u:=by
  show its.toArray[its.length-1]?=some u;rw[<- Dh,<- hl];exact hu
 refine call_meets F.slot_list_pop ⟨_,e,rfl⟩ F.entry_list_pop (F.args_list_pop_1 _) (MeetsSeq.list_pop_last l its.toArray n u Ai (by rw[dR];lia)) ⟨e,?_⟩;refine⟨y,_,I.xm (its':=its.dropLast) hH e ?_ r.dropLast ?_,ru,q⟩
 ·show its.toArray.eraseIdxIfInBounds (its.toArray.size-1)=its.dropLast.toArray;rw[dR,List.eraseIdxIfInBounds_toArray,US]
 ·rw[List.length_dropLast];lia
def Ll:V->List V->Hp->VK->Prop:=λx vs H Q=>∃l xs,x=.ref l/\vs=[]/\H l=some (.lst xs)/\Q .cC (upd H l (.lst xs.reverse))
theorem UU:uY X "list.reverse" Ll:=by
 intro bc s σ H x vs v us Q I rx rv h;obtain⟨l,xs,rfl,rfl,hH,q⟩:=h;cases rx;have xn:=rv.zero;subst xn;obtain⟨z,its,n,r,hl,e⟩:=I.o5 hH;refine call_meets F.slot_list_reverse ⟨_,e,rfl⟩ F.entry_list_reverse (F.args_list_reverse_1 _) (AutoSeq1.list_reverse_list_0 l its.toArray n (by rw[dR];lia)) ⟨e,?_⟩;refine⟨.cC,_,I.xm (its':=its.reverse) hH e (by simp) r.reverse ?_,rfl,q⟩;rw[qt];lia
def UW:V->List V->Hp->VK->Prop:=λx vs H Q=>∃l xs,x=.ref l/\vs=[]/\H l=some (.lst xs)/\Q .cC (upd H l (.lst []))
theorem UX:uY X "list.clear" UW:=by
 intro bc s σ H x vs v us Q I rx rv h;obtain⟨l,xs,rfl,rfl,hH,q⟩:=h;cases rx;have xn:=rv.zero;subst xn;obtain⟨z,its,n,r,hl,e⟩:=I.o5 hH;refine call_meets F.slot_list_clear ⟨_,e,rfl⟩ F.entry_list_clear (F.args_list_clear_1 _) (AutoSeq1.list_clear_list_0 l its.toArray n (by rw[dR];lia)) ⟨e,?_⟩;exact⟨.cC,_,I.xm (its':=[]) (ys:=[]) hH e rfl .nil (gH _),rfl,q⟩
def eB:R2:=λx y H Q=>∃l b xs zs,x=.ref l/\y=.ref b/\H l=some (.lst xs)/\H b=some (.lst zs)/\xs.length+zs.length<=sizeLine/\∀p,H p=none->Q (.ref p) (upd H p (.lst (xs++zs)))
theorem eD:eU X (binaryOp .Add) eB:=by
 intro bc s σ H x y v u Q I rx ry h;obtain⟨l,b,xs,zs,rfl,rfl,hH,hB,hz,q⟩:=h;cases rx;cases ry;obtain⟨z,its,n,r,hl,e⟩:=I.o5 hH;obtain⟨z2,ju,n2,r2,ip,e2⟩:=I.o5 hB;refine PySem.P.add_list e e2 ?_ (by rw[dR,dR];lia);have ea:its.toArray++ju.toArray=(its++ju).toArray:=by simp
 rw[ea];exact⟨.ref _,_,I.Li (t':=s.toks) (r.append r2) (by rw[cL];lia),rfl,q _ I.fresh⟩
def Lm:R2:=λx y H Q=>∃l k xs,x=.ref l/\y=.int k/\H l=some (.lst xs)/\-(2^63)<=k/\k<2^63/\xs.length*k.toNat<=sizeLine/\
 ∀p,H p=none->Q (.ref p) (upd H p (.lst (List.replicate k.toNat xs).flatten))
theorem Ee(xs:List α)(k:Nat):(List.replicate k xs).flatten.length=k*xs.length:=by
 induction k with
 |zero=>simp
 |succ k ih=>rw[wH,zC,cL,ih,Nat.succ_mul,Nat.add_comm]
theorem xo:eU X (binaryOp .Mult) Lm:=by
 intro bc s σ H x y v u Q I rx ry h;obtain⟨l,k,xs,rfl,rfl,hH,h1,h2,hz,q⟩:=h;cases rx;obtain⟨t,rfl⟩:=ry;obtain⟨z,its,n,r,hl,e⟩:=I.o5 hH;have cT:its.toArray.size*k.toNat<=sizeLine:=by rw[dR,<- hl];exact hz
 have UY:¬its.toArray.size*k.toNat>(2^63-1)/8:=by
  have:(sizeLine:Nat)<=(2^63-1)/8:=by decide
  lia
 have xp:¬(!Builtin.List.listFitsIndex k)=true:=by
  rw[fitsIndex_both h1 h2];exact gN
 have Ec:¬Builtin.List.listTooLong (its.toArray.size*k.toNat)=true:=by
  rw[Eb cT];exact gN
 have qF:List.foldl (λx1 x2=>x1++x2) #[] (List.replicate (if its.toArray.isEmpty=true then 0 else k.toNat) its.toArray)=(List.replicate k.toNat its).flatten.toArray:=by
  have f0:∀m:Nat,List.foldl (λx1 x2=>x1++x2) #[] (List.replicate m its.toArray)=(List.replicate m its).flatten.toArray:=λm=>by
   have:=foldl_rep its m []
   rw[List.nil_append]at this;exact this
  rw[f0];cases its with
  |nil=>simp
  |cons a r'=>rw[af (by simp)]
 refine wpAny_binaryOp_repeat_ref (T := "list") (U := "int") (by decide) ⟨_,e,rfl⟩ (λs'=>typeIs_int s' k t) noFill_list_mul F.fills_int_mul F.slot_int_rmul repeat_list F.slot_int_index.lookup
  (call_meets F.slot_int_rmul (typeIs_int s k t) F.entry_int_rmul (F.args_int_rmul_2 _ _) (int___rmul___int_list k t l its.toArray n) ⟨e,rfl,⟨_,e,rfl⟩,call_meets F.slot_list_mul ⟨_,e,rfl⟩ F.entry_list_mul (F.args_list_mul_2 _ _) (AutoListH.list___mul___list_int_3 l its.toArray n k t xp UY Ec) ⟨e,?_⟩⟩)
 rw[qF];exact⟨.ref _,_,I.Li (t':=s.toks) (r.rep k.toNat) (by rw[Ee,Nat.mul_comm];exact hz),rfl,q _ I.fresh⟩
end
section
variable{prog:Program}{w:World}{A:Around}{E:QV}{s:Shared}
end
section
variable{X:Cx}
end
end L2
namespace Att
open PySem PySem.W PySem.Calls PyProof.Rows
theorem UZ{P:Params}{h:Heap}:∀(ns:List Int)(vs:List Value),WellAll P h vs (ns.map WData.int)->IntsAre vs ns:=by
 intro ns;induction ns with
 |nil=>
  intro vs w;rw[List.map_nil]at w;cases w;exact .nil
 |cons n ns ih=>
  intro vs w;rw[ee]at w;cases w with
  |cons a b=>
   cases a;exact .cons _ _ (ih _ b)
theorem U0{l:OpenLaw}{n:Nat}(hn:l.most=some n){P:Params}{h:Heap}{args:List WData}{Ef:List Value}
  (Aj:l.row.toRowW.claim.pre args=true) (qG:WellAll P h Ef args) :
  ∃a vs ns,Ef=[Value.ref a]/\args=[WData.list (ns.map WData.int)]/\h.get? a=some { cls:=.type "list",data:=.seq vs.toArray }/\IntsAre vs ns/\ns.length<=n:=by
 have U1:WShape.hasAll [] args [.list .int]=true:=(pre_splitW Aj).1;have hc:l.pre.holds [] { args:=args }=true:=(pre_splitW Aj).2;obtain⟨d,r,rfl,h1,h2⟩:=hasAllW_cons U1;obtain rfl:=hasAllW_nil h2;obtain⟨xs,rfl,h3⟩:=hasW_list h1;obtain⟨ns,rfl⟩:=items_int h3;have cT:ns.length<=n:=by
  unfold OpenLaw.pre at hc;have h4:(WTm.not (.lt (.lit (.int (n:Int))) (.len (.arg 0)))).holds [] { args:=[.list (ns.map .int)] }=true:=by
   have h4:=(holds_andW hc).1;rw[hn]at h4;exact h4
  have h5:=condW_of h4 (w_not (w_lt w_lit (w_len_list (w_arg rfl))));rw[cB]at h5;refine Nat.le_of_not_lt λq=>?_;have q':(n:Int)<((ns.length:Nat):Int):=by lia
  first
   |(rw[aG q']at h5;exact absurd h5 (by decide))
   |(simp at h5;lia)
 cases qG with
 |cons w1 w2=>
  cases w2;cases w1 with
  |list ho Eg=>exact⟨_,_,ns,rfl,rfl,ho,UZ ns _ Eg,cT⟩
theorem U2(l:OpenLaw)(args:List WData):l.row.toRowW.claim.post args (.bool true) args=true:=
 postW_of (r:=l.row.toRowW) (X:=(true==true))
  (show WShape.has [] (.bool true) .bool=true by first|rfl|decide|simp[WShape.has,WShape.arms,WShape.armsAll])
  (show(WTm.eq .res (.lit (.bool true))).value [] { args:=args,res:=some (.bool true),after:=args }=some (.bool (true==true)) from w_eq_bool (w_res rfl) w_lit) rfl
theorem U3{l:OpenLaw}{n:Nat}{q:Program}{u0:List Str}{XP:(Str->Option Value)->Heap->Prop}{YP:World->Heap->Prop}{d:DefRec}
  (hn:l.most=some n) (xq:d.params.defaults=[])
  (call:∀(w:World)(s₀ s₁:Shared)(mg mb:Str->Option Value)(fa:Addr)(o:Obj)(pm cd doc:Value)(a:Addr)(vs:List Value)(ns:List Int),
   Ground q u0 [] XP w s₀ mg mb s₁.heap->YP w s₁.heap->
   s₁.heap.get? fa=some o->o.data=.func (docDef d.name d.params d.body d.scope pm cd doc)->s₁.heap.CodeRec cd d.name->mg d.name=some (.ref fa)->
   s₁.heap.get? a=some { cls:=.type "list",data:=.seq vs.toArray }->IntsAre vs ns->ns.length<=n->s₁.gens=#[]->
   codeAny (model l.prog w) callerA (.call (.ref fa) ⟨[.ref a],[]⟩) (λr s'=>r=.ok (.ret (.bool true))/\OldK s₁.heap s'.heap/\s'.os=s₁.os/\AllBare s'.gens) s₁) :
  WalkO q u0 XP YP l.row.toRowW d [] (λf vs=>PySem.call f vs):=by
 intro w s₀ s₁ mg mb G Y fa o pm cd doc dV kV ho hd iA hD hmg hg args Ef as Aj aeg hrd qG hlo;obtain rfl:dV=.none:=Dflts.none hD xq;obtain rfl:kV=.none:=Dflts.noKw hD;obtain⟨a,vs,ns,rfl,rfl,Eh,hints,cT⟩:=U0 hn Aj qG;refine enter_call (codeAny_mono (call w s₀ s₁ mg mb fa o pm cd doc a vs ns G Y ho (fd_plain hd) iA hmg Eh hints cT hg) λr s' hq=>?_);obtain⟨rfl,h2,h3,h4⟩:=hq;exact⟨.inl ⟨.bool true,.bool true,[],rfl,λ_=>rfl,.bool true,U2 l _,λ_=>⟨List.Pairwise.nil,λ_ hm=>(nomatch hm)⟩⟩,h2,h3,h4⟩
section
variable{prog:Program}{w:World}{A:Around}{E:QV}{s:Shared}{K:Frag}
end
end Att
namespace L2
open PySem PySem.Spec PyProof.Rows
variable{A B:Prop}{H H':Hp}{Q:VK}{X:Cx}{a f p:Addr}{env:Env}{fd:FuncData}{qual x:Str}{s:Shared}{scope:Scope}{st:Stmt}{xs:List V}
theorem Ln:∀{vs:List Value}{ns:List Int},IntsAre vs ns->Vals (ns.map V.int) vs
 |_,_,.nil=>.nil
 |_,_,.cons n t h=>.cons ⟨t,rfl⟩ (Ln h)
def Ei(H:Hp):Prop:=∀b,H b=none\/∃o xs,H b=some (.dM o (.lst xs))
theorem U4{P:Program}{w:World}{K:Frag}{mg mb:Str->Option Value}{CX:md}{k:Nat}{fa:Addr}{sp:Sp}{s₁:Shared}{vs:List Value}{ns:List Int}
  (KX:K.In s₁.heap) (sv:s₁.heap.Ns mainGlobals mg) (hb:s₁.heap.Ns builtinsNs mb) (o6:∀x:Str,x ≠ "__name__"->mb x=bootBuiltins x) (U5:s₁.heap.NoLimit) (hg:s₁.gens=#[])
  (ha:s₁.heap.get? a=some { cls:=.type "list",data:=.seq vs.toArray }) (hi:IntsAre vs ns) (hl:ns.length<=sizeLine) (hr:dS k callerA)
  (F:∀base:Heap,K.In base->base.Ns mainGlobals mg->ck P w K mg base CX k fa fd [x] sp) (U6:∀(s:Shared)(u:Value),BindsTo s fd ⟨[u],[]⟩ [(x,u)])
  (jf:∀H:Hp,Ei H->dC K H a (ns.map V.int)->sp [.ref a] H (λv _=>v=.bl true) λ_ _ _=>False)
  (Ej:∀H e s',CX [] H s₁ (λ_ _ _=>False) e s'->False) :
  codeAny (model P w) callerA (.call (.ref fa) ⟨[.ref a],[]⟩) (λr s'=>r=.ok (.ret (.bool true))/\OldK s₁.heap s'.heap/\s'.os=s₁.os/\AllBare s'.gens) s₁:=by
 have rv:=Ln hi;have U7:=hi.length;have core:∀H:Hp,Ei H->dC K H a (ns.map V.int)->dN P w H s₁.heap->(∀b,H b≠none->b=a)->(H a≠none->K.lookup a=none)->
   codeAny (model P w) callerA (.call (.ref fa) ⟨[.ref a],[]⟩) (λr s'=>r=.ok (.ret (.bool true))/\OldK s₁.heap s'.heap/\s'.os=s₁.os/\AllBare s'.gens) s₁:=by
  intro H hO hS bZ hA hK;have Lo:∀{b:Addr}{o:Obj},s₁.heap.get? b=some o->H b=none->(pO s₁.heap H).get? b=some o:=λe n=>Tr e n;have xa:∀{b:Addr}{o:Obj}{es:Array DictEntry}{ep:Nat},s₁.heap.get? b=some o->o.data=.dict es ep->H b=none:=λ{b o es ep} e d=>by
   cases q:H b with
   |none=>rfl
   |some u=>
    have e':b=a:=hA b (by rw[q];simp);subst e';rw[ha]at e;cases e;have d':Data.seq vs.toArray _=Data.dict es ep:=d;cases d'
  have Ak:∀{b:Addr}{m:Str->Option Value},s₁.heap.Ns b m->(pO s₁.heap H).Ns b m:=λ{b m} ⟨o,es,ep,e,d,r⟩=>⟨o,es,ep,Lo e (xa e d),d,r⟩;have Lp:K.In (pO s₁.heap H):=λb o e=>Lo (KX b o e) (by
   cases q:H b with
   |none=>rfl
   |some u=>
    have e':b=a:=hA b (by rw[q];simp);subst e';rw[hK (by rw[q];simp)]at e;cases e)
  have hM:Mod K mg (pO s₁.heap H):=⟨Lp,Ak sv,⟨mb,Ak hb,o6⟩,let ⟨mc,h1,h2⟩:=U5;⟨mc,Ak h1,h2⟩⟩;have e0:uO P w K mg (pO s₁.heap H) callerA [] s₁ H:=⟨rfl,hM,λb o e=>Ts e,Nat.le_of_eq (Tq _ _),trivial,λb hb=>absurd (show b∈([]:List Addr) from hb) (by simp),bZ,.of_eq hg⟩
  refine codeAny_mono ((F _ Lp (Ak sv)).run callerA [] s₁ H ⟨[.ref a],[]⟩ [.ref a] [.ref a] _ _ hr e0 (U6 s₁ (.ref a)) (.cons rfl .nil) (jf H hO hS)) λr s' h=>?_;cases r with
  |error e=>exact(Ej H e s' h).elim
  |ok fl=>
   cases fl with
   |next=>exact False.elim h
   |brk=>exact False.elim h
   |cont=>exact False.elim h
   |ret u=>
    obtain⟨v,H',os,bare,un,U8,r',q⟩:=h;have q':v=.bl true:=q;subst q';obtain rfl:u=Value.bool true:=r';refine⟨rfl,OldK.of_keep λb o e=>?_,os,bare⟩;cases q:H b with
    |none=>exact un.keep b o e q (by intro z;exact absurd (show b∈([]:List Addr) from z) (by simp)) (by simp)
    |some u=>
     rcases hO b with z|⟨ob,xs,z⟩
     ·rw[q]at z;cases z
     ·have z2:=un.iQ b ob _ z;obtain⟨e1,_⟩:=bZ b _ z;obtain⟨e2,_⟩:=U8 b _ z2;rw[e]at e1;cases e1;exact e2
 cases hk:K.lookup a with
 |some o=>
  have e:=KX a o hk;rw[ha]at e;cases e;refine core (λ_=>none) (λ_=>.inl rfl) (.inr ⟨_,vs.toArray,_,hk,rfl,rfl,rfl,by rw[dR,U7];exact hl,by simpa using rv⟩) (λb u z=>by have z':(none:Option HO)=some u:=z;cases z') (λb z=>absurd rfl z) λz=>absurd rfl z
 |none=>
  refine core (λb=>if b=a then some (.dM { cls:=.type "list",data:=.seq vs.toArray } (.lst (ns.map V.int)))else none) (λb=>?_) (.inl (.inr ⟨{ cls:=.type "list",data:=.seq vs.toArray },ae rfl⟩)) (λb u z=>?_) (λb z=>?_) λ_=>hk
  ·by_cases hb:b=a
   ·exact .inr ⟨_,_,ae hb⟩
   ·exact .inl (af hb)
  ·by_cases hb:b=a
   ·have z':=(ae hb).symm.trans z;cases z';subst hb;exact⟨ha,by rw[cB];exact hl,vs,_,rv,ha⟩
   ·have z':=(af hb).symm.trans z;cases z'
  ·by_cases hb:b=a
   ·exact hb
   ·exact absurd (af hb) z
theorem U9{l:PySem.W.OpenLaw}{n k:Nat}{q:Program}{u0:List Str}{XP:(Str->Option Value)->Heap->Prop}{YP:World->Heap->Prop}{d:DefRec}{K:Params->Frag}{CX:World->md}{sp:World->Sp}
  (hn:l.most=some n) (xr:n<=sizeLine) (xq:d.params.defaults=[]) (hr:dS k callerA)
  (hY:∀(w:World)(h:Heap),YP w h->(K w.params).In h)
  (F:∀(w:World)(mg:Str->Option Value)(fa:Addr)(h:Heap),(K w.params).In h->h.Ns mainGlobals mg->mg d.name=some (.ref fa)->
   ∃fd:FuncData,(∀(s:Shared)(u:Value),BindsTo s fd ⟨[u],[]⟩ [(x,u)])/\
    ∀base:Heap,(K w.params).In base->base.Ns mainGlobals mg->ck l.prog w (K w.params) mg base (CX w) k fa fd [x] (sp w))
  (jf:∀(w:World)(H:Hp)(a:Addr)(ns:List Int),ns.length<=n->Ei H->dC (K w.params) H a (ns.map V.int)->sp w [.ref a] H (λv _=>v=.bl true) λ_ _ _=>False)
  (Ej:∀(w:World)(H:Hp)(s:Shared)(e:Value)(s':Shared),CX w [] H s (λ_ _ _=>False) e s'->False) :
  PySem.W.WalkO q u0 XP YP l.row.toRowW d [] (λf vs=>PySem.call f vs):=by
 refine Att.U3 hn xq λw s₀ s₁ mg mb fa o pm cd doc a vs ns G Y ho hd iA hmg Eh hints cT hg=>?_;have KX:=hY w _ Y;obtain⟨fd,hb,hF⟩:=F w mg fa _ KX G.T.g hmg;exact U4 KX G.T.g G.T.b G.T.builtins G.T.nolimit hg Eh hints (dj cT xr) hr hF hb (λH hO hS=>jf w H a ns cT hO hS) λH e s'=>Ej w H s₁ e s'
noncomputable def qH(s:Stmt):Arguments:=match s with
 | .FunctionDef _ a _ _ _ _ _ _ _ _=>a
 |_=>{ posonlyargs:=[],args:=[],vararg:=none,kwonlyargs:=[],kw_defaults:=[],kwarg:=none,defaults:=[] }
noncomputable def ng(s:Stmt):List Stmt:=match s with
 | .FunctionDef _ _ b _ _ _ _ _ _ _=>b
 |_=>[]
noncomputable def cN(s:Stmt):Scope:=match s with
 | .FunctionDef _ _ _ _ _ _ sc _ _ _=>sc
 |_=>{ kind:=.function,names:=[],isGenerator:=false,isCoroutine:=false }
abbrev cA:md:=λ_ _ _ _ _ _=>False
abbrev E0:XK:=λ_ _ _=>False
theorem cX:Passes cA X E0:=λ_ _ _ _ _ _ _ h=>h.elim
structure c9(K:Frag)(x qual:Str)(st:Stmt)(f:Addr)(fd:FuncData):Prop where
 ex:∃(oc:Value)(od:Option Addr)(kV doc pm:Value)(an:Option Addr)(cI ct:Value)(me:Array (Option Value)),
  fd=fnOf x qual (qH st) (ng st) (cN st) .none kV doc pm an cI ct/\K.lookup f=some ⟨oc,od,.func fd,me⟩/\PySem.W.codeIn K cI qual=true
 kp:Kp K f
section
variable{P:Program}{w:World}{K:Frag}{mg:Str->Option Value}{base:Heap}
theorem c9.ok{N ps:List Str}{k:Nat}{sp:Sp}(F:c9 K x qual st f fd)(S:dD N ps (cN st))(len:∀vs H Q E,sp vs H Q E->vs.length=ps.length)
  (sj:∀(cI:Value)(A:Around)(outer:List Env)(s:Shared)(H:Hp)(vs:List V)(Q:VK)(E:XK),dS k (A.deeper (envOfC qual (cN st) s.heap.objs.size f cI))->sp vs H Q E->
   ∃t,jW (jH cA P w K mg base N qual (cN st) f cI A outer s H E).qw (ng st) t/\t { nx:=λ_ H'=>Q .cC H',rt:=Q } (start N vs) H):ck P w K mg base cA (k+1) f fd ps sp:=by
 obtain⟨oc,od,kV,doc,pm,an,cI,ct,me,rfl,lk,iA⟩:=F.ex;refine K7 lk iA S len λA outer s H vs Q E hr jf=>?_;obtain⟨t,h,q⟩:=sj cI A outer s H vs Q E hr jf;exact⟨t,h.qw,q⟩
theorem c9.binds{ps:List Str}(F:c9 K x qual st f fd)
  (h:∀(kV doc pm:Value)(an:Option Addr)(cI ct:Value)(us:List Value),us.length=ps.length->bindArgs (fnOf x qual (qH st) (ng st) (cN st) .none kV doc pm an cI ct) ⟨us,[]⟩=pure (ps.zip us)):Binds K fd ps []:=by
 obtain⟨oc,od,kV,doc,pm,an,cI,ct,me,rfl,lk,iA⟩:=F.ex;exact .all (h kV doc pm an cI ct)
theorem Lq{oc:Value}{od an:Option Addr}{me:Array (Option Value)}{kV doc pm cI ct:Value}(l:K.lookup f=some ⟨oc,od,.func (fnOf x qual (qH st) (ng st) (cN st) .none kV doc pm an cI ct),me⟩)
  (c:PySem.W.codeIn K cI qual=true) (k:Kp K f):c9 K x qual st f (fnOf x qual (qH st) (ng st) (cN st) .none kV doc pm an cI ct):=⟨⟨oc,od,kV,doc,pm,an,cI,ct,me,rfl,l,c⟩,k⟩
end
theorem nh{A:Around}{k:Nat}(hr:dS k A):A.units+1<cLine:=Nat.lt_of_le_of_lt (Nat.add_le_add_left (by decide:1<=64) _) hr.units
section
variable{X:Cx}
theorem pv(i:Nat){pos:Pos}(hN:X.N[i]?=some x:=by rfl)(hv:rT X.env.scope x:=by first|exact Or.inl rfl|exact Or.inr (.inl rfl)|exact Or.inr (Or.inr rfl))(hd:(x==("__debug__":Str))=false:=by decide)
  (iA:(x==("__classdict__":Str))=false:=by decide):PE X (.Name x pos) (br i):=Kr hN hv hd iA
end
theorem dE(h:B):if false=true then A else B:=by
 rw[af gN];exact h
theorem eE(h:A):if true=true then A else B:=by
 rw[ae rfl];exact h
theorem lC{c:Prop} [Decidable c] (h1:c->A) (h2:¬c->B):if c then A else B:=by
 by_cases h:c
 ·rw[ae h];exact h1 h
 ·rw[af h];exact h2 h
theorem Va{c:Prop} [Decidable c] (hc:c) (h:B):if(!decide c)=true then A else B:=by
 rw[aG hc];exact dE h
def bh(H H':Hp):Prop:=∀b o,H b=some o->H' b=some o
theorem bh.refl(H:Hp):bh H H:=λ_ _ h=>h
theorem bh.trans{H1 H2:Hp}(a:bh H H1)(b:bh H1 H2):bh H H2:=λc o h=>b c o (a c o h)
theorem bh.seq{K:Frag}(e:bh H H')(h:dC K H a xs):dC K H' a xs:=by
 rcases h with(h|⟨o,h⟩)|h
 ·exact .inl (.inl (e _ _ h))
 ·exact .inl (.inr ⟨o,e _ _ h⟩)
 ·exact .inr h
noncomputable def km(cells:List (Str×Addr)):List (Str×NameKind)->List (Str×Addr)->List (Str×Addr)
 | [],acc=>acc
 |(n,k)::r,acc=>if k == .free then km cells r ((n,(cells.lookup n).getD 0)::acc)else km cells r acc
theorem Vb(h:∀x∈scope.names,x.2=.free->∃c,env.cells.lookup x.1=some c):closureFor scope env=pure (km env.cells scope.names []):=by
 unfold closureFor;have key:∀(names:List (Str×NameKind))(acc:List (Str×Addr)),(∀x∈names,x.2=.free->∃c,env.cells.lookup x.1=some c)->
   (forIn names acc (λ(x:Str×NameKind)(r:List (Str×Addr))=>(if(x.2==NameKind.free)=true then do let c <- cellOf env x.1;pure (ForInStep.yield ((x.1,c)::r))else pure (ForInStep.yield r):Sem (ForInStep (List (Str×Addr))))))=pure (km env.cells names acc):=by
  intro names;induction names with
  |nil=>intro acc _;rfl
  |cons x r ih=>
   intro acc hx;obtain⟨n,k⟩:=x;rw[List.forIn_cons];unfold km;by_cases hk:(k==NameKind.free)=true
   ·have iT:k=.free:=by simpa using hk
    obtain⟨c,hc⟩:=hx (n,k) c6 iT;have oQ:env.cells.lookup n=some c:=hc;simp only[hk,if_true];have e1:cellOf env n=pure c:=by unfold cellOf;rw[oQ]
    rw[e1,oQ];exact ih ((n,c)::acc) λy hy=>hx y (e9 _ hy)
   ·simp only[hk,if_false,zD];exact ih acc λy hy=>hx y (e9 _ hy)
 have e:=key scope.names [] h;first
  |exact e
  |(simp only[bind_pure];exact e)
theorem Al{cells:List (Str×Addr)}{x:Str}{c:Addr}:∀(names:List (Str×NameKind))(acc:List (Str×Addr)),(km cells names acc).lookup x=some c->acc.lookup x=some c\/((x,NameKind.free)∈names/\c=(cells.lookup x).getD 0)
 | [],_,h=>.inl h
 |(n,k)::r,acc,h=>by
  unfold km at h;by_cases hk:(k==NameKind.free)=true
  ·have iT:k=.free:=by simpa using hk
   rw[ae hk]at h;rcases Al r _ h with z|⟨z,e⟩
   ·rw[pL]at z;cases hb:x==n with
    |true=>
     rw[hb]at z;have e':x=n:=by simpa using hb
     subst e';subst iT;exact .inr ⟨c6,(eF z).symm⟩
    |false=>rw[hb]at z;exact .inl z
   ·exact .inr ⟨e9 _ z,e⟩
  ·rw[af hk]at h;rcases Al r _ h with z|⟨z,e⟩
   ·exact .inl z
   ·exact .inr ⟨e9 _ z,e⟩
theorem Ek{cells:List (Str×Addr)}{x:Str}:∀(names:List (Str×NameKind))(acc:List (Str×Addr)),((x,NameKind.free)∈names\/(acc.lookup x).isSome=true)->((km cells names acc).lookup x).isSome=true
 | [],_,h=>by
  rcases h with h|h
  ·cases h
  ·exact h
 |(n,k)::r,acc,h=>by
  unfold km;by_cases hk:(k==NameKind.free)=true
  ·rw[ae hk];refine Ek r _ ?_;rcases h with h|h
   ·rcases(dI.mp h)with(e|h)
    ·cases e;exact .inr (by rw[pL];simp)
    ·exact .inl h
   ·refine .inr ?_;rw[pL];cases hb:x==n<;>simp[h]
  ·rw[af hk];refine Ek r _ ?_;rcases h with h|h
   ·rcases(dI.mp h)with(e|h)
    ·cases e;exact absurd rfl hk
    ·exact .inl h
   ·exact .inr h
theorem u9:∀(names:List (Str×NameKind))(n:Nat)(acc:List (Str×Addr)),cellsFrom n names acc=cellsFrom n names []++acc
 | [],_,_=>rfl
 |(x,k)::r,n,acc=>by
  unfold cellsFrom;by_cases hk:(k==NameKind.cell)=true
  ·rw[ae hk,ae hk,u9 r (n+1) ((x,n)::acc),u9 r (n+1) [(x,n)],fg];rfl
  ·rw[af hk,af hk];exact u9 r n acc
theorem El:∀(names:List (Str×NameKind))(n:Nat)(x:Str)(c:Addr),(x,c)∈cellsFrom n names []->(x,NameKind.cell)∈names
 | [],_,_,_,h=>nomatch h
 |(y,k)::r,n,x,c,h=>by
  unfold cellsFrom at h;by_cases hk:(k==NameKind.cell)=true
  ·have iT:k=.cell:=by simpa using hk
   rw[ae hk,u9]at h;refine(iG.mp h).elim (λh=>?_) λh=>?_
   ·exact e9 _ (El r _ x c h)
   ·have e:(x,c)=(y,n):=by simpa using h
    cases e;subst iT;exact c6
  ·rw[af hk]at h;exact e9 _ (El r n x c h)
theorem Em{α:Type}{x:Str}:∀(a b:List (Str×α)),(a++b).lookup x=(a.lookup x).or (b.lookup x)
 | [],_=>by simp
 |(y,v)::r,b=>by
  rw[ui,pL,pL];cases hb:x==y with
  |true=>simp
  |false=>exact Em r b
theorem xt{α:Type}{x:Str}{v:α}:∀{l:List (Str×α)},(l.map (·.1)).Nodup->(x,v)∈l->l.lookup x=some v
 | [],_,h=>by cases h
 |(y,w)::r,nd,h=>by
  rw[ee,List.nodup_cons]at nd;rw[pL];cases h with
  |head=>simp
  |tail _ h=>
   have dX:(x==y)=false:=by
    apply beq_false_of_ne;intro Vc;exact nd.1 (lh.mpr ⟨(x,v),h,Vc⟩)
   rw[dX];exact xt nd.2 h
theorem Lr{α β:Type}{x:Str}(f:Str×α->Str×β)(hf:∀p,(f p).1=p.1):∀(l:List (Str×α)),(l.map f).lookup x=(l.lookup x).map λk=>(f (x,k)).2
 | []=>rfl
 |(n,k)::r=>by
  obtain⟨m,z⟩:∃z,f (n,k)=(n,z):=⟨(f (n,k)).2,Prod.ext (hf _) rfl⟩;rw[ee,z,pL,pL];cases hx:x==n with
  |false=>exact Lr f hf r
  |true=>cases(beq_iff_eq.mp hx);simp[z]
theorem Vd(names:List (Str×NameKind)):(names.map λ(n,k)=>if(k==NameKind.free&&env.scope.kind == .function&&env.kindOf n==some .cell)then(n,NameKind.cell)else(n,k)).lookup x =
  (names.lookup x).map λk=>if(k==NameKind.free&&env.scope.kind == .function&&env.kindOf x==some .cell)=true then NameKind.cell else k:=by
 rw[Lr _ (λp=>by dsimp only;split<;>rfl)]
 congr 1
 funext k
 dsimp only;split<;>rfl
theorem Ve{M:Model}{A:Around}{E:QV}{cl:List (Str×Addr)}{Q:Env->Shared->Prop}
  (q:Q (newEnv scope s.heap.objs.size env.globals (cellsFrom (s.heap.objs.size+1) scope.names cl) env.qual none .none (some env) builtinsNs)
   { s with heap:=pushCells (s.heap.push { cls:=.type "dict",data:=.dict #[] }) scope.names }) :
  wpAny M A (newFunctionEnv scope env.globals cl [] env.qual none .none (some env)) Q E s:=by
 have z:(s.heap.push { cls:=.type "dict",data:=.dict #[] }).objs.size=s.heap.objs.size+1:=Heap.size_push ..;rw[<- z]at q;unfold newFunctionEnv;have cells:=wpAny_layCells (M:=M) (A:=A) (E:=E) (λx r=>if(x.2==NameKind.cell)=true then(do let c <- alloc { cls:=.type "cell",data:=.cell none };pure (ForInStep.yield ((x.1,c)::r)))else pure (ForInStep.yield r)) (λ_ _ _=>rfl) scope.names cl { s with heap:=s.heap.push { cls:=.type "dict",data:=.dict #[] } }
 exact ak (wpAny_alloc (ak (cells _ (ak (au (au q))))))
noncomputable def ni(X:Cx)(N:List Str)(scope:Scope)(cs:List (Str×Addr))(C:Addr)(s₀:Shared)(H₀:Hp)(ex:List Addr):Cx where
 prog:=X.prog
 w:=X.w
 K:=X.K
 mg:=X.mg
 base:=X.base
 A:=X.A
 N:=N
 s₀:=s₀
 H₀:=H₀
 env:=compEnvC scope cs C X.env
 outer:=X.stack
 stack:=X.stack
 ex:=ex
 fn:=λx=>scope.names.lookup x==some .cell
 calm:=X.calm
 pn:=[]
 xe:=λ_ _=>False
structure j0(oN:List Str)(qI:Scope)(N:List Str)(own:Nat)(caps:List Nat)(scope:Scope):Prop where
 kind:scope.kind=.function
 nd:N.Nodup
 Am:(scope.names.map (·.1)).Nodup
 free:∀x∈scope.names,x.2=.free->qI.names.lookup x.1=some .cell\/qI.names.lookup x.1=some .free
 len:N.length=own+caps.length
 nj:caps.map (λi=>oN[i]?)=(N.drop own).map some
 Vf:∀x∈N.drop own,scope.names.lookup x=some .free
noncomputable def o7(own:Nat)(caps:List Nat)(σ:St):St:=List.replicate own none++caps.map λi=>(σ[i]?).join
noncomputable abbrev qJ(X:Cx)(scope:Scope)(C:Addr):List (Str×Addr):=cellsFrom (C+1) scope.names (km X.env.cells scope.names [])
noncomputable abbrev xu(h:Heap)(scope:Scope):Heap:=pushCells (h.push { cls:=.type "dict",data:=.dict #[] }) scope.names
section
variable{X:Cx}{bc:List (Addr×Obj)}{σ:St}{H:Hp}{s:Shared}{N:List Str}{own:Nat}{caps:List Nat}{scope:Scope}{ex:List Addr}
theorem va(S:j0 X.N X.env.scope N own caps scope)(I:Inv X bc σ H s)(n:Nat){c:Addr}(h:(cellsFrom n scope.names (km X.env.cells scope.names [])).lookup x=some c) :
  (x,c)∈cellsFrom n scope.names []\/((x,NameKind.free)∈scope.names/\X.env.cells.lookup x=some c):=by
 rw[u9,Em]at h;cases q:(cellsFrom n scope.names []).lookup x with
 |some c'=>
  rw[q]at h;have e:c'=c:=by simpa using h
  subst e;exact .inl (rM q)
 |none=>
  rw[q]at h;have h':(km X.env.cells scope.names []).lookup x=some c:=by simpa using h
  rcases Al _ _ h' with z|⟨z,e⟩
  ·cases z
  ·refine .inr ⟨z,?_⟩;obtain⟨c',oQ⟩:=I.ok.has x (S.free (x,.free) z rfl);rw[oQ]at e |-;rw[e];rfl
theorem Ls(S:j0 X.N X.env.scope N own caps scope)(I:Inv X bc σ H s)(n:Nat)(hx:scope.names.lookup x=some .free) :
  ∃c,X.env.cells.lookup x=some c/\(cellsFrom n scope.names (km X.env.cells scope.names [])).lookup x=some c:=by
 have hm:(x,NameKind.free)∈scope.names:=rM hx;obtain⟨c,hc⟩:=I.ok.has x (S.free (x,.free) hm rfl);refine⟨c,hc,?_⟩;obtain⟨c',oQ⟩:=wG.mp (Ek (cells:=X.env.cells) (x:=x) scope.names [] (.inl hm));have e0:(cellsFrom n scope.names []).lookup x=none:=by
  cases q:(cellsFrom n scope.names []).lookup x with
  |none=>rfl
  |some d=>
   have:=xt S.Am (El _ _ _ _ (rM q))
   rw[hx]at this;cases this
 rw[u9,Em,e0,oQ];rcases Al _ _ oQ with z|⟨_,e⟩
 ·cases z
 ·rw[hc]at e;rw[e];rfl
theorem Vg(S:j0 X.N X.env.scope N own caps scope)(I:Inv X bc σ H s)(hex:∀b∈ex,je X bc H b/\b<s.heap.objs.size) :
  Inv (ni X N scope (qJ X scope s.heap.objs.size) s.heap.objs.size s H ex) [] (o7 own caps σ) H { s with heap:=xu s.heap scope }:=by
 have k1:∀b o,s.heap.get? b=some o->(xu s.heap scope).get? b=some o:=λb o e=>pushCells_keeps _ _ b o (dJ _ e);have ok:=cellsFrom_ok scope.names (s.heap.push { cls:=.type "dict",data:=.dict #[] }) (s.heap.objs.size+1) [] ⟨λ_ _ hm=>(nomatch hm),List.Pairwise.nil⟩ (by rw[Heap.size_push];exact cF _);rw[Heap.size_push]at ok;have Lu:∀x c,X.env.cells.lookup x=some c->c<s.heap.objs.size:=λx c e=>by
  obtain⟨v,q⟩:=I.cell x c e;exact q.lt
 have Lv:∀x,(compEnvC scope (qJ X scope s.heap.objs.size) s.heap.objs.size X.env).kindOf x=(scope.names.lookup x).map λk=>if(k==NameKind.free&&X.env.scope.kind == .function&&X.env.kindOf x==some .cell)=true then NameKind.cell else k:=
  λx=>Vd (env:=X.env) scope.names
 have kk:∀x,(compEnvC scope (qJ X scope s.heap.objs.size) s.heap.objs.size X.env).kindOf x=some .cell\/(compEnvC scope (qJ X scope s.heap.objs.size) s.heap.objs.size X.env).kindOf x=some .free->
   scope.names.lookup x=some .cell\/scope.names.lookup x=some .free:=λx h=>by
  rw[Lv]at h;cases q:scope.names.lookup x with
  |none=>rw[q]at h;rcases h with h|h<;>cases h
  |some k=>
   rw[q]at h;by_cases hf:k=.free
   ·exact .inr (by rw[hf])
   ·have hb:(k==NameKind.free)=false:=by simpa using hf
    have e:(some k).map (λk=>if(k==NameKind.free&&X.env.scope.kind == .function&&X.env.kindOf x==some .cell)=true then NameKind.cell else k)=some k:=by
     simp[hf]
    rw[e]at h;exact h
 refine⟨⟨I.ok.mod,S.kind,I.ok.glob,I.ok.blt,cF _,λx y c h1 h2=>?_,λx hx=>?_,λx c hf h=>?_,I.ok.hd,I.ok.frames,.inl rfl,λb hb=>⟨?_,λx c h=>?_⟩,λb o e=>?_,dj I.ok.qv I.sz,λb o e hb=>?_,λb hb hf=>?_,I.stack,I.zL⟩,
  rfl,I.bare,Un.kept k1,⟨λ_=>none,?_,λi x v h1 h2 h3=>?_⟩,λx c h=>?_,I.bZ.fresh (cF _),λx c h=>?_,λp hp=>absurd (show p∈([]:List (Addr×Obj)) from hp) (by simp),I.bZ.kept k1,?_⟩
 ·
  rcases va S I _ h1 with a1|⟨_,a1⟩<;>rcases va S I _ h2 with a2|⟨_,a2⟩
  ·exact name_of_addr ok.apart a1 a2
  ·exact absurd (Lu _ _ a2) (Nat.not_lt.mpr (Nat.le_of_succ_le (ok.empty _ _ a1).2))
  ·exact absurd (Lu _ _ a1) (Nat.not_lt.mpr (Nat.le_of_succ_le (ok.empty _ _ a2).2))
  ·exact I.ok.inj _ _ _ a1 a2
 ·
  rcases kk x hx with q|q
  ·exact wG.mp (Df scope.names _ _ (.inl q))
  ·obtain⟨c,_,hc⟩:=Ls S I (s.heap.objs.size+1) q;exact⟨c,hc⟩
 ·
  have vb:scope.names.lookup x=some .cell:=by simpa[ni]using hf
  rcases va S I _ h with a|⟨a,_⟩
  ·exact Nat.le_of_succ_le (ok.empty _ _ a).2
  ·rw[xt S.Am a]at vb;cases vb
 ·exact fK (hex b hb).2
 ·rcases va S I _ h with a|⟨_,a⟩
  ·exact Nat.ne_of_gt (jF (hex b hb).2 (Nat.le_of_succ_le (ok.empty _ _ a).2))
  ·exact(hex b hb).1.2.2.2.2.1 x c a
 ·exact I.bs b o e
 ·rcases(hex b hb).1.2.2.2.1 with z|z
  ·exact I.ok.wM b o e z
  ·exact absurd (jF (dH e) (dj I.ok.qv z)) (Nat.lt_irrefl _)
 ·rcases dI.mp (I.Du b hf)with z|z
  ·exact(hex b hb).1.2.1 z
  ·exact(hex b hb).1.2.2.1 z
 ·exact(Heap.Ns.new s.heap (.type "dict")).keeps (pushCells_keeps _ _)
 ·
  have hi:own<=i:=by
   refine Nat.le_of_not_lt λcY=>?_;unfold o7 at h2;rw[lg (by simpa using cY),List.getElem?_replicate]at h2;split at h2<;>cases h2
  obtain⟨j,rfl⟩:∃j,i=own+j:=⟨i-own,by lia⟩;unfold o7 at h2;rw[kZ (by simp),uh,Nat.add_sub_cancel_left,fw]at h2;cases hc:caps[j]? with
  |none=>rw[hc]at h2;cases h2
  |some ci=>
   rw[hc]at h2;have hσ:σ[ci]?=some (some v):=by
    have z:(σ[ci]?).join=some v:=by simpa using h2
    cases q:σ[ci]? with
    |none=>rw[q]at z;cases z
    |some o=>rw[q]at z;have z':o=some v:=z;rw[z']
   have Lw:(N.drop own)[j]?=some x:=by rw[List.getElem?_drop];exact h1
   have hX:X.N[ci]?=some x:=by
    have e:=ai (λl=>l[j]?) S.nj;simp only[fw,hc,Lw,Option.map_some]at e;exact eF e
   have nR:=S.Vf x (iO Lw);obtain⟨c,An,uQ⟩:=Ls S I (s.heap.objs.size+1) nR;obtain⟨m,hn,hl⟩:=I.loc;have hk:=S.free (x,.free) (rM nR) rfl;have Vh:rT X.env.scope x:=.inr hk;obtain⟨u,ru,lk⟩:=hl ci x v hX hσ Vh;refine⟨u,ru,?_⟩;rcases lk with⟨z,_⟩|⟨_,c',e',z⟩
   ·have z':X.env.scope.names.lookup x=some .local:=z;rcases hk with hk|hk
    ·have iT:X.env.scope.names.lookup x=some .cell:=hk;rw[z']at iT;cases iT
    ·have iT:X.env.scope.names.lookup x=some .free:=hk;rw[z']at iT;cases iT
   ·rw[An]at e';cases e';refine .inr ⟨?_,c,uQ,z.keeps k1⟩;show(compEnvC scope _ _ X.env).kindOf x=_\/(compEnvC scope _ _ X.env).kindOf x=_;rw[Lv,nR];show some (if _ then NameKind.cell else NameKind.free)=_\/some (if _ then NameKind.cell else NameKind.free)=_
    split
    ·exact .inl rfl
    ·exact .inr rfl
 ·rcases va S I _ h with a|⟨_,a⟩
  ·exact⟨_,(ok.empty _ _ a).1⟩
  ·obtain⟨v,q⟩:=I.cell x c a;exact⟨v,q.keeps k1⟩
 ·rcases va S I _ h with a|⟨_,a⟩
  ·exact I.bZ.fresh (Nat.le_of_succ_le (ok.empty _ _ a).2)
  ·exact I.l6 x c a
 ·unfold o7;show _=N.length;rw[S.len,cL,uh,cB]
end
def vc(X:Cx)(jg:List Expr)(t:TT):Prop:=
 ∀(bc:List (Addr×Obj))(s:Shared)(σ:St)(H:Hp)(Q:Bool->Hp->Prop),Inv X bc σ H s->t σ H Q->
  wpAny (model X.prog X.w) X.A (forIn jg true λc r=>if r=true then do let ok <- isTrue c X.env (eval c X.env);pure (ForInStep.yield ok)else pure (ForInStep.yield r)) (TP X bc σ Q) X.xe s
def vd:TT:=λ_ H Q=>Q true H
theorem xv:vc X [] vd:=λ_ _ _ H _ I h=>wpAny_tests_nil ⟨H,I,h⟩
theorem En{c:Expr}{t:TT}(h:PT X c t):vc X [c] t:=λbc s σ H Q I q=>wpAny_tests_one (h bc s σ H Q I q)
def Eo(M:Model)(A:Around)(env:Env)(it acc:Value)(tg jL:Expr)(jg:List Expr)(E:QV)(fin more:Shared->Prop):Shared->Prop:=
 let kept:Shared->Prop:=λu=>wpAny M A (eval jL env) (λx u5=>wpAny M A (call (.builtin "list.append") [acc,x]) (λ_ u6=>more u6) E u5) E u
 let Vi:Shared->Prop:=λu=>wpAny M A (forIn jg true λc r=>if r=true then(do let ok <- isTrue c env (eval c env);pure (ForInStep.yield ok))else pure (ForInStep.yield r)) (λok u4=>if ok=true then kept u4 else more u4) E u
 let Vj:QV:=λv u=>wpAny M A (letOwnedTupleGo tg it v) (λ_ u2=>wpAny M A (assign tg env v) (λ_ u3=>Vi u3) E u2) E u
 λu=>wpAny M A (pyNext it) (λo u1=>match o with|none=>fin u1|some v=>Vj v u1) E u
theorem Vk{prog:Program}{w:World}{A:Around}{R:Result->Shared->Prop}{jL tg iter:Expr}{jg:List Expr}{pos:Pos}{it acc:Value}(I:Nat->Shared->Prop)(n:Nat)(start:I n s)
  (nP:∀m u,I m u->Eo (model prog w) A env it acc tg jL jg (notedBy (model prog w) A env λe v=>R (.error e) v) (R (.ok .next)) (λv=>∃j,j<m/\I j v) u) :
  codeAny (model prog w) A (.compLoop (.ListComp jL [⟨tg,iter,jg,0⟩] scope pos) 0 it acc env) R s:=by
 refine codeAny_loop rfl I (λm u hu=>wpAny_noted (m:=compTurn (.ListComp jL [⟨tg,iter,jg,0⟩] scope pos) 0 it acc env) ?_) n start;have go:=nP m u hu;unfold Eo at go;rw[compTurn_list];refine ak (wpAny_standAt (ak (bj go λo u1 b1=>?_)))
 match o,b1 with
 |none,b1=>exact au b1
 |some v,b1=>
  refine ak (bj b1 λ_ u2 b2=>ak (bj b2 λ_ u3 b3=>ak (bj b3 λok u4 b4=>?_)))
  match ok,b4 with
  |false,b4=>exact au ⟨rfl,b4⟩
  |true,b4=>exact ak (ak (bj b4 λx u5 b5=>ak (bj b5 λ_ u6 b6=>au (au ⟨rfl,b6⟩))))
def qK(J:It)(g:TG)(tt:TT)(te:TE)(Q:VK)(W:Nat->Nat->St->Hp->List V->Prop):Prop:=
 ∀i m σ' H' ys,W i m σ' H' ys->
  (J.stop i H'/\ys.length<=sizeLine/\∀p,H' p=none->Q (.ref p) (upd H' p (.lst ys))) \/
  (J.go i H'/\ys.length<sizeLine/\∃N:St->Hp->List V->Prop,(∀σ2 H2 zs,N σ2 H2 zs->∃m',m'<m/\W (i+1) m' σ2 H2 zs)/\
   ∀x H2,J.pS i H' x H2->g x σ' H2 λσ3 H3=>tt σ3 H3 λb H4=>if b=true then te σ3 H4 λv H5=>N σ3 H5 (ys++[v])else N σ3 H4 ys)
def ve(wi:TI)(own:Nat)(caps:List Nat)(g:TG)(tt:TT)(te:TE):TE:=λσ H Q=>wi σ H λJ H1=>
 ∃W:Nat->Nat->St->Hp->List V->Prop,(∃m,W 0 m (o7 own caps σ) H1 [])/\qK J g tt te Q W
section
variable{X:Cx}{tg jL iter:Expr}{jg:List Expr}{scope:Scope}{pos:Pos}{N:List Str}{own:Nat}{caps:List Nat}{wi:TI}{g:TG}{tt:TT}{te:TE}
theorem Lx{bc:List (Addr×Obj)}{σ:St}{H2:Hp}{s2:Shared}{J:It}{fp:List Addr}{it:Addr}{tn:Nat->Heap->Prop}{W:Nat->Nat->St->Hp->List V->Prop}{m0:Nat}
  {E:QV} {R:Value->Addr->Result->Shared->Prop} (hc:X.calm=true) (S:j0 X.N X.env.scope N own caps scope)
  (hg:∀cs C s₀ H₀ ex,PG (ni X N scope cs C s₀ H₀ ex) tg g) (ht:∀cs C s₀ H₀ ex,vc (ni X N scope cs C s₀ H₀ ex) jg tt) (he:∀cs C s₀ H₀ ex,PE (ni X N scope cs C s₀ H₀ ex) jL te)
  (I2:Inv X bc σ H2 s2) (T:Turn X.prog X.w X.K tg J fp it tn) (qB:tn 0 s2.heap) (f2:∀b∈fp,je X bc H2 b)
  (w0:W 0 m0 (o7 own caps σ) H2 []) (nP:qK J g tt te Q W)
  (Vl:∀D C s' H' ys,Inv X bc σ (upd H' D (.lst ys)) s'->je X bc (upd H' D (.lst ys)) C->(∃m,s'.heap.Ns C m)->Q (.ref D) (upd H' D (.lst ys))->R (.ref D) C (.ok .next) s') :
  wpAny (model X.prog X.w) X.A (newList []) (λacc s₃=>wpAny (model X.prog X.w) X.A (newFunctionEnv scope X.env.globals (km X.env.cells scope.names []) [] X.env.qual none .none (some X.env)) (λLy s₄=>
   codeAny (model X.prog X.w) X.A (.compStart (.ListComp jL [⟨tg,iter,jg,0⟩] scope pos) 0 (.ref it) acc { Ly with scope:=relabel scope X.env }) (R acc Ly.locals) s₄) E s₃) E s2:=by
 refine aF (Ve ?_);dsimp only;generalize Ep:s2.heap.push { cls:=.type "list",dict:=none,data:=.seq ([]:List Value).toArray }=h3;have hC:h3.objs.size=s2.heap.objs.size+1:=by rw[<- Ep,Heap.size_push]
 have Lz:∀b o,s2.heap.get? b=some o->h3.get? b=some o:=λb o e=>Ep▸dJ _ e;have I3:Inv X bc σ H2 { s2 with heap:=h3 }:=I2.kept (t':=s2.toks) Lz;have gD:h3.get? s2.heap.objs.size=some { cls:=.type "list",data:=.seq ([]:List Value).toArray }:=Ep▸gT _ rfl;have fD:je X bc H2 s2.heap.objs.size:=I2.l8 (cF _) (I2.bZ.fresh (cF _));have LC:∀b∈fp,b<s2.heap.objs.size:=λb hb=>by
  obtain⟨o,e,_⟩:=T.obj 0 _ qB b hb;exact dH e
 have hex:∀b∈s2.heap.objs.size::fp,je X bc H2 b/\b<({ s2 with heap:=h3 }:Shared).heap.objs.size:=λb hb=>by
  show _/\b<h3.objs.size;rw[hC];cases hb with
  |head=>exact⟨fD,Nat.lt_succ_self _⟩
  |tail _ hb=>exact⟨f2 b hb,Nat.lt_succ_of_lt (LC b hb)⟩
 have IB:=Vg S I3 hex;generalize hY:ni X N scope (qJ X scope h3.objs.size) h3.objs.size { s2 with heap:=h3 } H2 (s2.heap.objs.size::fp)=Y at IB;have yP:Y.prog=X.prog:=by rw[<- hY];rfl
 have yW:Y.w=X.w:=by rw[<- hY];rfl
 have yK:Y.K=X.K:=by rw[<- hY];rfl
 have yc:Y.calm=true:=by rw[<- hY];exact hc
 have yA:Y.A=X.A:=by rw[<- hY];rfl
 have yx:Y.xe=λ_ _=>False:=by rw[<- hY];rfl
 have yL:Y.env.locals=h3.objs.size:=by rw[<- hY];rfl
 have LH:Y.ex=s2.heap.objs.size::fp:=by rw[<- hY];rfl
 have Vm:Y.fs=gq X.stack:=by rw[<- hY];rfl
 have LI:Y.pn=[]:=by rw[<- hY];rfl
 have Er:Y.env=compEnvC scope (qJ X scope h3.objs.size) h3.objs.size X.env:=by rw[<- hY];rfl
 have yg:PG Y tg g:=by rw[<- hY];exact hg _ _ _ _ _
 have yt:vc Y jg tt:=by rw[<- hY];exact ht _ _ _ _ _
 have ye:PE Y jL te:=by rw[<- hY];exact he _ _ _ _ _
 have yb:∀{σ':St}{H':Hp}{s':Shared}{pn:List (Addr×Obj)},Inv Y pn σ' H' s'->Un (gq X.stack) (s2.heap.objs.size::fp) H2 H' h3 s'.heap:=λ{σ' H' s' pn} J=>by
  have b:=J.base;rw[Vm,LH]at b;have e1:Y.H₀=H2:=by rw[<- hY];rfl
  have e2:Y.s₀.heap=h3:=by rw[<- hY];rfl
  rw[e1,e2]at b;exact b
 have Vn:∀{σ':St}{H':Hp}{s':Shared}{pn:List (Addr×Obj)},Inv Y pn σ' H' s'->s'.os=s2.os:=λ{σ' H' s' pn} J=>by
  have e:Y.s₀.os=s2.os:=by rw[<- hY];rfl
  exact J.os.trans e
 have DL:s2.heap.objs.size≠Y.env.locals:=by rw[yL,hC];exact fK (Nat.lt_succ_self _)
 have LJ:s2.heap.objs.size ∉ fp:=λz=>Nat.lt_irrefl _ (LC _ z);have Es:∀b∈s2.heap.objs.size::fp,b∈Y.ex:=λb hb=>by rw[LH];exact hb
 have Vo:∀{pn:List (Addr×Obj)}{H':Hp},(∀p∈pn,p.1 ∉ fp)->(∀b∈fp,H' b=none)->∀b∈fp,je Y pn H' b:=λ{pn H'} hp hn b hb=>by
  have vf:=Es b (e9 _ hb);refine⟨hn b hb,(IB.ok.wL b vf).1,IB.ok.uD b vf,.inl vf,(IB.ok.wL b vf).2,λp sx z=>?_⟩;rw[LI,List.nil_append]at sx;exact hp p sx (z▸hb)
 have Ao:∀b o,h3.get? b=some o->(xu h3 scope).get? b=some o:=λb o e=>pushCells_keeps _ _ b o (dJ _ e);have LK:tn 0 (xu h3 scope):=T.keep 0 s2.heap _ qB λb _ o e=>Ao b o (Lz b o e);have Vp:=Ao _ _ gD;have loop:codeAny (model X.prog X.w) X.A (.compLoop (.ListComp jL [⟨tg,iter,jg,0⟩] scope pos) 0 (.ref it) (.ref s2.heap.objs.size) (compEnvC scope (qJ X scope h3.objs.size) h3.objs.size X.env)) (R (.ref s2.heap.objs.size) h3.objs.size)
   { s2 with heap:=xu h3 scope }:=by
  refine Vk (λn s'=>∃i σ' H' ys its nj,Inv Y [] σ' H' s'/\tn i s'.heap/\(∀b∈fp,H' b=none)/\H' s2.heap.objs.size=none/\
   s'.heap.get? s2.heap.objs.size=some { cls:=.type "list",data:=.seq (its:List Value).toArray nj }/\Vals ys its/\W i n σ' H' ys) m0
   ⟨0,_,H2,[],[],_,IB,LK,λb hb=>(f2 b hb).1,fD.1,Vp,.nil,w0⟩ ?_
  rintro n s5 ⟨i,σ5,H5,ys,its,nj,I5,t5,zV,LM,Vq,Ap,w5⟩;unfold Eo;dsimp only;have LN:Inv Y [(s2.heap.objs.size,{ cls:=.type "list",data:=.seq its.toArray nj })] σ5 H5 s5:=I5.zO λp hp=>by
   have e:=dP.mp hp;subst e;exact⟨Vq,LM,DL,IB.ok.uD _ (Es _ c6),λv z=>by cases z⟩
  have Vr:∀p∈[((s2.heap.objs.size:Addr),({ cls:=.type "list",data:=.seq its.toArray nj }:Obj))],p.1 ∉ fp:=λp hp=>by
   have e:=dP.mp hp;subst e;exact LJ
  have Et:∀{H':Hp},(∀b∈fp,H' b=none)->∀b∈fp,je Y [((s2.heap.objs.size:Addr),({ cls:=.type "list",data:=.seq its.toArray nj }:Obj))] H' b:=λhn=>Vo Vr hn;rcases nP i n σ5 H5 ys w5 with⟨stop,hz,qn⟩|⟨go,hz,NN,LO,step⟩
  ·rw[<- yA];refine ag (T.done Y yP yW yK yc i _ s5 σ5 H5 (λ_ _=>False) LN (Et zV) t5 stop) (λr s6 h6=>?_) λ_ _ f=>f.elim;obtain⟨hr,I6⟩:=h6;subst hr;have Eu:=I6.pin (s2.heap.objs.size,_) (jU _ (dP.mpr rfl));have nD:H2 s2.heap.objs.size=none:=fD.1;have base:=yb I6;have un:Un (gq X.stack) (s2.heap.objs.size::fp) H2 (upd H5 s2.heap.objs.size (.lst ys)) h3 s6.heap:=⟨base.keep,base.slot,λb o e n hx=>by
     rw[cH (λz=>hx (by rw[z];exact c6))];exact base.free b o e n hx,base.there,
    λb xs e=>by rw[cH (gI e nD)];exact base.jc b xs e,λb o u e=>by rw[cH (gI e nD)];exact base.iQ b o u e,λb ps e=>by
     obtain⟨more,q⟩:=base.jG b ps e;exact⟨more,by rw[cH (gI e nD)];exact q⟩⟩
   have bZ:dN X.prog X.w (upd H5 s2.heap.objs.size (.lst ys)) s6.heap:=λb u e=>by
    have LP:=I6.bZ;rw[yP,yW]at LP;by_cases hb:b=s2.heap.objs.size
    ·subst hb;rw[bz]at e;cases e;exact⟨hz,its,nj,Ap,Eu.1⟩
    ·rw[cH hb]at e;exact(LP b u e).mY (λc v _ q=>q) (λc q=>by rw[cH (gI q Eu.2.1)];exact q) λc xs q=>by rw[cH (gI q Eu.2.1)];exact q
   have I7:Inv X bc σ (upd H5 s2.heap.objs.size (.lst ys)) s6:=I3.Kq (Vn I6) un bZ I6.bare λb hb=>by
    have z:=(hex b hb).1;exact⟨z.2.2.2.1,z.2.1,z.2.2.2.2.1,z.2.2.2.2.2⟩
   have Vs:H5 h3.objs.size=none:=by rw[<- yL];exact I6.free
   have CD:h3.objs.size≠s2.heap.objs.size:=by rw[hC];exact Nat.succ_ne_self _
   refine Vl _ _ s6 H5 ys I7 (I3.l8 (cF _) (by rw[cH CD];exact Vs)) ?_ (qn _ LM);obtain⟨m,hn,_⟩:=I6.loc;rw[yL]at hn;exact⟨m,hn⟩
  ·rw[<- yA];have lift:∀{α:Type}{t:Sem α}{Q1 Q2:α->Shared->Prop}{s':Shared},wpAny (model X.prog X.w) Y.A t Q1 Y.xe s'->(∀a jI,Q1 a jI->Q2 a jI)->
     wpAny (model X.prog X.w) Y.A t Q2 (notedBy (model X.prog X.w) Y.A (compEnvC scope (qJ X scope h3.objs.size) h3.objs.size X.env) λe s'=>R (.ref s2.heap.objs.size) h3.objs.size (.error e) s') s':=λh k=>
    ag h k λ_ _ f=>by rw[yx]at f;exact f.elim
   refine lift (T.item Y yP yW yK yc i _ s5 σ5 H5 Y.xe LN (Et zV) t5 go) λr s6 h6=>?_;obtain⟨u,hr,h6⟩:=h6;subst hr;refine lift h6 λ_ s7 h7=>?_;obtain⟨x,H7,I7,r7,y7,t7,Vt⟩:=h7;have Vu:=I7.pinned (Et Vt) (T.obj _ _ t7);have ha:=yg _ s7 σ5 H7 x u _ Vu r7 (step x H7 y7);rw[yP,yW,Er]at ha;refine lift ha λ_ s8 h8=>?_;obtain⟨σ8,H8,I8,q8⟩:=h8;have hb:=yt _ s8 σ8 H8 _ I8 q8;rw[yP,yW,Er]at hb;refine lift hb λok s9 h9=>?_;obtain⟨H9,I9,q9⟩:=h9;have after:∀{σ':St}{H':Hp}{s':Shared},Inv Y ([((s2.heap.objs.size:Addr),({ cls:=.type "list",data:=.seq its.toArray nj }:Obj))]++wY fp s7.heap) σ' H' s'->
     Inv Y [] σ' H' s'/\tn (i+1) s'.heap/\(∀b∈fp,H' b=none)/\H' s2.heap.objs.size=none/\s'.heap.get? s2.heap.objs.size=some { cls:=.type "list",data:=.seq its.toArray nj }:=λ{σ' H' s'} J=>by
    have pD:=J.pin (s2.heap.objs.size,_) (jU _ (rL _ (dP.mpr rfl)));refine⟨J.zO (λp hp=>by cases hp),T.keep _ _ _ t7 λb hb o e=>(J.pin (b,o) (jU _ (jU _ (zU hb e)))).1,λb hb=>?_,pD.2.1,pD.1⟩;obtain⟨o,e,d⟩:=T.obj _ _ t7 b hb;exact(J.pin (b,o) (jU _ (jU _ (zU hb e)))).2.1
   cases ok with
   |false=>
    rw[af (by decide)]at q9;rw[af (by decide)];obtain⟨m',hm,w9⟩:=LO _ _ _ q9;obtain⟨a1,a2,a3,a4,a5⟩:=after I9;exact⟨m',hm,i+1,σ8,H9,ys,its,nj,a1,a2,a3,a4,a5,Ap,w9⟩
   |true=>
    rw[ae rfl]at q9;rw[ae rfl];have hd:=ye _ s9 σ8 H9 _ I9 q9;rw[yP,yW,Er]at hd;refine lift hd λv eY Ew=>?_;obtain⟨y,Aq,Vv,Ar,Vw⟩:=Ew;obtain⟨m',hm,Vx⟩:=LO _ _ _ Vw;obtain⟨a1,a2,a3,a4,a5⟩:=after Vv;have cT:=Ap.length;refine append_at (hsz:=by rw[dR];lia) a5 λh' sb g'=>?_;have LQ:=Es _ (c6 (a:=s2.heap.objs.size) (l:=fp));have Vy:Inv Y [] σ8 Aq { eY with heap:=h' }:=a1.turned (t':=eY.toks) (it:=s2.heap.objs.size) (λb o hb e=>(sb.2 b hb).trans e) a4 DL (.inl LQ) (IB.ok.wL _ LQ).2 (by rw[LI];intro p hp;cases hp);refine⟨m',hm,i+1,σ8,Aq,ys++[y],its++[v],nj+1,Vy,T.keep _ _ _ a2 λb hb o e=>(sb.2 b (λz=>LJ (z▸hb))).trans e,a3,a4,?_,Ap.snoc Ar,Vx⟩;rw[g',List.push_toArray]
 exact codeAny_compStart_list loop (T.self X.A 0 _ _ _ LK loop)
theorem LR(S:j0 X.N X.env.scope N own caps scope){bc:List (Addr×Obj)}{σ:St}(I:Inv X bc σ H s):closureFor scope X.env=pure (km X.env.cells scope.names []):=
 Vb λx hx hk=>I.ok.has x.1 (S.free x hx hk)
theorem As(hc:X.calm=true)(hi:PI X tg iter wi)(S:j0 X.N X.env.scope N own caps scope)
  (hg:∀cs C s₀ H₀ ex,PG (ni X N scope cs C s₀ H₀ ex) tg g) (ht:∀cs C s₀ H₀ ex,vc (ni X N scope cs C s₀ H₀ ex) jg tt) (he:∀cs C s₀ H₀ ex,PE (ni X N scope cs C s₀ H₀ ex) jL te)
  (hs:∀x,foldedSetIterable iter X.env x=pure x:=by intro _;rfl):PE X (.ListComp jL [⟨tg,iter,jg,0⟩] scope pos) (ve wi own caps g tt te):=by
 intro bc s σ H Q I h;rw[eval_ListComp];refine wpAny_comprehension_free (use:=none) rfl hs (LR S I) S.kind (λx hx hl=>xt S.Am (by rw[<- hl];exact hx)) ?_;refine bj (hi bc s σ H _ I h) λv s1 h1=>bj h1 λzT s2 h2=>?_;obtain⟨it,fp,tn,J,H2,e,I2,T,qB,f2,W,⟨m0,w0⟩,nP⟩:=h2;subst e;refine Lx hc S hg ht he I2 T qB f2 w0 nP λD C s' H' ys I' F' hn q=>?_;obtain⟨m,hn⟩:=hn;refine⟨m,hn,λh' sb=>⟨.ref D,_,I'.turned (t':=s'.toks) (λb o hb e=>(sb.2 b hb).trans e) F'.1 F'.2.1 F'.2.2.2.1 F'.2.2.2.2.1 F'.2.2.2.2.2,rfl,q⟩⟩
theorem Au{i:Nat}{jY LU:Pos}(hc:X.calm=true)(hN:X.N.Nodup)(Vz:X.N[i]?=some x)(hx:X.env.scope.names.lookup x=some .local)(hi:PI X tg iter wi)(S:j0 X.N X.env.scope N own caps scope)
  (hg:∀cs C s₀ H₀ ex,PG (ni X N scope cs C s₀ H₀ ex) tg g) (ht:∀cs C s₀ H₀ ex,vc (ni X N scope cs C s₀ H₀ ex) jg tt) (he:∀cs C s₀ H₀ ex,PE (ni X N scope cs C s₀ H₀ ex) jL te)
  (VA:swapsWith (.ListComp jL [⟨tg,iter,jg,0⟩] scope pos) (some (.Name x jY)) LU.line X.env=pure true:=by rfl)
  (hs:∀x,foldedSetIterable iter X.env x=pure x:=by intro _;rfl):PS X (.Assign [.Name x jY] (.ListComp jL [⟨tg,iter,jg,0⟩] scope pos) LU) (cR (ve wi own caps g tt te) (bY i)):=by
 intro bc s σ H D I h;rw[exec_Assign_Name_used _ _ _ _ VA];refine ak (wpAny_standAt (ak ?_));show wpAny _ X.A (do let _ <- comprehension (.ListComp jL [⟨tg,iter,jg,0⟩] scope pos) scope X.env _ (newList []) false (eval iter X.env) (some (assign (.Name x jY) X.env))) _ _ s
 refine ak (ag (wpAny_comprehension_free (use:=some (assign (.Name x jY) X.env)) (Q:=λ_ s'=>SP X bc D .next s') rfl hs (LR S I) S.kind (λx hx hl=>xt S.Am (by rw[<- hl];exact hx)) ?_) (λ_ s' hq=>au (au hq)) λ_ _ e=>e);refine bj (hi bc s σ H _ I h) λv s1 h1=>bj h1 λzT s2 h2=>?_;obtain⟨it,fp,tn,J,H2,e,I2,T,qB,f2,W,⟨m0,w0⟩,nP⟩:=h2;subst e;refine Lx hc S hg ht he I2 T qB f2 w0 nP λD' C s' H' ys I' F' hn q=>?_;obtain⟨m,hn⟩:=hn;refine wpAny_assign_Name (Kj (v:=.ref D') I' hN Vz (.inl hx) rfl (λjI VB VC=>?_) (.inr hx));obtain⟨a,sb,ha⟩:=VC;have VD:C≠a:=by
  rcases ha with ha|ha
  ·rw[ha];exact F'.2.1
  ·exact(F'.2.2.2.2.1 x a ha).symm
 exact⟨m,hn.sameBut sb VD,λh' VE=>⟨_,_,VB.turned (t':=jI.toks) (λb o hb e=>(VE.2 b hb).trans e) F'.1 F'.2.1 F'.2.2.2.1 F'.2.2.2.2.1 F'.2.2.2.2.2,q⟩⟩
end
section
variable(it a:Addr)(i:Nat)(its:Array Value)(o:Obj)(n:Nat)(ed:o.data=.seq its n)
include ed
end
section
variable{prog:Program}{w:World}{A:Around}{E:QV}{s:Shared}{b:Bool}{it a:Addr}{i:Nat}{its:Array Value}
end
section
variable{prog:Program}{w:World}{A:Around}{E:QV}{z TI TO i1 i2:Addr}{VF VG:List Addr}{n1 n2 k:Nat}{P1 P2:Nat->Value->Prop}{S1 S2:Nat->Heap->Prop}{a b:Value}
end
section
variable{prog:Program}{w:World}{A:Around}{E:QV}{z TI TO i1 i2:Addr}{VF VG:List Addr}{n1 n2 k:Nat}{P1 P2:Nat->Value->Prop}{S1 S2:Nat->Heap->Prop}{a b:Value}
end
def Sq(b:Bool)(K:Frag)(H:Hp)(a:Addr)(xs:List V):Prop:=match b with
 |true=>dC K H a xs
 |false=>cg K H a xs
section
variable{X:Cx}{bc:List (Addr×Obj)}{σ:St}{H:Hp}{s:Shared}{h':Heap}
theorem Inv.xx{o:HO}(I:Inv X bc σ H s)(f:je X bc H p)(new:eQ X.prog X.w (upd H p o) s.heap p o):Inv X bc σ (upd H p o) s:=by
 have hp:=f.1;refine I.step (g':=s.gens) (d':=s.drawn) (t':=s.toks) (h':=s.heap) (ch:=[p]) (λb hb=>?_) (λb o _ _ _ e _=>e) (λb o _ _ _ e _=>⟨o.slots,e⟩) (λb o hc e n=>?_)
  (λb o _ e=>⟨o,e⟩) (λb xs e=>by rw[cH (gI e hp)];exact e) (λb o u e=>by rw[cH (gI e hp)];exact e) (λb ps e=>⟨#[],by rw[cH (gI e hp),e];simp⟩) (λm hm=>hm) (λb u e=>?_) I.bare
 ·have e:=dP.mp hb;subst e;exact⟨f.2.2.2.1,f.2.1,f.2.2.2.2.1,f.2.2.2.2.2⟩
 ·rw[cH (λz=>hc (by rw[z];exact dP.mpr rfl))];exact n
 ·by_cases hb:b=p
  ·subst hb;rw[bz]at e;cases e;exact new
  ·rw[cH hb]at e;exact(I.bZ b u e).mY (λc v _ q=>q) (λc q=>by rw[cH (gI q hp)];exact q) λc xs q=>by rw[cH (gI q hp)];exact q
end
section
variable{prog:Program}{w:World}{A:Around}{E:QV}{s:Shared}
theorem LV{T id:String}{v:Value}{Q:Option Value->Shared->Prop}(ty:s.TypeIs v T)(sl:Slot T (Str.ofString "__next__") id)
  (h:wpAny (model prog w) A (call (.builtin id) [v]) (λx s'=>Q (some x) s') (λe s'=>∃c o,e=.ref c/\s'.heap.get? c=some o/\o.cls=.type "StopIteration"/\Q none s') s):wpAny (model prog w) A (pyNext v) Q E s:=by
 unfold pyNext;refine ak (aH (aC ty sl (ag h (λx s' y=>au y) λe s' y=>?_)));obtain⟨c,o,rfl,e1,e2,y⟩:=y;exact ak (wpAny_isInstance (b:=true) ⟨o,e1,e2⟩ isSubtype_stop (au y))
end
section
variable{prog:Program}{w:World}{A:Around}{E:QV}{s:Shared}
end
theorem Av{P:Program}{w:World}{h:Heap}{x y:V}{u v:Value}(hp:IsPair h p u v)(rx:RelV x u)(ry:RelV y v):eQ P w H h p (.tup [x,y]):=
 ⟨by show 2<=sizeLine;decide,[u,v],.cons rx (.cons ry .nil),_,hp,rfl,rfl,_,rfl⟩
section
variable{X:Cx}
end
theorem bh.sq{K:Frag}{b:Bool}(e:bh H H')(h:Sq b K H a xs):Sq b K H' a xs:=by
 cases b with
 |true=>exact e.seq h
 |false=>
  rcases h with h|h
  ·refine .inl ?_;rcases h with h|⟨o,h⟩
   ·exact .inl (e _ _ h)
   ·exact .inr ⟨o,e _ _ h⟩
  ·exact .inr h
theorem bh.cV{K:Frag}(e:bh H H')(h:cg K H a xs):cg K H' a xs:=e.sq (b:=false) h
theorem bh.upd{H:Hp}{p:Addr}{o:HO}(h:H p=none):bh H (upd H p o):=λb u e=>by rw[cH (gI e h)];exact e
def jw(K:Frag)(H:Hp)(xs:List V)(Q:VK):Prop:=∀p H',bh H H'->cg K H' p xs->Q (.ref p) H'
theorem jw.old{K:Frag}(h:jw K H xs Q)(q:cg K H p xs):Q (.ref p) H:=h p H (.refl H) q
theorem jw.new{K:Frag}(h:jw K H xs Q)(n:H p=none):Q (.ref p) (upd H p (.tup xs)):=h p _ (.upd n) (.of bz)
section
variable{X:Cx}
theorem Aw{T:String}:eW X (.builtin "isinstance") (λxs H Q=>∃x t b,xs=[x,.ty T]/\ma X.K H x t/\kitOne X.K t (.type T)=some b/\Q (.bl b) H):=by
 intro bc s σ H vs us Q I r h;obtain⟨x,t,b,rfl,ty,e,q⟩:=h;obtain⟨u,v,rfl,ru,rv⟩:=vals2 r;cases rv;exact Um I ru ty e λtk=>⟨.bl b,H,I.tok tk,rfl,q⟩
end
mutual
inductive jM(K:Frag)(H:Hp):V->Dat->Prop
 |none:jM K H .cC .none
 |bool (b:Bool):jM K H (.bl b) (.bool b)
 |int (i:Int):jM K H (.int i) (.int i)
 |str (x:Str):jM K H (.str x) (.str x)
 |tuple {a:Addr} {xs:List V} {ds:List Dat}:cg K H a xs->iq K H xs ds->jM K H (.ref a) (.tuple ds)
 |list {a:Addr} {xs:List V} {ds:List Dat}:dC K H a xs->iq K H xs ds->jM K H (.ref a) (.list ds)
inductive iq(K:Frag)(H:Hp):List V->List Dat->Prop
 |nil:iq K H [] []
 |cons {v:V} {vs:List V} {d:Dat} {ds:List Dat}:jM K H v d->iq K H vs ds->iq K H (v::vs) (d::ds)
end
theorem iq.ints{K:Frag}{H:Hp}:∀(ns:List Int),iq K H (ns.map V.int) (ns.map Dat.int)
 | []=>.nil
 |n::ns=>.cons (.int n) (iq.ints ns)
mutual
theorem jM.reads{X:Cx}{bc:List (Addr×Obj)}{σ:St}{H:Hp}{s:Shared}(I:Inv X bc σ H s):∀{v:V}{d:Dat}{u:Value},jM X.K H v d->RelV v u->∃as,Reads s.heap u (PySem.W.kqdP d) as
 |_,_,u,.none,r=>by cases(show u=Value.none from r);exact⟨_,.none⟩
 |_,_,u,.bool b,r=>by cases(show u=Value.bool b from r);exact⟨_,.bool b⟩
 |_,_,u,.int i,r=>by obtain⟨t,rfl⟩:=r;exact⟨_,.int i t⟩
 |_,_,u,.str x,r=>by obtain⟨t,rfl⟩:=r;exact⟨_,.str x t⟩
 |_,_,u,.tuple (a:=a) h q,r=>by
  cases(show u=Value.ref a from r)
  obtain⟨its,rv,⟨o,ho,hc,n,hd⟩,_⟩:=I.tuple h;obtain⟨as,z⟩:=iq.reads I q rv;rw[PySem.W.kqdP];exact⟨as,.tuple ho hc hd (by simpa using z)⟩
 |_,_,u,.list (a:=a) h q,r=>by
  cases(show u=Value.ref a from r)
  obtain⟨its,rv,p,_⟩:=I.list h;obtain⟨o,ho,hc,n,hd⟩:=p.isList;obtain⟨as,z⟩:=iq.reads I q rv;rw[PySem.W.kqdP];exact⟨_,.list ho hc hd (by simpa using z)⟩
theorem iq.reads{X:Cx}{bc:List (Addr×Obj)}{σ:St}{H:Hp}{s:Shared}(I:Inv X bc σ H s):∀{vs:List V}{ds:List Dat}{us:List Value},iq X.K H vs ds->Vals vs us->∃as,ReadsAll s.heap us (PySem.W.kqdPs ds) as
 |_,_,_,.nil,.nil=>⟨_,.nil⟩
 |_,_,_,.cons h q,.cons r rr=>by
  obtain⟨as,z⟩:=jM.reads I h r;obtain⟨bs,y⟩:=iq.reads I q rr;rw[PySem.W.kqdPs];exact⟨_,.cons z y⟩
end
section
variable{X:Cx}
open Classical in
def o8(K:Frag)(neg:Bool):R2:=λx y H Q=>∃d e,jM K H x d/\jM K H y e/\kqdOk 8 d=true/\kqdOk 8 e=true/\Q (.bl (if neg then !decide (d=e)else decide (d=e))) H
open Classical in
theorem LW{d e:Dat}(hd:kqdOk 8 d=true)(he:kqdOk 8 e=true):PyData.eqv (PySem.W.kqdP d) (PySem.W.kqdP e)=decide (d=e):=by
 exact Bool.eq_iff_iff.mpr ((PySem.W.kqd_eqv 8 d e 8 hd he).trans decide_eq_true_iff.symm)
theorem Ax{d:Dat}(hd:kqdOk 8 d=true):SeqAt.shaped (PySem.W.kqdP d)=true:=by
 have l:=PySem.W.kqd_lay 8 d hd;unfold SeqAt.shaped;rw[l.1,Bool.true_and];exact aG (dj l.2 (by decide))
theorem LX(hu:X.A.units+64<cLine):eU X (compareOp .Eq) (o8 X.K false):=by
 intro bc s σ H x y v u Q I rx ry h;obtain⟨d,e,hx,hy,hd,he,q⟩:=h;obtain⟨as,ra⟩:=hx.reads I rx;obtain⟨bs,rb⟩:=hy.reads I ry;refine eq_dataH ra rb (Ax hd) (Ax he) hu ?_;rw[LW hd he];exact⟨.bl _,H,I,rfl,q⟩
theorem VH(hu:X.A.units+64<cLine):eU X (compareOp .NotEq) (o8 X.K true):=by
 intro bc s σ H x y v u Q I rx ry h;obtain⟨d,e,hx,hy,hd,he,q⟩:=h;obtain⟨as,ra⟩:=hx.reads I rx;obtain⟨bs,rb⟩:=hy.reads I ry;refine ne_dataH ra rb (Ax hd) (Ax he) hu ?_;rw[LW hd he];exact⟨.bl _,H,I,rfl,q⟩
end
noncomputable def o9(ns:List Int):Dat:=.tuple (ns.map .int)
theorem LY(n:Nat)(ns:List Int):kqdOk (n+1) (o9 ns)=true:=by
 unfold o9 kqdOk;rw[List.all_map];exact fh.mpr λ_ _=>by cases n<;>rfl
noncomputable def LZ(oN:List Str)(qI:Scope)(N:List Str)(own:Nat)(caps:List Nat)(scope:Scope):Bool:=
 decide (scope.kind=.function)&&decide N.Nodup&&decide (scope.names.map (·.1)).Nodup &&
 scope.names.all (λx=>x.2 != .free||(decide (qI.names.lookup x.1=some .cell)||decide (qI.names.lookup x.1=some .free))) &&
 decide (N.length=own+caps.length)&&decide (caps.map (λi=>oN[i]?)=(N.drop own).map some)&&(N.drop own).all (λx=>decide (scope.names.lookup x=some .free))
theorem j0.mk'{oN:List Str}{qI:Scope}{N:List Str}{own:Nat}{caps:List Nat}{scope:Scope}(h:LZ oN qI N own caps scope=true):j0 oN qI N own caps scope:=by
 unfold LZ at h;simp only[dq,aI,fh,Bool.or_eq_true,bne_iff_ne,ne_eq]at h;obtain⟨⟨⟨⟨⟨⟨h1,h2⟩,h3⟩,h4⟩,h5⟩,h6⟩,h7⟩:=h;exact⟨h1,h2,h3,λx hx hk=>(h4 x hx).elim (λz=>absurd hk z) id,h5,h6,h7⟩
def mi(n:Nat)(cp:St)(H1:Hp)(P:Hp->List V->Prop):St->Hp->List V->Prop:=λσ H zs=>(∃o:St,o.length=n/\σ=o++cp)/\bh H1 H/\P H zs
section
variable{K:Frag}{H1:Hp}{cp:St}{g:TG}{tt:TT}{te:TE}{Q:VK}{xs ys:List V}{l1 l2 a:Addr}{b1 b2 b:Bool}{n own:Nat}{J:It}
theorem Ay(Pv:Nat->Hp->List V->Prop)(hn:n<=sizeLine)(h0:Pv 0 H1 [])(cT:∀i H zs,Pv i H zs->zs.length<=i)
  (VI:∀i H,bh H1 H->i<n->J.go i H) (VJ:∀H,bh H1 H->J.stop n H)
  (step:∀i o H zs,i<n->o.length=own->bh H1 H->Pv i H zs->∀x H2,J.pS i H x H2->g x (o++cp) H2 λσ3 H3=>tt σ3 H3 λc H4=>if c=true then te σ3 H4 λv H5=>mi own cp H1 (Pv (i+1)) σ3 H5 (zs++[v])else mi own cp H1 (Pv (i+1)) σ3 H4 zs)
  (done:∀H zs,bh H1 H->Pv n H zs->∀p,H p=none->Q (.ref p) (upd H p (.lst zs))) :
  ∃W:Nat->Nat->St->Hp->List V->Prop,(∃m,W 0 m (List.replicate own none++cp) H1 [])/\qK J g tt te Q W:=by
 refine⟨λi m σ H zs=>m=n-i/\i<=n/\mi own cp H1 (Pv i) σ H zs,⟨n,by simp,gH _,⟨_,by simp,rfl⟩,.refl _,h0⟩,?_⟩;rintro i m σ H zs ⟨rfl,hi,⟨o,ho,rfl⟩,sm,pv⟩;have hl:=cT _ _ _ pv;by_cases cY:i<n
 ·exact .inr ⟨VI i H sm cY,by lia,mi own cp H1 (Pv (i+1)),λσ2 H2 jN q=>⟨n-(i+1),by lia,rfl,cY,q⟩,step i o H zs cY ho sm pv⟩
 ·have e:i=n:=by lia
  subst e;exact .inl ⟨VJ H sm,by lia,done H zs sm pv⟩
theorem xy{o:St}(h:o.length=1):∃x,o=[x]:=by
 match o,h with
 | [x],_=>exact⟨x,rfl⟩
theorem Ex(Pv:Nat->Hp->List V->Prop)(hq:dC K H1 a xs)(hz:xs.length<=sizeLine)(h0:Pv 0 H1 [])(cT:∀i H zs,Pv i H zs->zs.length<=i)
  (step:∀i x H zs,xs[i]?=some x->bh H1 H->Pv i H zs->tt (some x::cp) H λc H4=>if c=true then te (some x::cp) H4 λv H5=>mi 1 cp H1 (Pv (i+1)) (some x::cp) H5 (zs++[v])else mi 1 cp H1 (Pv (i+1)) (some x::cp) H4 zs)
  (done:∀H zs,bh H1 H->Pv xs.length H zs->∀p,H p=none->Q (.ref p) (upd H p (.lst zs))) :
  ∃W:Nat->Nat->St->Hp->List V->Prop,(∃m,W 0 m (List.replicate 1 none++cp) H1 [])/\qK (uL K a) (bY 0) tt te Q W:=by
 refine Ay (n:=xs.length) Pv hz h0 cT (λi H sm hi=>⟨xs,xs[i],sm.seq hq,by simp[hi]⟩) (λH sm=>⟨xs,sm.seq hq,cF _⟩) (λi o H zs hi ho sm pv x H2 y=>?_) done;obtain⟨w,rfl⟩:=xy ho;obtain⟨rfl,y⟩:=y;exact step i x _ zs (y xs (sm.seq hq)) sm pv
theorem VL{lo:Int}(Pv:Nat->Hp->List V->Prop)(hz:n<=sizeLine)(h0:Pv 0 H1 [])(cT:∀i H zs,Pv i H zs->zs.length<=i)
  (step:∀i H zs,i<n->bh H1 H->Pv i H zs->tt (some (.int (lo+(i:Nat)))::cp) H λc H4=>if c=true then te (some (.int (lo+(i:Nat)))::cp) H4 λv H5=>mi 1 cp H1 (Pv (i+1)) (some (.int (lo+(i:Nat)))::cp) H5 (zs++[v])else mi 1 cp H1 (Pv (i+1)) (some (.int (lo+(i:Nat)))::cp) H4 zs)
  (done:∀H zs,bh H1 H->Pv n H zs->∀p,H p=none->Q (.ref p) (upd H p (.lst zs))) :
  ∃W:Nat->Nat->St->Hp->List V->Prop,(∃m,W 0 m (List.replicate 1 none++cp) H1 [])/\qK (qz lo n) (bY 0) tt te Q W:=by
 refine Ay (n:=n) Pv hz h0 cT (λi H sm hi=>hi) (λH sm=>cF _) (λi o H zs hi ho sm pv x H2 y=>?_) done;obtain⟨w,rfl⟩:=xy ho;obtain⟨rfl,rfl⟩:=y;exact step i _ zs hi sm pv
abbrev L0(K:Frag)(i j:Nat):TG:=wU K 2 (iR (bY i) (iR (bY j) qy))
theorem VM{p:Addr}{x y:V}{i j:Nat}{σ:St}{H:Hp}{R:St->Hp->Prop}(h:cg K H p [x,y])(q:R ((σ.set i (some x)).set j (some y)) H):L0 K i j (.ref p) σ H R:=
 ⟨p,[x,y],rfl,h,rfl,x,[y],rfl,y,[],rfl,rfl,q⟩
end
section
variable{K:Frag}{a l1 l2:Addr}{xs ys:List V}{b b1 b2:Bool}{tb:TS}{D:Ends}{σ:St}{H:Hp}{i j:Nat}
end
theorem Ey(K:Frag):kitOne K (.type "int") (.type "int")=some true:=by kernel_rfl
theorem VN(K:Frag):kitOne K (.type "int") (.type "tuple")=some false:=by kernel_rfl
theorem L1(K:Frag):kitOne K (.type "tuple") (.type "tuple")=some true:=by kernel_rfl
theorem Ez(K:Frag):kitOne K (.type "str") (.type "int")=some false:=by kernel_rfl
section
variable{X:Cx}
theorem VO{T:String}:eW X (.builtin "isinstance") (λxs H Q=>∃a ys b,xs=[.ref a,.ty T]/\cg X.K H a ys/\kitOne X.K (.type "tuple") (.type T)=some b/\Q (.bl b) H):=by
 intro bc s σ H vs us Q I r h;obtain⟨a,ys,b,rfl,hq,e,q⟩:=h;obtain⟨u,v,rfl,ru,rv⟩:=vals2 r;cases ru;cases rv;obtain⟨its,rr,⟨o,h1,h2,_⟩,_⟩:=I.tuple hq;exact nJ PySem.W.kitx_tuple I.eK ⟨o,h1,h2⟩ e (λz=>nomatch z) λtk=>⟨.bl b,H,I.tok tk,rfl,q⟩
theorem VP{T:String}:eW X (.builtin "isinstance") (λxs H Q=>∃i b,xs=[.int i,.ty T]/\kitOne X.K (.type "int") (.type T)=some b/\Q (.bl b) H):=by
 intro bc s σ H vs us Q I r h;obtain⟨i,b,rfl,e,q⟩:=h;exact Aw bc s σ H _ us Q I r ⟨.int i,_,b,rfl,.int i,e,q⟩
end
theorem VQ(n:String):RelV (.ty n) (.type n):=rfl
theorem sy{X:Cx}{x:Str}{T:String}{pos:Pos}(hg:Gl X x)(hm:X.mg x=none)(hv:bootBuiltins x=some (.type T))(hn:x ≠ "__name__":=by decide)(hd:(x==("__debug__":Str))=false:=by decide):PE X (.Name x pos) (tC (.ty T)):=Tx hg hm hv (VQ T) hn hd
noncomputable def xA:List Expr->Option (List Int)
 | []=>some []
 | .Constant (.int i) _ _::es=>(xA es).map (i::·)
 |_=>none
theorem L4{X:Cx}:∀(es:List Expr)(ns:List Int),xA es=some ns->PA X es (λ_ H Q=>Q (ns.map V.int) H)
 | [],ns,h=>by
  cases h;exact bq
 | .Constant (.int i) j pos::es,ns,h=>by
  unfold xA at h;cases e:xA es with
  |none=>rw[e]at h;cases h
  |some ms=>
   rw[e]at h;have h':i::ms=ns:=eF h;subst h';exact bg bp (L4 es ms e) rfl
 | .Constant .none _ _::_,_,h=>by cases h
 | .Constant (.bool _) _ _::_,_,h=>by cases h
 | .Constant (.str _) _ _::_,_,h=>by cases h
 | .Constant (.bytes _) _ _::_,_,h=>by cases h
 | .Constant .ellipsis _ _::_,_,h=>by cases h
 | .Name ..::_,_,h=>by cases h
theorem L5{K:Frag}{H:Hp}{a:Addr}{r:List Int}(h:cg K H a (r.map V.int)):jM K H (.ref a) (o9 r):=.tuple h (iq.ints r)
theorem bh.write{H H':Hp}{l:Addr}{o:HO}(sm:bh H H')(h:H l=none):bh H (L2.upd H' l o):=λb u e=>by rw[cH (gI e h)];exact sm b u e
open Classical in
theorem Az{d e:Dat}{A B:Prop}(h:d=e)(b:B):if(if true=true then !decide (d=e)else decide (d=e))=true then A else B:=by
 subst h;simp only[decide_true,Bool.not_true,if_true,zD,if_false];exact b
section
variable{X:Cx}(K:Frag)(hK:X.K=K)
include hK
theorem de:uW X (gJ K):=hK▸UB
theorem cJ:uW X (xg K):=hK▸UC
theorem qL:su X (Lf K):=hK▸UL
theorem ko:eW X (.builtin "len") (λxs H Q=>∃p ys,xs=[.ref p]/\(dC K H p ys\/cg K H p ys)/\Q (.int ys.length) H):=hK▸UO
theorem AA:eW X (.type "tuple") (λxs H Q=>∃p ys,xs=[.ref p]/\((dC K H p ys/\∀l,H l=none->Q (.ref l) (upd H l (.tup ys)))\/(cg K H p ys/\Q (.ref p) H))):=hK▸UQ
theorem L6{T:String}:eW X (.builtin "isinstance") (λxs H Q=>∃a ys b,xs=[.ref a,.ty T]/\cg K H a ys/\kitOne K (.type "tuple") (.type T)=some b/\Q (.bl b) H):=hK▸VO
theorem L7{T:String}:eW X (.builtin "isinstance") (λxs H Q=>∃i b,xs=[.int i,.ty T]/\kitOne K (.type "int") (.type T)=some b/\Q (.bl b) H):=hK▸VP
theorem L8(hu:X.A.units+64<cLine):eU X (compareOp .Eq) (o8 K false):=hK▸LX hu
theorem xB(hu:X.A.units+64<cLine):eU X (compareOp .NotEq) (o8 K true):=hK▸VH hu
theorem xC:eU X (compareOp .In) (xi K false):=hK▸UN
theorem qM{tg l:Expr}{tl:TE}(hl:PE X l tl):PI X tg l (wX K tl):=hK▸T5 hl
theorem Ma{tg l:Expr}{tl:TE}(hl:PE X l tl):PI X tg l (KC K tl):=hK▸T6 hl
theorem Mb{es:List Expr}{k:Nat}{t:oV}{n:Nat}{pos:Pos}(hc:X.calm=true)(h:uI X es t)
  (hn:(assignEach es X.env).length=n:=by rfl) (wV:(assignEach es X.env).findIdx? (·.1)=none:=by rfl):PG X (.Tuple es k pos) (wU K n t):=hK▸TN hc h hn wV
end
theorem vg:bootBuiltins "tuple"=some (.type "tuple"):=by decide +kernel
theorem EA:bootBuiltins "list"=some (.type "list"):=by decide +kernel
theorem sH:bootBuiltins "int"=some (.type "int"):=by decide +kernel
theorem VR:bootBuiltins "str"=some (.type "str"):=by decide +kernel
theorem pW:bootBuiltins "isinstance"=some (.builtin "isinstance"):=by decide +kernel
theorem j3:bootBuiltins "len"=some (.builtin "len"):=by decide +kernel
theorem EB{σ:St}{H:Hp}{Y N:Hp->Prop}(h:Y H):vd σ H (λc H4=>if c=true then Y H4 else N H4):=by
 show if true=true then Y H else N H
 exact eE h
end L2
namespace L2
open PySem
structure Mc(X:Cx)(es:List Expr)(ns:List Int):Prop where
 get:PA X es (λ_ H Q=>Q (ns.map V.int) H)
theorem VT{X:Cx}{es:List Expr}{ns:List Int}(h:xA es=some ns):Mc X es ns:=⟨L4 es ns h⟩
def Md(ns:List Int):TE:=cP (λ_ H Q=>Q (ns.map V.int) H)
theorem VU{X:Cx}{es:List Expr}{ns:List Int}{pos:Pos}(h:Mc X es ns):PE X (.List es pos) (Md ns):=cK h.get
end L2
namespace L2
open PySem PySem.Spec PyProof.Rows
section
variable{X:Cx}{pos:Pos}
def xD(K:Frag)(n:Nat)(t:oV):TG:=λv σ H Q=>∃a xs,v=.ref a/\dC K H a xs/\xs.length=n/\t xs σ H Q
theorem EC{es:List Expr}{k n:Nat}{t:oV}(hc:X.calm=true)(h:uI X es t)(hn:(assignEach es X.env).length=n:=by rfl)(wV:(assignEach es X.env).findIdx? (·.1)=none:=by rfl):PG X (.Tuple es k pos) (xD X.K n t):=by
 rintro bc s σ H v u Q I r ⟨a,xs,rfl,hq,hl,hw⟩;cases r;obtain⟨its,rv,pl,_⟩:=I.list hq;have sz:its.toArray.size=n:=by rw[dR,<- rv.length,hl]
 rw[assign_Tuple];refine ak (wpAny_standAt ?_);unfold unpack;rw[wV,hn,<- sz];refine ak (ao (PySem.W.kun_itemsOf (I.ok.hd hc) pl.isList λh' ex=>?_));exact h bc _ σ H xs _ Q (I.kept (t':=s.toks) λb o e=>ex b o (fK (dH e)) e) (by simpa using rv) hw
end
theorem Me(l b:Addr)(its ju:Array Value)(n n2:Nat)(dd Ac:Option Addr)(sl uP:Array (Option Value))(he:its.isEmpty=true) :
  Meets (Builtin.«tuple.__add__» ⟨[.ref l,.ref b],[]⟩) (λ_ R s=>s.heap.get? l=some { cls:=.type "tuple",dict:=dd,data:=.seq its n,slots:=sl }/\s.heap.get? b=some { cls:=.type "tuple",dict:=Ac,data:=.seq ju n2,slots:=uP }/\R (.ok (.ret (.ref b))) s):=
 .of_wp λ_ _ _ _ s h=>by
  obtain⟨hpA,gA,dA,tkA,osA⟩:=s;have xE:=h.1;have VW:=h.2.1;have f2:=AutoSeq1.sub_tuple_tuple;wp_walk using uj xE,uj VW
  exact⟨_,rfl,h.2.2⟩
def xF(K:Frag):R2:=λx y H Q=>∃a b xs ys,x=.ref a/\y=.ref b/\cg K H a xs/\cg K H b ys/\xs.length+ys.length<=sizeLine/\jw K H (xs++ys) Q
theorem VX{X:Cx}:eU X (binaryOp .Add) (xF X.K):=by
 rintro bc s σ H x y v u Q I rx ry ⟨a,b,xs,ys,rfl,rfl,ha,hb,hz,q⟩;by_cases hx:xs=[]
 ·subst hx;cases rx;cases ry;obtain⟨its,r1,⟨⟨c1,d1,t1,s1⟩,o1,e1,n1,f1⟩,_⟩:=I.tuple ha;obtain⟨ju,r2,⟨⟨c2,d2,t2,s2⟩,o2,e2,n2,f2⟩,_⟩:=I.tuple hb;simp only at e1 f1 e2 f2;subst e1 f1 e2 f2;cases r1;refine concat_meets ⟨_,o1,rfl⟩ ⟨_,o2,rfl⟩ noFill_tuple_add seq_tuple_add PySem.F.slot_tuple_add PySem.F.entry_tuple_add (PySem.F.args_tuple_add_2 _ _) (Me a b _ _ _ _ d1 d2 s1 s2 rfl) ⟨o1,o2,?_⟩;exact⟨.ref b,H,I,rfl,q.old hb⟩
 ·refine Uz bc s σ H _ _ v u Q I rx ry ⟨a,b,xs,ys,rfl,rfl,ha,hb,hx,hz,λhy=>?_,λ_ p hp=>q.new hp⟩;subst hy;exact q.old (by rw[gU];exact ha)
theorem AD{X:Cx}(K:Frag)(hK:X.K=K):eU X (binaryOp .Add) (xF K):=hK▸VX
section
variable{X:Cx}
end
end L2
namespace Bw
noncomputable def eZ:List Int:=[2,3,5,7,11,13,17,19,23,29,31,37,41,43,47,53,59,61,67,71,73,79,83,89,97]
noncomputable def sJ(p n:Int):Nat->Int
 |0=>1
 |k+1=>sJ p n k*n%p
noncomputable def jO(p n:Int):Int:=sJ p n (p-2).toNat
noncomputable def Mf(p n:Int):Bool:=decide (1<=jO p n)&&decide (jO p n<p)&&decide (jO p n*n%p=1)
theorem VY:(eZ.all λp=>(List.range p.toNat).all λn=>n==0||Mf p n)=true:=by decide +kernel
theorem pX:∀p∈eZ,2<=p/\p<=97:=by decide +kernel
theorem Mh{p n:Int}(hp:p∈eZ)(h1:1<=n)(h2:n<p):1<=jO p n/\jO p n<p/\jO p n*n%p=1:=by
 have h:=fh.mp VY p hp;have h':=fh.mp h n.toNat (qq.mpr (by lia));have en:((n.toNat:Nat):Int)=n:=by lia
 have n0:(n.toNat==0)=false:=by simp;lia
 rw[n0,Bool.false_or,en]at h';unfold Mf at h';simp only[aI,dq]at h';exact⟨h'.1.1,h'.1.2,h'.2⟩
theorem VZ{p n:Int}(hp:2<=p):∀k,0<=sJ p n k/\sJ p n k<p
 |0=>by unfold sJ;lia
 |k+1=>by
  unfold sJ;exact⟨nN _ (by lia),nO _ (by lia)⟩
abbrev Fn:=Nat->Int
def V0(p:Int)(u v:Fn):Prop:=∀j,p∣u j-v j
inductive Sp(p:Int)(R:Fn->Prop):Fn->Prop
 |zero:Sp p R (λ_=>0)
 |add {v r:Fn} (c:Int):Sp p R v->R r->Sp p R (λj=>v j+c*r j)
 |aeh {u v:Fn}:Sp p R v->V0 p v u->Sp p R u
section
variable{p:Int}{R R':Fn->Prop}
end
noncomputable def fn(r:List Int):Fn:=λj=>r.getD j 0
section
variable{p:Int}{n aei:Nat}{aej row:List Int}
end
noncomputable def vh(f:Fn)(c:Nat):Fn:=λi=>if i=c then -1 else f i
noncomputable def col(rs:LL)(j:Nat):Fn:=fn (rs.map λq=>q.getD j 0)
noncomputable def V1(rs:LL)(fs:List Int)(j:Nat):Int:=(List.zipWith (λr f=>r.getD j 0*f) rs fs).sum
noncomputable def j4(p:Int)(rs:LL)(fs:List Int)(n:Nat):List Int:=(List.range n).map λj=>V1 rs fs j%p
def i4(p:Int):List (Fn×Nat)->Prop
 | []=>True
 |q::F=>¬p∣q.1 q.2/\(∀x∈F,p∣x.1 q.2)/\i4 p F
section
variable{p:Int}{n:Nat}{D:LL}{ls:List Nat}
end
end Bw
namespace L2
open PySem Bw
section
variable{N:Addr->Prop}{H H':Hp}{LS:List V}{L:LL}{l a:Addr}{o:HO}{r:List Int}
end
end L2
namespace L2
open PySem PySem.Spec PyProof.Rows
end L2
namespace L2
open PySem Bw
end L2
namespace L2
open PySem PySem.Spec PyProof.Rows
variable{H H':Hp}{Q:QV}{X:Cx}{a b:Addr}{bf:List (List Key×V)}{s:Shared}{u:Value}{xs:List (List Key×Addr×Value)}{y:V}
section
variable{κ:Type} [DecidableEq κ]
noncomputable def c7(bf:List (κ×V))(k:κ):Option V:=(bf.find? λkv=>decide (kv.1=k)).map (·.2)
noncomputable def fq(bf:List (κ×V))(k:κ)(v:V):List (κ×V):=
 if(bf.any λkv=>decide (kv.1=k))=true then bf.map (λkv=>if kv.1=k then(kv.1,v)else kv)else bf++[(k,v)]
theorem lD{p:κ×V}{r:List (κ×V)}{k:κ}(e:p.1=k):c7 (p::r) k=some p.2:=by simp[c7,List.find?_cons,e]
theorem lE{p:κ×V}{r:List (κ×V)}{k:κ}(e:¬p.1=k):c7 (p::r) k=c7 r k:=by simp[c7,List.find?_cons,e]
theorem xG(k:κ):∀bf:List (κ×V),(bf.any λkv=>decide (kv.1=k))=(c7 bf k).isSome
 | []=>rfl
 |p::r=>by
  rw[List.any_cons];by_cases e:p.1=k
  ·simp only[lD e,aG e,Bool.true_or,Option.isSome_some]
  ·rw[lE e,aa e,Bool.false_or];exact xG k r
theorem Mi(k j:κ)(y:V):∀bf:List (κ×V),c7 (bf.map λkv=>if kv.1=k then(kv.1,y)else kv) j=(c7 bf j).map λx=>if j=k then y else x
 | []=>rfl
 |p::r=>by
  have ih:=Mi k j y r;rw[ee];by_cases h:p.1=k
  ·rw[ae h];by_cases e:p.1=j
   ·rw[lD (p:=(p.1,y)) e,lD e,Option.map_some,ae (e.symm.trans h)]
   ·rw[lE (p:=(p.1,y)) e,lE e,ih]
  ·rw[af h];by_cases e:p.1=j
   ·rw[lD (p:=p) e,lD e,Option.map_some,af (λz=>h (e.trans z))]
   ·rw[lE (p:=p) e,lE e,ih]
theorem Mj(k j:κ)(y:V):∀bf:List (κ×V),c7 bf k=none->c7 (bf++[(k,y)]) j=if j=k then some y else c7 bf j
 | [],_=>by
  by_cases e:k=j
  ·rw[ae e.symm];exact lD (p:=(k,y)) e
  ·rw[af (λz=>e z.symm)];exact lE (p:=(k,y)) e
 |p::r,hn=>by
  rw[ui];have hk:¬p.1=k:=λz=>by rw[lD z]at hn;cases hn
  rw[lE hk]at hn;have ih:=Mj k j y r hn;by_cases e:p.1=j
  ·rw[lD e,lD e,af (λz=>hk (e.trans z))]
  ·rw[lE e,lE e,ih]
theorem Mk(bf:List (κ×V))(k j:κ)(y:V):c7 (fq bf k y) j=if j=k then some y else c7 bf j:=by
 unfold fq;by_cases a:(bf.any λkv=>decide (kv.1=k))=true
 ·rw[ae a,Mi];rw[xG]at a;by_cases e:j=k
  ·obtain⟨x,hx⟩:=wG.mp a;rw[ae e,e,hx,Option.map_some,ae rfl]
  ·rw[af e];cases c7 bf j with
   |none=>rfl
   |some x=>rw[Option.map_some,af e]
 ·rw[af a];refine Mj k j y bf ?_;rw[xG]at a;cases q:c7 bf k with
  |none=>rfl
  |some x=>rw[q]at a;exact(a rfl).elim
theorem AE(bf:List (κ×V))(k:κ)(v:V):(fq bf k v).length<=bf.length+1:=by
 unfold fq;split
 ·rw[cB];lia
 ·rw[cL,fj,List.length_nil];lia
theorem AF{bf:List (κ×V)}{k:κ}(v:V)(h:c7 bf k=none):fq bf k v=bf++[(k,v)]:=by
 unfold fq;rw[xG,h];exact af (by decide)
theorem lZ.xH{o:Option V}{u:Option Value}(r:lZ o u):o.isSome=u.isSome:=by
 cases o with
 |none=>cases u with
  |none=>rfl
  |some _=>exact(show False from r).elim
 |some _=>cases u with
  |none=>exact(show False from r).elim
  |some _=>rfl
theorem lZ.getD{o:Option V}{u:Option Value}{d:V}{d':Value}(r:lZ o u)(rd:RelV d d'):RelV (o.getD d) (u.getD d'):=by
 cases o with
 |none=>cases u with
  |none=>exact rd
  |some _=>exact(show False from r).elim
 |some _=>cases u with
  |none=>exact(show False from r).elim
  |some _=>exact r
theorem KV.val{bf:List (κ×V)}{vs:List (κ×Value)}(r:KV bf vs)(k:κ):lZ (c7 bf k) (valueAt vs k):=by
 unfold KV at r;induction r with
 |nil=>exact True.intro
 | @cons p q ps qs h t ih=>
  obtain⟨h1,h2⟩:=h;by_cases e:p.1=k
  ·have e':q.1=k:=h1.symm.trans e;have b:valueAt (q::qs) k=some q.2:=by simp[valueAt,List.find?_cons,e']
   rw[lD e,b];exact h2
  ·have e':¬q.1=k:=λz=>e (h1.trans z);have b:valueAt (q::qs) k=valueAt qs k:=by simp[valueAt,List.find?_cons,e']
   rw[lE e,b];exact ih
theorem KV.any{bf:List (κ×V)}{vs:List (κ×Value)}(r:KV bf vs)(k:κ):(bf.any λkv=>decide (kv.1=k))=vs.any λkv=>decide (kv.1=k):=by
 unfold KV at r;induction r with
 |nil=>rfl
 |cons h t ih=>rw[List.any_cons,List.any_cons,ih,h.1]
theorem KV.ED{bf:List (κ×V)}{vs:List (κ×Value)}(r:KV bf vs)(k:κ)(ry:RelV y u) :
  KV (bf.map λkv=>if kv.1=k then(kv.1,y)else kv) (vs.map λkv=>if kv.1=k then(kv.1,u)else kv):=by
 unfold KV at r |-;induction r with
 |nil=>exact .nil
 | @cons p q ps qs h t ih=>
  rw[ee,ee];refine .cons ?_ ih;obtain⟨h1,h2⟩:=h;by_cases e:p.1=k
  ·rw[ae e,ae (h1.symm.trans e)];exact⟨h1,ry⟩
  ·rw[af e,af (λz=>e (h1.trans z))];exact⟨h1,h2⟩
theorem KV.put{bf:List (κ×V)}{vs:List (κ×Value)}(r:KV bf vs)(k:κ)(ry:RelV y u):KV (fq bf k y) (stored vs k u):=by
 unfold fq stored;rw[r.any k];by_cases e:(vs.any λkv=>decide (kv.1=k))=true
 ·rw[ae e,ae e];exact r.ED k ry
 ·rw[af e,af e];exact Paired.snoc r ⟨rfl,ry⟩
theorem KV.keys{bf:List (κ×V)}{vs:List (κ×Value)}(r:KV bf vs):bf.map (·.1)=vs.map (·.1):=by
 unfold KV at r;induction r with
 |nil=>rfl
 |cons h t ih=>rw[ee,ee,ih,h.1]
theorem KV.length{bf:List (κ×V)}{vs:List (κ×Value)}(r:KV bf vs):bf.length=vs.length:=Paired.length r
end
theorem pY{P:Program}{w:World}{k:Key}(r:RelV (kV k) u):(gO P w).is k u=true:=by
 cases k with
 |inl i=>obtain⟨t,e⟩:=(show ∃t,u=Value.int i t from r);subst e;exact Tj P w i t
 |inr x=>obtain⟨t,e⟩:=(show ∃t,u=Value.str x t from r);subst e;exact Tn P w x t
theorem Ml{P:Program}{w:World}:∀{ks:List Key}{us:List Value},Vals (ks.map kV) us->ItemsAre (gO P w) ks us
 | [],_,r=>by rw[List.map_nil]at r;cases r;exact .nil
 |k::ks,_,r=>by
  rw[ee]at r;cases r with
  |cons h t=>exact .cons (pY h) (Ml t)
abbrev KT(H:Hp):List (List Key×V)->List (List Key×Addr×Value)->Prop:=Paired λp q=>p.1=q.1/\H q.2.1=some (.tup (p.1.map kV))/\RelV p.2 q.2.2
theorem KT.val(r:KT H bf xs)(k:List Key):lZ (c7 bf k) ((atKey xs k).map (·.2)):=by
 induction r with
 |nil=>exact True.intro
 | @cons p q ps qs h t ih=>
  obtain⟨h1,_,h2⟩:=h;by_cases e:p.1=k
  ·have e':q.1=k:=h1.symm.trans e;have b:atKey (q::qs) k=some q.2:=by simp[atKey,List.find?_cons,e']
   rw[lD e,b];exact h2
  ·have e':¬q.1=k:=λz=>e (h1.trans z);have b:atKey (q::qs) k=atKey qs k:=by simp[atKey,List.find?_cons,e']
   rw[lE e,b];exact ih
theorem KT.ED(r:KT H bf xs)(k:List Key)(ry:RelV y u) :
  KT H (bf.map λkv=>if kv.1=k then(kv.1,y)else kv) (xs.map (putAt k u)):=by
 induction r with
 |nil=>exact .nil
 | @cons p q ps qs h t ih=>
  rw[ee,ee];refine .cons ?_ ih;obtain⟨h1,h2,h3⟩:=h;unfold putAt;by_cases e:p.1=k
  ·rw[ae e,ae (h1.symm.trans e)];exact⟨h1,h2,ry⟩
  ·rw[af e,af (λz=>e (h1.trans z))];exact⟨h1,h2,h3⟩
theorem KT.put(r:KT H bf xs)(k:List Key)(hb:H b=some (.tup (k.map kV)))(ry:RelV y u) :
  KT H (fq bf k y) (storedH xs k b u):=by
 have e:(bf.any λkv=>decide (kv.1=k))=(atKey xs k).isSome:=by
  rw[xG,(r.val k).xH,Option.isSome_map]
 unfold fq storedH;rw[e];by_cases q:(atKey xs k).isSome=true
 ·rw[ae q,ae q];exact r.ED k ry
 ·rw[af q,af q];exact Paired.snoc r ⟨rfl,hb,ry⟩
theorem KT.keeps(r:KT H bf xs)(ht:∀b ys,H b=some (.tup ys)->H' b=some (.tup ys)):KT H' bf xs:=
 Paired.uz r λ_ _ z=>⟨z.1,ht _ _ z.2.1,z.2.2⟩
section
variable{P:Program}{w:World}{H:Hp}{h:Heap}{a:Addr}
theorem Mm{u:HO}(ok:dN P w H h)(e:Rd H a u):eQ P w H h a u:=e.ok ok
theorem qN{bf:List (Key×V)}(ok:dN P w H h)(e:Rd H a (.dK bf)):bf.length<=sizeLine/\(a==sysModules)=false/\∃vs,KV bf vs/\h.DictOf (gO P w) a vs:=
 show eQ P w H h a (.dK bf) from Mm ok e
theorem Mn{bf:List (Key×V)}(ok:dN P w H h)(e:H a=some (.dK bf)):bf.length<=sizeLine/\(a==sysModules)=false/\∃vs,KV bf vs/\h.DictOf (gO P w) a vs:=qN ok (.inl e)
theorem sM{ks:List Key}(ok:dN P w H h)(e:H a=some (.tup (ks.map kV))):(tupleKind (gO P w)).is h ks a:=by
 obtain⟨_,its,r,o,h1,h2,_,n,h3⟩:=(show eQ P w H h a (.tup (ks.map kV)) from ok a _ e)
 exact⟨o,its.toArray,n,h1,h2,h3,by simpa using Ml r⟩
theorem pZ(ok:dN P w H h)(e:Rd H a (.dT bf)):bf.length<=sizeLine/\(a==sysModules)=false/\
  ∃xs,KT H bf xs/\h.DictOfH (tupleKind (gO P w)) a xs:=by
 obtain⟨z,y,xs,r,o,es,ep,h1,h2,h3,h4,h5⟩:=(show eQ P w H h a (.dT bf) from Mm ok e)
 refine⟨z,y,xs,r,o,es,ep,h1,h2,h3,h4,λx hx=>?_,h5⟩;have all:∀{l:List (List Key×V)}{m:List (List Key×Addr×Value)},KT H l m->∀x∈m,(tupleKind (gO P w)).is h x.1 x.2.1:=by
  intro l m q;induction q with
  |nil=>intro x hx;exact nomatch hx
  | @cons p q ps qs hq t ih=>
   intro x hx;rcases dI.mp hx with e|hx
   ·subst e;exact sM ok (by rw[<- hq.1];exact hq.2.1)
   ·exact ih x hx
 exact all r x hx
theorem V2(ok:dN P w H h)(e:H a=some (.dT bf)):bf.length<=sizeLine/\(a==sysModules)=false/\
  ∃xs,KT H bf xs/\h.DictOfH (tupleKind (gO P w)) a xs:=pZ ok (.inl e)
end
def e7(H:Hp)(a:Addr)(y:V)(r:Option V):Prop:=
 (∃bf k,Rd H a (.dK bf)/\y=kV k/\r=c7 bf k)\/∃bf k b,Rd H a (.dT bf)/\y=.ref b/\H b=some (.tup (k.map kV))/\r=c7 bf k
def nS(H:Hp)(a:Addr)(y v:V)(H':Hp):Prop:=
 (∃bf k,H a=some (.dK bf)/\y=kV k/\bf.length<sizeLine/\H'=upd H a (.dK (fq bf k v))) \/
 ∃bf k b,H a=some (.dT bf)/\y=.ref b/\H b=some (.tup (k.map kV))/\bf.length<sizeLine/\H'=upd H a (.dT (fq bf k v))
theorem e7.k{H:Hp}{a:Addr}{bf:List (Key×V)}{k:Key}(e:H a=some (.dK bf)):e7 H a (kV k) (c7 bf k):=.inl ⟨bf,k,.inl e,rfl,rfl⟩
theorem e7.t{k:List Key}(e:H a=some (.dT bf))(eb:H b=some (.tup (k.map kV))):e7 H a (.ref b) (c7 bf k):=.inr ⟨bf,k,b,.inl e,rfl,eb,rfl⟩
theorem nS.k{H:Hp}{a:Addr}{bf:List (Key×V)}{k:Key}{v:V}(e:H a=some (.dK bf))(hl:bf.length<sizeLine):nS H a (kV k) v (upd H a (.dK (fq bf k v))):=.inl ⟨bf,k,e,rfl,hl,rfl⟩
theorem nS.t{k:List Key}{v:V}(e:H a=some (.dT bf))(eb:H b=some (.tup (k.map kV)))(hl:bf.length<sizeLine) :
  nS H a (.ref b) v (upd H a (.dT (fq bf k v))):=.inr ⟨bf,k,b,e,rfl,eb,hl,rfl⟩
section
variable{X:Cx}{bc:List (Addr×Obj)}{σ:St}{H:Hp}{s:Shared}{a:Addr}{y v:V}{u r:Value}{o:Option V}{A:Around}{E:QV}
theorem Inv.big(I:Inv X bc σ H s):sysModules<s.heap.objs.size:=by
 have h:mainGlobals<s.heap.objs.size:=(I.mod.glob.keeps I.bk).lt;exact Nat.lt_trans (by decide) h
theorem V3(hu:A.units+1<cLine)(I:Inv X bc σ H s)(g:e7 H a y (some v))(ry:RelV y u)(h:∀w' s',Inv X bc σ H s'->RelV v w'->Q w' s') :
  wpAny (model X.prog X.w) A (getItem (.ref a) u) Q E s:=by
 rcases g with⟨bf,k,e,ey,l⟩|⟨bf,k,b,e,ey,eb,l⟩
 ·subst ey;obtain⟨z,hd,vs,rel,dd⟩:=qN I.bZ e;obtain⟨w',hw,mh⟩:=lZ.some_of (v:=v) (o:=valueAt vs k) (by rw[l];exact rel.val k);exact wpAny_getItem_of (pY ry) dd.mapOf hw (h w' _ (I.tok _) mh)
 ·subst ey;cases(show u=Value.ref b from ry)
  obtain⟨z,hd,xs,rel,dd⟩:=pZ I.bZ e;obtain⟨w',hw,mh⟩:=lZ.some_of (v:=v) (o:=(atKey xs k).map (·.2)) (by rw[l];exact rel.val k);obtain⟨p,hp,EE⟩:=lj.mp hw;refine wpAny_getItem_heap (aJ hu) (sM I.bZ eb) dd hp ?_;rw[EE];exact h w' _ (I.tok _) mh
theorem V4(hu:A.units+1<cLine)(I:Inv X bc σ H s)(g:e7 H a y o)(ry:RelV y u)(h:∀s',Inv X bc σ H s'->Q (.bool o.isSome) s') :
  wpAny (model X.prog X.w) A (compareOp .In u (.ref a)) Q E s:=by
 rcases g with⟨bf,k,e,ey,l⟩|⟨bf,k,b,e,ey,eb,l⟩
 ·subst ey;obtain⟨z,hd,vs,rel,dd⟩:=qN I.bZ e;refine wpAny_in_of (pY ry) hd dd.mapOf ?_;rw[<- (rel.val k).xH,<- l];exact h _ (I.tok _)
 ·subst ey;cases(show u=Value.ref b from ry)
  obtain⟨z,hd,xs,rel,dd⟩:=pZ I.bZ e;refine wpAny_in_heap (aJ hu) (sM I.bZ eb) hd dd ?_;have q:=(rel.val k).xH;rw[Option.isSome_map]at q;rw[<- q,<- l];exact h _ (I.tok _)
theorem V5(hu:A.units+1<cLine)(I:Inv X bc σ H s)(g:e7 H a y o)(ry:RelV y u)(h:∀s',Inv X bc σ H s'->Q (.bool (!o.isSome)) s') :
  wpAny (model X.prog X.w) A (compareOp .NotIn u (.ref a)) Q E s:=by
 rcases g with⟨bf,k,e,ey,l⟩|⟨bf,k,b,e,ey,eb,l⟩
 ·subst ey;obtain⟨z,hd,vs,rel,dd⟩:=qN I.bZ e;refine wpAny_notIn_of (pY ry) hd dd.mapOf ?_;rw[<- (rel.val k).xH,<- l];exact h _ (I.tok _)
 ·subst ey;cases(show u=Value.ref b from ry)
  obtain⟨z,hd,xs,rel,dd⟩:=pZ I.bZ e;refine wpAny_notIn_heap (aJ hu) (sM I.bZ eb) hd dd ?_;have q:=(rel.val k).xH;rw[Option.isSome_map]at q;rw[<- q,<- l];exact h _ (I.tok _)
theorem EF{h':Heap}{t':Nat}{ob:HO}(I:Inv X bc σ H s)(mu:wJ (H a))(hs:Heap.SameBut a s.heap h')(he:∃q,h'.get? a=some q)(new:eQ X.prog X.w (upd H a ob) h' a ob) :
  Inv X bc σ (upd H a ob) { s with heap:=h',toks:=t' }:=
 I.write (x:=a) (e:=a) mu (.inl rfl) (λb q hb z=>(hs.2 b hb).trans z) he new
theorem EG{P:Program}{w:World}{h':Heap}{bf:List (Key×V)}{vs:List (Key×Value)}(z:bf.length<=sizeLine)(hd:(a==sysModules)=false)(rel:KV bf vs)(dd:h'.DictOf (gO P w) a vs) :
  eQ P w H' h' a (.dK bf):=⟨z,hd,vs,rel,dd⟩
theorem V6{Q:Unit->Shared->Prop}(hu:A.units+1<cLine)(I:Inv X bc σ H s)(g:nS H a y v H')(ry:RelV y u)(rv:RelV v r)(h:∀s',Inv X bc σ H' s'->Q () s') :
  wpAny (model X.prog X.w) A (setItem (.ref a) u r) Q E s:=by
 rcases g with⟨bf,k,e,ey,l,eH⟩|⟨bf,k,b,e,ey,eb,l,eH⟩
 ·subst ey eH;obtain⟨z,hd,vs,rel,dd⟩:=Mn I.bZ e;have hz:vs.length<=sizeLine:=by rw[<- rel.length];exact z
  have hl:(fq bf k v).length<=sizeLine:=by have:=AE bf k v;lia
  refine wpAny_setItem_pairs (hsz:=hz) (pY ry) dd λh' sN hs=>h _ ?_;have he:∃q,h'.get? a=some q:=let ⟨q,_,_,hq,_⟩:=sN;⟨q,hq⟩;exact EF I (by rw[e];exact True.intro) hs he (EG hl hd (rel.put k rv) sN)
 ·subst ey eH;cases(show u=Value.ref b from ry)
  obtain⟨z,hd,xs,rel,dd⟩:=V2 I.bZ e;have hz:xs.length<=sizeLine:=by rw[<- Paired.length rel];exact z
  have hl:(fq bf k v).length<=sizeLine:=by have:=AE bf k v;lia
  refine wpAny_setItem_heap (hsz:=hz) (aJ hu) (sM I.bZ eb) dd λh' sN hs=>h _ ?_;obtain⟨q,es,ep,hq,h2,h3,h4,_,h5⟩:=sN;refine EF I (by rw[e];exact True.intro) hs ⟨q,hq⟩ ⟨hl,hd,_,(rel.put k eb rv).keeps λc ys ec=>?_,q,es,ep,hq,h2,h3,h4,h5⟩;rw[cH (To ec e (λz=>nomatch z))];exact ec
end
section
variable{X:Cx}{bc:List (Addr×Obj)}{σ:St}{H:Hp}{s:Shared}{a:Addr}{bf:List (Key×V)}{k:Key}{u:Value}{A:Around}{E:QV}
end
def EH(i:Expr):Prop:=∀ov iv,subscripted i false ov iv=operate [ov,iv] (getItem ov iv)
theorem Mo{prog:Program}{w:World}{A:Around}{E:QV}{env:Env}{value slice:Expr}{pos:Pos}{T id:String}
  (hl:typeLookup (.type T) "__getitem__"=pure (some (.builtin id))) (hs:EH slice)
  (h:wpAny (model prog w) A (eval value env) (λo s₁=>wpAny (model prog w) A (eval slice env) (λi s₂=>s₂.TypeIs o T/\wpAny (model prog w) A (getItem o i) Q E s₂) E s₁) E s) :
  wpAny (model prog w) A (eval (.Subscript value slice pos) env) Q E s:=by
 refine Subscript_ (ag h (λo s₁ h₁=>ag h₁ (λi s₂ h₂=>?_) λ_ _ x=>x) λ_ _ x=>x);obtain⟨hT,h₂⟩:=h₂;unfold subscriptTail;refine ak ?_;rw[getitemInPython_of_ne hT.not_modules];refine ak (aK hT hl ?_);have fin:wpAny (model prog w) A (subscripted slice false o i) (λr s₃=>wpAny (model prog w) A (letTemporaryGo value o r >>= λ_=>pure r) Q E s₃) E s₂:=by
  rw[hs o i];exact wpAny_operating (ag h₂ (λr s₃ h₃=>ak (wpAny_letTemporaryGo (au h₃))) λ_ _ x=>x)
 first
  |exact au (ak fin)
  |exact ak (au (ak fin))
  |exact ak fin
theorem V7{bc:List (Addr×Obj)}{σ:St}{o:Option V}(I:Inv X bc σ H s)(g:e7 H a y o):s.TypeIs (.ref a) "dict":=by
 rcases g with⟨bf,k,e,_,_⟩|⟨bf,k,b,e,_,_,_⟩
 ·obtain⟨_,_,vs,_,dd⟩:=qN I.bZ e;exact dd.typeIs
 ·obtain⟨_,_,xs,_,dd⟩:=pZ I.bZ e;exact dd.typeIs
def EI(td ty:TE):TE:=λσ H Q=>td σ H λx H1=>ty σ H1 λy H2=>∃a v,x=.ref a/\e7 H2 a y (some v)/\Q v H2
def V8(ty td:TE):TE:=λσ H Q=>ty σ H λy H1=>td σ H1 λx H2=>∃a o,x=.ref a/\e7 H2 a y o/\Q (.bl (!o.isSome)) H2
def Mp(td ty tv:TE):TS:=λD σ H=>tv σ H λv H1=>td σ H1 λx H2=>ty σ H2 λy H3=>∃a H4,x=.ref a/\nS H3 a y v H4/\D.nx σ H4
section
variable{X:Cx}{o i e value:Expr}{pos jY Ul:Pos}{td ty tv:TE}
theorem lF(hu:X.A.units+1<cLine)(ho:PE X o td)(hi:PE X i ty)(hs:EH i:=by exact λ_ _=>rfl):PE X (.Subscript o i pos) (EI td ty):=by
 intro bc s σ H Q I h;refine Mo PySem.F.slot_dict_getitem.lookup hs (bj (ho bc s σ H _ I h) λu s1 ⟨x,H1,I1,rx,q1⟩=>bj (hi bc s1 σ H1 _ I1 q1) λiv s2 ⟨y,H2,I2,ry,a,v,ex,g,q2⟩=>?_);subst ex;obtain rfl:u=Value.ref a:=rx;exact⟨V7 I2 g,V3 hu I2 g ry λw' s3 I3 mh=>⟨v,H2,I3,mh,q2⟩⟩
theorem Mq(hu:X.A.units+1<cLine)(hi:PE X i ty)(ho:PE X o td):PC X .NotIn i o (V8 ty td):=by
 intro bc s σ H Q I h;refine bj (hi bc s σ H _ I h) λiv s1 ⟨y,H1,I1,ry,q1⟩=>bj (ho bc s1 σ H1 _ I1 q1) λu s2 ⟨x,H2,I2,rx,a,ov,ex,g,q2⟩=>?_;subst ex;obtain rfl:u=Value.ref a:=rx;exact V5 hu I2 g ry λs3 I3=>⟨.bl (!ov.isSome),H2,I3,rfl,q2⟩
theorem xI(hu:X.A.units+1<cLine)(ho:PE X o td)(hi:PE X i ty)(hv:PE X value tv)(hs:swapsWith value (some (.Subscript o i jY)) pos.line X.env=pure false) :
  PS X (.Assign [.Subscript o i jY] value pos) (Mp td ty tv):=by
 intro bc s σ H D I h;refine wpAny_Assign_Subscript (bj (hv bc s σ H _ I h) λr s1 ⟨v,H1,I1,rv,q1⟩=>bj (ho bc s1 σ H1 _ I1 q1) λu s2 ⟨x,H2,I2,rx,q2⟩=>bj (hi bc s2 σ H2 _ I2 q2) λiv s3 ⟨y,H3,I3,ry,a,H4,ex,g,q3⟩=>?_) hs;subst ex;obtain rfl:u=Value.ref a:=rx;exact V6 hu I3 g ry rv λs4 I4=>⟨σ,H4,I4,q3⟩
end
theorem Mr{P:Program}{w:World}(h:Heap)(hb:sysModules<h.objs.size):eQ P w H (h.push { cls:=.type "dict",data:=.dict #[] }) h.objs.size (.dK []):=
 ⟨gH _,beq_eq_false_iff_ne.mpr (fe (fK hb)),[],.nil,Heap.DictOf.new h⟩
theorem V9{P:Program}{w:World}(h:Heap)(hb:sysModules<h.objs.size):eQ P w H (h.push { cls:=.type "dict",data:=.dict #[] }) h.objs.size (.dT []):=
 ⟨gH _,beq_eq_false_iff_ne.mpr (fe (fK hb)),[],.nil,_,#[],0,gT _ rfl,⟨rfl,rfl,rfl⟩,rfl,rfl,List.nodup_nil⟩
def Wa:TE:=λ_ H Q=>∀p,H p=none->Q (.ref p) (upd H p (.dK []))
def Wb:TE:=λ_ H Q=>∀p,H p=none->Q (.ref p) (upd H p (.dT []))
section
variable{X:Cx}{pos:Pos}
theorem Ms:PE X (.Dict [] [] pos) Wa:=λbc s σ H Q I h=>
 wpAny_Dict_empty ⟨.ref s.heap.objs.size,_,I.laid (a:=s.heap.objs.size) (o:=.dK []) (t':=s.toks) (λ_ _ q=>dJ _ q) (cF _) (Mr s.heap I.big),rfl,h _ (I.bZ.fresh (cF _))⟩
theorem Wc:PE X (.Dict [] [] pos) Wb:=λbc s σ H Q I h=>
 wpAny_Dict_empty ⟨.ref s.heap.objs.size,_,I.laid (a:=s.heap.objs.size) (o:=.dT []) (t':=s.toks) (λ_ _ q=>dJ _ q) (cF _) (V9 s.heap I.big),rfl,h _ (I.bZ.fresh (cF _))⟩
end
def EJ:List (TE×TE)->St->Hp->(List (V×V)->Hp->Prop)->Prop
 | [],_,H,Q=>Q [] H
 |(tk,tv)::r,σ,H,Q=>tk σ H λx H1=>tv σ H1 λy H2=>EJ r σ H2 λps H3=>Q ((x,y)::ps) H3
abbrev VV:List (V×V)->List (Value×Value)->Prop:=Paired λp q=>RelV p.1 q.1/\RelV p.2 q.2
def AG(X:Cx)(pos:Pos)(keys:List (Option Expr))(values:List Expr)(p6:List (TE×TE)):Prop:=
 ∀(bc:List (Addr×Obj))(s:Shared)(σ:St)(H:Hp)(Q:List (V×V)->Hp->Prop),Inv X bc σ H s->EJ p6 σ H Q->
  wpAny (model X.prog X.w) X.A (evalPairs (pairTrees keys values X.env pos)) (λvs s'=>∃ps H',Inv X bc σ H' s'/\VV ps vs/\Q ps H') X.xe s
theorem We{pos:Pos}:AG X pos [] [] []:=λbc s σ H Q I h=>pairTrees_nil_walk ⟨[],H,I,.nil,h⟩
theorem Mt{pos:Pos}{k v:Expr}{ks:List (Option Expr)}{vs:List Expr}{tk tv:TE}{p6:List (TE×TE)}(hk:PE X k tk)(hv:PE X v tv)(hr:AG X pos ks vs p6) :
  AG X pos (some k::ks) (v::vs) ((tk,tv)::p6):=λbc s σ H Q I h=>
 pairTrees_cons_walk (bj (hk bc s σ H _ I h) λu s1 ⟨x,H1,I1,rx,q1⟩=>bj (hv bc s1 σ H1 _ I1 q1) λw2 s2 ⟨y,H2,I2,ry,q2⟩=>
  bj (hr bc s2 σ H2 _ I2 q2) λws s3 ⟨ps,H3,I3,rel,q3⟩=>⟨(x,y)::ps,H3,I3,.cons ⟨rx,ry⟩ rel,q3⟩)
def nU(bf more:List (Key×V)):List (Key×V):=more.foldl (λacc kv=>fq acc kv.1 kv.2) bf
theorem KV.merge:∀{more:List (Key×V)}{rs:List (Key×Value)}{bf:List (Key×V)}{vs:List (Key×Value)},KV more rs->KV bf vs->KV (nU bf more) (merged vs rs):=by
 intro more rs bf vs r;unfold KV at r;induction r generalizing bf vs with
 |nil=>intro q;exact q
 | @cons p q ps qs h t ih=>
  intro r0;have e:KV (fq bf p.1 p.2) (stored vs q.1 q.2):=by
   have:=r0.put p.1 h.2
   rw[<- h.1];exact this
  exact ih e
theorem EK:∀(more bf:List (Key×V)),(nU bf more).length<=bf.length+more.length
 | [],bf=>by show bf.length<=bf.length+0;lia
 |p::r,bf=>by
  have h1:=EK r (fq bf p.1 p.2);have h2:=AE bf p.1 p.2;show(nU (fq bf p.1 p.2) r).length<=_;rw[fj];lia
theorem Mu{P:Program}{w:World}:∀{bf:List (Key×V)}{ws:List (Value×Value)},VV (bf.map λkv=>(kV kv.1,kv.2)) ws->∃rs,Carries (gO P w) ws rs/\KV bf rs
 | [],_,r=>by rw[List.map_nil]at r;cases r;exact⟨[],True.intro,.nil⟩
 |p::bf,_,r=>by
  rw[ee]at r;cases r with
  | @cons a b as bs h t=>
   obtain⟨rs,c,q⟩:=Mu (P:=P) (w:=w) t;obtain⟨b1,b2⟩:=b;exact⟨(p.1,b2)::rs,⟨pY h.1,rfl,c⟩,.cons ⟨rfl,h.2⟩ q⟩
def Mw(p6:List (TE×TE)):TE:=λσ H Q=>∀p,H p=none->EJ p6 σ (upd H p (.dK [])) λps H2=>H2 p=some (.dK [])/\∃bf:List (Key×V),ps=bf.map (λkv=>(kV kv.1,kv.2))/\bf.length<=15/\Q (.ref p) (upd H2 p (.dK (nU [] bf)))
theorem Wf{pos:Pos}{keys:List (Option Expr)}{values:List Expr}{p6:List (TE×TE)}(h:AG X pos keys values p6)(Eg:keys.all (·.isSome)=true)(hl:keys.length=values.length)(h0:keys≠[])
  (EL:keys.length<=15):PE X (.Dict keys values pos) (Mw p6):=by
 intro bc s σ H Q I q;have hn:=I.bZ.fresh (cF s.heap.objs.size);have I1:=I.laid (a:=s.heap.objs.size) (o:=.dK []) (h':=s.heap.push { cls:=.type "dict",data:=.dict #[] }) (t':=s.toks) (λ_ _ q=>dJ _ q) (cF _) (Mr s.heap I.big);refine wpAny_Dict_walk (knd:=gO X.prog X.w) Eg hl h0 EL (bj (h bc _ σ _ _ I1 (q _ hn)) λws s2 ⟨ps,H2,I2,rel,e,bf,ep,lk,q2⟩=>?_);subst ep;obtain⟨rs,c,rk⟩:=Mu (P:=X.prog) (w:=X.w) rel;obtain⟨z,hd,vs0,r0,dd⟩:=Mn I2.bZ e;cases r0;refine⟨rs,c,dd,λh' sN hs=>⟨.ref s.heap.objs.size,_,?_,rfl,q2⟩⟩;have hz:(nU [] bf).length<=sizeLine:=by
  have h1:=EK bf [];rw[List.length_nil]at h1;rw[av];lia
 have he:∃q,h'.get? s.heap.objs.size=some q:=let ⟨q,_,_,hq,_⟩:=sN;⟨q,hq⟩;exact EF I2 (by rw[e];exact True.intro) hs he (EG hz hd (rk.merge .nil) sN)
structure M1(X:Cx)(o:Expr)(m:Str)(gX:Pos)(e:Expr)(dW:Pos):Prop where
 base:attributeBase o m X.env (eval o X.env)=eval o X.env
 gY:((backTo dW (starEach [e] X.env)).all (λx=>!x.1)&&(backToKw dW (keywordEach [] X.env)).all (λx=>x.1.isSome)
  && decide (([e]:List Expr).length+([]:List Keyword).length+(if([]:List Keyword).isEmpty then 0 else 1)<30))=true
 line:(gX.endLine==dW.line)=true
 trees:backTo dW (starEach [e] X.env)=[(false,eval e X.env)]
structure M2(X:Cx)(o:Expr)(m:Str)(gX:Pos)(e f:Expr)(dW:Pos):Prop where
 base:attributeBase o m X.env (eval o X.env)=eval o X.env
 gY:((backTo dW (starEach [e,f] X.env)).all (λx=>!x.1)&&(backToKw dW (keywordEach [] X.env)).all (λx=>x.1.isSome)
  && decide (([e,f]:List Expr).length+([]:List Keyword).length+(if([]:List Keyword).isEmpty then 0 else 1)<30))=true
 line:(gX.endLine==dW.line)=true
 trees:backTo dW (starEach [e,f] X.env)=[(false,eval e X.env),(false,eval f X.env)]
def EM(H:Hp)(a:Addr):Prop:=(∃bf,Rd H a (.dK bf))\/∃bf,Rd H a (.dT bf)
theorem Mx{bc:List (Addr×Obj)}{σ:St}(I:Inv X bc σ H s)(d:EM H a) :
  s.TypeIs (.ref a) "dict"/\(∀b,Value.ref a=.ref b->∃ob,s.heap.get? b=some ob/\ob.dict=none)/\(a==sysModules)=false:=by
 rcases d with⟨bf,e⟩|⟨bf,e⟩
 ·obtain⟨_,hd,vs,_,dd⟩:=qN I.bZ e;refine⟨dd.typeIs,λb q=>?_,hd⟩;cases q;obtain⟨ob,_,_,h1,h2,_⟩:=dd;exact⟨ob,h1,h2.2.1⟩
 ·obtain⟨_,hd,xs,_,dd⟩:=pZ I.bZ e;refine⟨dd.typeIs,λb q=>?_,hd⟩;cases q;obtain⟨ob,_,_,h1,h2,_⟩:=dd;exact⟨ob,h1,h2.2.1⟩
section
variable{X:Cx}{bc:List (Addr×Obj)}{σ:St}{H:Hp}{s:Shared}{a:Addr}{y d:V}{u r:Value}{o:Option V}{A:Around}{E:QV}
theorem Wg(hu:A.units+1<cLine)(I:Inv X bc σ H s)(g:e7 H a y o)(ry:RelV y u)(h:∀w' s',Inv X bc σ H s'->RelV (o.getD .cC) w'->Q w' s') :
  wpAny (model X.prog X.w) A (call (.builtin "dict.get") [.ref a,u]) Q E s:=by
 rcases g with⟨bf,k,e,ey,l⟩|⟨bf,k,b,e,ey,eb,l⟩
 ·subst ey;obtain⟨z,hd,vs,rel,dd⟩:=qN I.bZ e;refine call_meetsIn um dd.typeIs Di (PySem.F.args_dict_get_2 _ _) (meets_dict_get (gO X.prog X.w) a (pY ry) hd) ⟨_,dd.mapOf,h _ _ (I.tok _) ?_⟩;rw[l];exact(rel.val k).getD rfl
 ·subst ey;cases(show u=Value.ref b from ry)
  obtain⟨z,hd,xs,rel,dd⟩:=pZ I.bZ e;refine call_meetsIn um dd.typeIs Di (PySem.F.args_dict_get_2 _ _) (meetsH_dict_get (tupleKind (gO X.prog X.w)) a b hd) ⟨aJ hu,k,xs,sM I.bZ eb,dd,h _ _ (I.tok _) ?_⟩;rw[l];exact(rel.val k).getD rfl
theorem Wh(hu:A.units+1<cLine)(I:Inv X bc σ H s)(g:e7 H a y o)(ry:RelV y u)(rd:RelV d r)(h:∀w' s',Inv X bc σ H s'->RelV (o.getD d) w'->Q w' s') :
  wpAny (model X.prog X.w) A (call (.builtin "dict.get") [.ref a,u,r]) Q E s:=by
 rcases g with⟨bf,k,e,ey,l⟩|⟨bf,k,b,e,ey,eb,l⟩
 ·subst ey;obtain⟨z,hd,vs,rel,dd⟩:=qN I.bZ e;refine call_meetsIn um dd.typeIs Di (PySem.F.args_dict_get_3 _ _ _) (meets_dict_get_default (gO X.prog X.w) a (pY ry) hd r) ⟨_,dd.mapOf,h _ _ (I.tok _) ?_⟩;rw[l];exact(rel.val k).getD rd
 ·subst ey;cases(show u=Value.ref b from ry)
  obtain⟨z,hd,xs,rel,dd⟩:=pZ I.bZ e;refine call_meetsIn um dd.typeIs Di (PySem.F.args_dict_get_3 _ _ _) (meetsH_dict_get_default (tupleKind (gO X.prog X.w)) a b hd r) ⟨aJ hu,k,xs,sM I.bZ eb,dd,h _ _ (I.tok _) ?_⟩;rw[l];exact(rel.val k).getD rd
end
def My(td ty:TE):TE:=λσ H Q=>td σ H λx H1=>∃a,x=.ref a/\EM H1 a/\ty σ H1 λy H2=>∃o,e7 H2 a y o/\Q (o.getD .cC) H2
def Wi(td ty tx:TE):TE:=λσ H Q=>td σ H λx H1=>∃a,x=.ref a/\EM H1 a/\ty σ H1 λy H2=>tx σ H2 λz H3=>∃o,e7 H3 a y o/\Q (o.getD z) H3
section
variable{X:Cx}{o e f:Expr}{gX dW:Pos}{td ty tx:TE}
theorem Mz(hu:X.A.units+1<cLine)(ho:PE X o td)(he:PE X e ty)(m:M1 X o "get" gX e dW):PE X (.Call (.Attribute o "get" gX) [e] [] dW) (My td ty):=by
 intro bc s σ H Q I h;refine wpAny_Call_method m.base m.gY m.line PySem.F.plainAttrs_dict um PySem.F.type_dict_get (bj (ho bc s σ H _ I h) λu s1 ⟨x,H1,I1,rx,a,ex,d,q1⟩=>?_);subst ex;obtain rfl:u=Value.ref a:=rx;obtain⟨t1,t2,_⟩:=Mx I1 d;refine⟨t1,t2,?_⟩;rw[m.trees];refine Dg rfl (Calls.evalArgs_plain (qr (bj (he bc s1 σ H1 _ I1 q1) λiv s2 ⟨y,H2,I2,ry,ov,g,q2⟩=>ug ?_)));exact Wg hu I2 g ry λw' s3 I3 mh=>⟨_,H2,I3,mh,q2⟩
theorem Wj(hu:X.A.units+1<cLine)(ho:PE X o td)(he:PE X e ty)(hf:PE X f tx)(m:M2 X o "get" gX e f dW):PE X (.Call (.Attribute o "get" gX) [e,f] [] dW) (Wi td ty tx):=by
 intro bc s σ H Q I h;refine wpAny_Call_method m.base m.gY m.line PySem.F.plainAttrs_dict um PySem.F.type_dict_get (bj (ho bc s σ H _ I h) λu s1 ⟨x,H1,I1,rx,a,ex,d,q1⟩=>?_);subst ex;obtain rfl:u=Value.ref a:=rx;obtain⟨t1,t2,_⟩:=Mx I1 d;refine⟨t1,t2,?_⟩;rw[m.trees];refine Dg rfl (Calls.evalArgs_plain (qr (bj (he bc s1 σ H1 _ I1 q1) λiv s2 ⟨y,H2,I2,ry,q2⟩=>
  qr (bj (hf bc s2 σ H2 _ I2 q2) λfv s3 ⟨z,H3,I3,rz,ov,g,q3⟩=>ug ?_))))
 exact Wh hu I3 g ry rz λw' s4 I4 mh=>⟨_,H3,I4,mh,q3⟩
end
section
variable{X:Cx}{bc:List (Addr×Obj)}{σ:St}{H:Hp}{s:Shared}{a:Addr}{bf:List (Key×V)}{A:Around}{E:QV}
end
section
variable{X:Cx}{bc:List (Addr×Obj)}{σ:St}{H:Hp}{s:Shared}{a:Addr}{y:V}{u:Value}{A:Around}{E:QV}
end
end L2
namespace HT
open PySem PySem.Spec PyProof.Rows
variable{prog:Program}{w:World}{A:Around}{E:QV}{s:Shared}
theorem Wk{t sl:Addr}{items:Array Value}{vl vu:Value}{lo hi:Option Int}{Q:QV}(ht:IsTup s.heap t items)(hs:s.heap.IsSliceOf sl vl vu .none)(pl:IsPart vl lo)(pu:IsPart vu hi)
  (h0:cQ items.size 0 lo=0) (h1:cQ items.size items.size hi=items.size) (h:Q (.ref t) s):wpAny (model prog w) A (getItem (.ref t) (.ref sl)) Q E s:=by
 obtain⟨os,so,Ae,xf⟩:=id hs;have DZ:s.TypeIs (.ref sl) "slice":=⟨os,so,Ae⟩;unfold getItem
 try with_reducible refine ao ?_
 first|refine ak (au ?_)|skip
 refine ak (wpAny_sequenceKey ht.typeIs (by decide) ?_);refine ak (aC (name:=Str.ofString "__getitem__") ht.typeIs zB (aE zB ht.typeIs entry_tuple_getitem ?_ (args_tuple_getitem _ _)));show wpAny _ _ (Builtin.Tuple.tupleItemsOf (.ref t) >>= _) _ _ s;refine ak (tupleItemsOf_ ht ?_);refine ak (wpAny_typeOf DZ ?_);rw[ae (by decide)];refine ak (La hs pl pu ?_);have Wl:(((cQ items.size 0 lo:Nat):Int)==0&&(1:Int)==1&&(cQ items.size items.size hi-cQ items.size 0 lo)==items.size)=true:=by
  rw[h0,h1];simp
 show wpAny _ _ (if(((cQ items.size 0 lo:Nat):Int)==0&&(1:Int)==1&&(cQ items.size items.size hi-cQ items.size 0 lo)==items.size)=true then _ else _) _ _ s
 rw[ae Wl];unfold Builtin.Tuple.tupleIsExact;refine ak (ak (wpAny_typeOf ht.typeIs (au ?_)));rw[ae (by decide)];first
  |exact ak (au (au ⟨_,rfl,au h⟩))
  |exact ak (m:=rule _) (au ⟨_,rfl,au h⟩)
  |exact au ⟨_,rfl,au h⟩
  |exact ak (wpAny_rule (au ⟨_,rfl,au h⟩))
  |exact ak (wpAny_rule (ak (au (au ⟨_,rfl,au h⟩))))
end HT
namespace L2
open PySem PySem.Spec PyProof.Rows
variable{H H':Hp}{Q:QV}{X:Cx}{a:Addr}{i:Int}{o:HO}{s:Shared}
def MA(K:Frag):V->Option Int->Option Int->Hp->VK->Prop:=λx lo hi H Q=>∃a xs,x=.ref a/\cg K H a xs/\jw K H (iJ xs lo hi) Q
theorem Wm:su X (MA X.K):=by
 intro bc s σ H x v vl vu lo hi sl Q I rx hs pl pu h;obtain⟨a,xs,rfl,hx,q⟩:=h;by_cases hw:HT.cQ xs.length 0 lo=0/\HT.cQ xs.length xs.length hi=xs.length
 ·cases rx;obtain⟨its,r,ht,hz⟩:=I.tuple hx;have cT:its.toArray.size=xs.length:=by rw[dR];exact r.length.symm
  refine⟨"tuple",_,zB.lookup,ht.typeIs,?_⟩;refine HT.Wk ht hs pl pu (by rw[cT];exact hw.1) (by rw[cT];exact hw.2) ?_;refine⟨.ref a,H,I,rfl,q.old ?_⟩;unfold iJ;rw[hw.1,hw.2,List.drop_zero,Nat.sub_zero,uo];exact hx
 ·exact Ux bc s σ H _ v vl vu lo hi sl Q I rx hs pl pu ⟨a,xs,rfl,hx,hw,λp hp=>q.new hp⟩
theorem xJ(K:Frag)(hK:X.K=K):su X (MA K):=hK▸Wm
section
variable{X:Cx}
end
section
variable{K:Frag}{H1:Hp}{cp:St}{tt:TT}{te:TE}{Q:VK}{xs ys:List V}{l1 l2:Addr}{b1 b2:Bool}
end
section
variable{X:Cx}
end
structure sO(P:Program)(w:World)(K:Frag)(mg:Str->Option Value)(base:Heap)(k:Nat)(f:Addr)(fd:FuncData)(ps:List Str)(sp:Shared->Sp):Prop where
 len:∀s vs H Q E,sp s vs H Q E->vs.length=ps.length
 run:∀(A:Around)(outer:List Env)(s:Shared)(H:Hp)(args:Args)(us:List Value)(vs:List V)(Q:VK)(E:XK),dS k A->uO P w K mg base A outer s H->BindsTo s fd args (ps.zip us)->Vals vs us->sp s vs H Q E->
  codeAny (model P w) A (.call (.ref f) args) (CR cA outer P w H s Q E) s
section
variable{P:Program}{w:World}{K:Frag}{mg:Str->Option Value}{base:Heap}
theorem c9.MB{x qual:Str}{st:Stmt}{f:Addr}{fd:FuncData}{N ps:List Str}{k:Nat}{sp:Shared->Sp}(F:c9 K x qual st f fd)(S:dD N ps (cN st))(len:∀s vs H Q E,sp s vs H Q E->vs.length=ps.length)
  (sj:∀(cI:Value)(A:Around)(outer:List Env)(s:Shared)(H:Hp)(vs:List V)(Q:VK)(E:XK),dS k (A.deeper (envOfC qual (cN st) s.heap.objs.size f cI))->sp s vs H Q E->
   ∃t,jW (jH cA P w K mg base N qual (cN st) f cI A outer s H E).qw (ng st) t/\t { nx:=λ_ H'=>Q .cC H',rt:=Q } (start N vs) H):sO P w K mg base (k+1) f fd ps sp:=by
 obtain⟨oc,od,kV,doc,pm,an,cI,ct,me,rfl,lk,iA⟩:=F.ex;refine⟨len,λA outer s H args us vs Q E hr e0 hb r jf=>?_⟩;have hl:=len _ _ _ _ _ jf;have KX:K.In s.heap:=e0.mod.pP.keeps λb o e=>(e0.bs b o e).1;have xb:s.heap.NoLimit:=e0.mod.nolimit.keeps λb o e=>(e0.bs b o e).1;have xc:∀y∈ps.zip us,(cN st).names.lookup y.1=some .local\/((cN st).names.lookup y.1=some .cell/\((cellsFrom (s.heap.objs.size+1) (cN st).names []).lookup y.1).isSome=true):=λ⟨n,v⟩ hy=>by
  rcases S.par n (List.of_mem_zip hy).1 with q|q
  ·exact .inl q
  ·exact .inr ⟨q,Df _ _ _ (.inl q)⟩
 refine codeAny_call_function hr.depth (KX _ _ lk) rfl S.co S.gen rfl (PySem.W.codeRec_of KX iA) (hb _ _ _ _ ?_);refine aA S.kind xc λenv he s1 x=>?_;subst he;refine⟨xb.keeps x.toInCall.keep,codeAny_func ?_⟩;obtain⟨t,ht,hq⟩:=sj cI A outer s H vs Q E (hr.deeper _) jf;have I:Inv (jH cA P w K mg base N qual (cN st) f cI A outer s H E) [] (start N vs) H s1:=DX S hr.hd e0 hl r x;refine ag (ht.qw [] s1 (start N vs) H _ I hq) (λfl s' hs=>?_) λe s' hs=>hs;have fin:∀{σ':St}{H':Hp}{v:V}{u:Value},Inv (jH cA P w K mg base N qual (cN st) f cI A outer s H E) [] σ' H' s'->RelV v u->Q v H'->CE outer P w H s Q u s':=
  λ{σ' H' v u} J rv q=>⟨v,H',J.os,J.bare,J.base,J.bZ,rv,q⟩
 cases fl with
 |ret u=>
  obtain⟨v,σ',H',J,rv,q⟩:=hs;exact fin J rv q
 |next=>
  obtain⟨σ',H',J,q⟩:=hs;exact fin (v:=V.cC) (u:=Value.none) J rfl q
 |brk=>
  obtain⟨_,_,_,q⟩:=hs;exact False.elim q
 |cont=>
  obtain⟨_,_,_,q⟩:=hs;exact False.elim q
end
section
variable{X:Cx}{k:Nat}{f:Addr}{fd:FuncData}{ps:List Str}{x:Str}{p pos:Pos}{e:Expr}{es:List Expr}{t:TA}{te:TE}
theorem EN{sp:Shared->Sp}(F:sO X.prog X.w X.K X.mg X.base k f fd ps sp)(hr:dS k X.A)(hg:Gl X x)(hm:X.mg x=some (.ref f))(hk:Kp X.K f)(hb:Binds X.K fd ps [])
  (ha:PA X (e::es) t) (nQ:(x==("__debug__":Str))=false:=by decide) (he:starEach (e::es) X.env=(false,eval e X.env)::starEach es X.env:=by rfl) (ik:(backTo pos (starEach es X.env)).any (·.1)=false:=by rfl) :
  PE X (.Call (.Name x p) (e::es) [] pos) (λσ H Q=>t σ H λvs H1=>∀bc s,Inv X bc σ H1 s->sp s vs H1 Q E0):=by
 intro bc s σ H Q I h;refine az (uG I hg hm ?_ nQ);refine PySem.W.callWith_K (h₀:=X.base) I.ok.mod.pP hk (bj (ha pos bc s σ H _ I h) λus s1 ⟨vs,H1,I1,r,q⟩=>⟨I1.eK,?_⟩) he ik;have hs:=q bc s1 I1;have hl:us.length=ps.length:=by rw[<- r.length];exact F.len _ _ _ _ _ hs
 have o6:=hb s1 us I1.eK (by rw[gU];exact hl);rw[gU]at o6;refine wpAny_call (codeAny_mono (F.run X.A X.stack s1 H1 ⟨us,[]⟩ us vs Q E0 hr I1.Ab o6 r hs) λr s' hq=>?_);cases r with
 |error e=>exact False.elim hq
 |ok fl=>
  cases fl with
  |ret u=>exact I1.after hq
  |next=>exact False.elim hq
  |brk=>exact False.elim hq
  |cont=>exact False.elim hq
end
section
variable{P:Program}{w:World}{K:Frag}{mg:Str->Option Value}{base:Heap}
end
section
variable{P:Program}{w:World}{K:Frag}{mg:Str->Option Value}{base:Heap}
end
def j5(h:Heap)(a:Addr)(D:List (Str×V)):Prop:=KTD.TabOf (λ(v:V)(u:Value)=>RelV v u) h a D
noncomputable def MC:V->Value->Bool
 | .cC,.none=>true
 | .bl b,.bool c=>b==c
 | .int i,.int j _=>i==j
 | .str x,.str y _=>x==y
 | .ref a,.ref b=>a==b
 |_,_=>false
theorem MD(v:V)(u:Value)(h:MC v u=true):RelV v u:=by
 cases v<;>cases u<;>first|exact Bool.noConfusion h|rfl|(have e:=beq_iff_eq.mp h;subst e;first|rfl|exact⟨_,rfl⟩)
noncomputable def Wn:Value->V
 | .bool b=>.bl b
 | .int i _=>.int i
 | .str x _=>.str x
 | .ref a=>.ref a
 |_=>.cC
noncomputable def gQ(K:Frag)(a:Addr):List (Str×V):=match K.lookup a with
 |some ⟨_,_,.dict es _,_⟩=>es.toList.map λe=>((match e.key with | .str x _=>x|_ => ""),Wn e.val)
 |_=>[]
noncomputable def pd(K:Frag)(a:Addr):Bool:=KTD.tabLook MC (λb=>K.lookup b) a (gQ K a)
theorem EO{K:Frag}{h:Heap}(X:K.In h)(e:pd K a=true):j5 h a (gQ K a):=KTD.tab_of_look MD (λb o q=>X b o q) e
theorem j5.typeIs{D:List (Str×V)}(T:j5 s.heap a D):s.TypeIs (.ref a) "dict":=by
 obtain⟨_,o,_,_,ho,hc,_⟩:=T;exact⟨o,ho,hc.1⟩
theorem j5.noDict{h:Heap}{D:List (Str×V)}(T:j5 h a D):∀b,Value.ref a=.ref b->∃ob,h.get? b=some ob/\ob.dict=none:=λb e=>by
 cases e;obtain⟨_,o,_,_,ho,hc,_⟩:=T;exact⟨o,ho,hc.2.1⟩
section
variable{prog:Program}{w:World}{A:Around}{E:QV}{s:Shared}{a:Addr}{D:List (Str×V)}{x:Str}{tk:Tok}
theorem ER{Q:Option Value->Shared->Prop}(T:j5 s.heap a D)(h1:∀v u,KTD.datumAt x D=some v->RelV v u->Q (some u) { s with toks:=s.toks+1 })(h2:KTD.datumAt x D=none->Q none { s with toks:=s.toks+1 }) :
  wpAny (model prog w) A (dictGet a (.str x tk)) Q E s:=by
 obtain⟨_,o,es,ep,ho,hc,hd,hr⟩:=T;have Wo:(es.all λe=>isExactStrKey e.key)=true:=by
  have z:=hr.exact;obtain⟨l⟩:=es;simpa using z
 have hf:findBy (λk v=>v.isStr k) es x=(es.toList.find? λe=>e.key.isStr x).map (·.val):=by obtain⟨l⟩:=es;simp[findBy]
 have hq:Q (findBy (λk v=>v.isStr k) es x) { s with toks:=s.toks+1 }:=by
  rw[hf];cases e:KTD.datumAt x D with
  |none=>rw[hr.find_none e];exact h2 e
  |some v=>obtain⟨u,z1,z2⟩:=hr.find_some e;rw[z1];exact h1 v u e z2
 rw[findBy_of_findIdx?]at hq;unfold dictGet;refine ak (wpAny_pyHash_str (ak (KTD.kt_dictFind_strs (s:={ s with toks:=s.toks+1 }) ho hd Wo ?_)));cases e:es.findIdx? λe=>e.key.isStr x with
 |none=>rw[e]at hq;exact au hq
 |some i=>rw[e]at hq;exact ak (wpAny_dictEntries (s:={ s with toks:=s.toks+1 }) ho hd (au hq))
theorem kd_item{v:V}(T:j5 s.heap a D)(hv:KTD.datumAt x D=some v)(h:∀u,RelV v u->Q u { s with toks:=s.toks+1 }):wpAny (model prog w) A (getItem (.ref a) (.str x tk)) Q E s:=by
 unfold getItem
 try (with_reducible refine ao ?_)
 refine ak (wpAny_sequenceKey (T.typeIs) (by decide) ?_);refine ak (aC (name:=Str.ofString "__getitem__") T.typeIs PySem.F.slot_dict_getitem (aE PySem.F.slot_dict_getitem T.typeIs PySem.F.entry_dict_getitem ?_ (PySem.F.args_dict_getitem_2 _ _)));show wpAny _ _ (dictGet a (.str x tk) >>= _) _ _ s;exact ak (ER T (λv' u e r=>by rw[hv]at e;cases e;exact au ⟨u,rfl,au (h u r)⟩) λe=>by rw[hv]at e;cases e)
theorem Wq(T:j5 s.heap a D)(h:Q (.bool (KTD.datumAt x D).isSome) { s with toks:=s.toks+1 }):wpAny (model prog w) A (compareOp .In (.str x tk) (.ref a)) Q E s:=by
 show wpAny _ _ (do return .bool (<- contains (.ref a) (.str x tk))) Q E s
 refine ak ?_;unfold contains
 try (with_reducible refine ao ?_)
 refine ak (aK T.typeIs PySem.F.slot_dict_contains.lookup ?_);show wpAny _ _ (if(some (Value.builtin "dict.__contains__")==some Value.none)=true then _ else _) _ _ s
 rw[af (by decide)];refine ak (wpAny_callSpecialUnlessNone?_slot (name:=Str.ofString "__contains__") T.typeIs PySem.F.slot_dict_contains (aE PySem.F.slot_dict_contains T.typeIs PySem.F.entry_dict_contains ?_ (PySem.F.args_dict_contains_2 _ _)));show wpAny _ _ (dictGet a (.str x tk) >>= _) _ _ s;refine ak (ER T (λv u e _=>?_) λe=>?_)
 ·rw[e]at h;exact(au ⟨_,rfl,ah (au h)⟩)
 ·rw[e]at h;show wpAny _ _ (Builtin.Dict.pendingKey? a (.str x tk) >>= _) _ _ _;exact ak (wpAny_pendingKey_other T.1 (au ⟨_,rfl,ah (au h)⟩))
theorem Wr{dflt:Value}:MeetsIn prog w (Builtin.«dict.get» ⟨[.ref a,.str x tk,dflt],[]⟩) (λ_ R s=>j5 s.heap a D/\(∀v u,KTD.datumAt x D=some v->RelV v u->R (.ok (.ret u)) { s with toks:=s.toks+1 })/\(KTD.datumAt x D=none->R (.ok (.ret dflt)) { s with toks:=s.toks+1 })):=
 .of_wp λA₁ R s ⟨T,h1,h2⟩=>by
  show wpAny _ _ (dictGet a (.str x tk) >>= _) _ _ s;refine ak (ER T (λv u e r=>au ⟨u,rfl,h1 v u e r⟩) λe=>?_);show wpAny _ _ (Builtin.Dict.missed a (.str x tk) >>= _) _ _ _;exact ak (wpAny_missed_other T.1 (au ⟨dflt,rfl,h2 e⟩))
theorem Ws{dflt:Value}(T:j5 s.heap a D)(h1:∀v u,KTD.datumAt x D=some v->RelV v u->Q u { s with toks:=s.toks+1 })(h2:KTD.datumAt x D=none->Q dflt { s with toks:=s.toks+1 }) :
  wpAny (model prog w) A (call (.builtin "dict.get") [.ref a,.str x tk,dflt]) Q E s:=
 call_meetsIn um T.typeIs Di (PySem.F.args_dict_get_3 _ _ _) (Wr (D:=D)) ⟨T,h1,h2⟩
end
section
variable{X:Cx}{o i e f:Expr}{pos gX dW:Pos}{td ty tx:TE}{a:Addr}{D:List (Str×V)}
def ME(a:Addr)(D:List (Str×V))(td ty:TE):TE:=λσ H Q=>td σ H λu H1=>ty σ H1 λy H2=>∃x v,u=.ref a/\y=.str x/\KTD.datumAt x D=some v/\Q v H2
theorem Wt(hT:∀h,X.K.In h->j5 h a D)(ho:PE X o td)(hi:PE X i ty)(hs:EH i):PE X (.Subscript o i pos) (ME a D td ty):=by
 intro bc s σ H Q I h;refine Mo PySem.F.slot_dict_getitem.lookup hs (bj (ho bc s σ H _ I h) λu s1 ⟨x',H1,I1,rx,q1⟩=>bj (hi bc s1 σ H1 _ I1 q1) λiv s2 ⟨y,H2,I2,ry,x,v,ex,ey,g,q2⟩=>?_);subst ex ey;obtain rfl:u=Value.ref a:=rx;obtain⟨tk,rfl⟩:=ry;exact⟨(hT _ I2.eK).typeIs,kd_item (hT _ I2.eK) g λu r=>⟨v,H2,I2.tok _,r,q2⟩⟩
def MF(a:Addr)(D:List (Str×V))(ty td:TE):TE:=λσ H Q=>ty σ H λy H1=>td σ H1 λu H2=>∃x,u=.ref a/\y=.str x/\Q (.bl (KTD.datumAt x D).isSome) H2
theorem Wu(hT:∀h,X.K.In h->j5 h a D)(hi:PE X i ty)(ho:PE X o td):PC X .In i o (MF a D ty td):=by
 intro bc s σ H Q I h;refine bj (hi bc s σ H _ I h) λiv s1 ⟨y,H1,I1,ry,q1⟩=>bj (ho bc s1 σ H1 _ I1 q1) λu s2 ⟨x',H2,I2,rx,x,ex,ey,q2⟩=>?_;subst ex ey;obtain rfl:u=Value.ref a:=rx;obtain⟨tk,rfl⟩:=ry;exact Wq (hT _ I2.eK) ⟨.bl _,H2,I2.tok _,rfl,q2⟩
def Wv(a:Addr)(D:List (Str×V))(td ty tx:TE):TE:=λσ H Q=>td σ H λu H1=>u=.ref a/\ty σ H1 λy H2=>tx σ H2 λz H3=>∃x,y=.str x/\Q ((KTD.datumAt x D).getD z) H3
theorem ES(hT:∀h,X.K.In h->j5 h a D)(ho:PE X o td)(he:PE X e ty)(hf:PE X f tx)(m:M2 X o "get" gX e f dW):PE X (.Call (.Attribute o "get" gX) [e,f] [] dW) (Wv a D td ty tx):=by
 intro bc s σ H Q I h;refine wpAny_Call_method m.base m.gY m.line PySem.F.plainAttrs_dict um PySem.F.type_dict_get (bj (ho bc s σ H _ I h) λu s1 ⟨x',H1,I1,rx,ex,q1⟩=>?_);subst ex;obtain rfl:u=Value.ref a:=rx;refine⟨(hT _ I1.eK).typeIs,(hT _ I1.eK).noDict,?_⟩;rw[m.trees];refine Dg rfl (Calls.evalArgs_plain (qr (bj (he bc s1 σ H1 _ I1 q1) λiv s2 ⟨y,H2,I2,ry,q2⟩=>qr (bj (hf bc s2 σ H2 _ I2 q2) λfv s3 ⟨z,H3,I3,rz,x,ey,q3⟩=>ug ?_))));subst ey;obtain⟨tk,rfl⟩:=ry;refine Ws (hT _ I3.eK) (λv u e r=>⟨v,H3,I3.tok _,r,?_⟩) λe=>⟨z,H3,I3.tok _,rz,?_⟩
 ·rw[e]at q3;exact q3
 ·rw[e]at q3;exact q3
end
noncomputable def vi(hi:Int)(n:Nat):It:=⟨λi _=>i<n,λi H x H'=>H'=H/\x=.int (hi-i),λi _=>n<=i⟩
theorem Ww{P:Program}{w:World}{K:Frag}{tg:Expr}(it:Addr)(hi:Int)(n:Nat):Turn P w K tg (vi hi n) [it] it (λi h=>IsRangeIter h it (hi+(i:Nat)*(-1)) ((n:Int)-(i:Nat)) (-1)) where
 mem:=by simp
 obj:=λi h st b hb=>by
  have e:b=it:=by simpa using hb
  subst e;refine⟨_,st,λv z=>?_⟩;cases(show Data.fields _=Data.cell v from z)
 keep:=λi h h' st k=>k it (by simp) _ st
 item:=by
  intro X hP hw hK hc i bc s σ H E I hf st hg;subst hP hw hK;obtain⟨f0,f1,f2,f3,f4,f5⟩:=hf it (by simp);refine(Walks.range (prog:=X.prog) (w:=X.w) (I.ok.hd hc) it hi (-1) n).item i s _ _ hg st λv h' tk hv iI kk=>?_;obtain⟨t,rfl⟩:=hv;have I1:Inv X bc σ H { s with heap:=h',toks:=tk }:=I.turned (λb o hb e=>kk b o (by simpa using hb) e) f0 f1 f3 f4 f5;refine⟨_,rfl,uK (s:={ s with heap:=h',toks:=tk }) (n := "range_iterator") iI rfl rfl (by decide) ⟨.int (hi-i),H,I1,⟨t,?_⟩,⟨rfl,rfl⟩,iI,λb hb=>(hf b hb).1⟩⟩;rw[Int.mul_neg,Int.mul_one,Int.sub_eq_add_neg]
 done:=by
  intro X hP hw hK hc i bc s σ H E I hf st hg;subst hP hw hK;obtain⟨f0,f1,f2,f3,f4,f5⟩:=hf it (by simp);exact wpAny_pyNext_range_end (I.ok.hd hc) st (by have:n<=i:=hg;lia) λh' eb=>⟨rfl,I.turned (t':=s.toks) (λb o hb e=>eb b o hb e) f0 f1 f3 f4 f5⟩
 self:=λ_ _ _ _ _ st h=>wpAny_pyIter_rangeiter st h
theorem MG(h:-1<=i):Builtin.Range.rangeSize i (-1) (-1)=i+1:=by
 (unfold Builtin.Range.rangeSize)
 rw[af (by decide)];split
 ·rw[show(-(-1):Int)=1 from rfl,Int.ediv_one];lia
 ·lia
theorem small_down(h:-1<=i)(h2:i<2^61):Builtin.Range.small i (-1) (-1)=true:=by
 unfold Builtin.Range.small;rw[MG h];simp only[Builtin.Range.rangeFitsLong,dq,Bool.or_eq_true,aI,beq_iff_eq];exact⟨⟨⟨⟨⟨by lia,by lia⟩,by decide,by decide⟩,by decide,by decide⟩,by lia,by lia⟩,.inr (by decide)⟩
section
variable{X:Cx}{tg:Expr}
def Wx(ta:TA):TI:=λσ H R=>ta σ H λvs H1=>∃i:Int,vs=[.int i,.int (-1),.int (-1)]/\(-1<=i/\i<2^61)/\R (vi i (i+1).toNat) H1
theorem Wy{bc:List (Addr×Obj)}{σ:St}{R:It->Hp->Prop}{E:QV}{t u v:Tok}{tk:Nat}(I:Inv X bc σ H s)(h1:-1<=i)(h2:i<2^61)(q:R (vi i (i+1).toNat) H) :
  wpAny (model X.prog X.w) X.A (pyIter (.ref s.heap.objs.size)) (DH X bc σ tg R) E { s with heap:=s.heap.push { cls:=.type "range",data:=.fields #[.int i t,.int (-1) u,.int (-1) v] },toks:=tk }:=by
 refine wpAny_pyIter_range (IsRange.new ..) (small_down h1 h2) ?_;have I1:Inv X bc σ H { s with heap:=s.heap.push { cls:=.type "range",data:=.fields #[.int i t,.int (-1) u,.int (-1) v] },toks:=tk }:=I.kept λb o e=>dJ _ e;generalize s.heap.push { cls:=.type "range",data:=.fields #[.int i t,.int (-1) u,.int (-1) v] }=h3 at I1 |-;refine⟨h3.objs.size,[h3.objs.size],_,_,H,rfl,I1.kept (t':=tk) λb o e=>dJ _ e,Ww _ i (i+1).toNat,?_,λb hb=>?_,q⟩
 ·show IsRangeIter _ _ (i+((0:Nat):Int)*(-1)) ((((i+1).toNat:Nat):Int)-((0:Nat):Int)) (-1);rw[show i+((0:Nat):Int)*(-1)=i by simp,show(((i+1).toNat:Nat):Int)-((0:Nat):Int)=Builtin.Range.rangeSize i (-1) (-1) by rw[MG h1];lia];exact gT _ rfl
 ·have e:b=h3.objs.size:=by simpa using hb
  subst e;exact I1.l8 (cF _) (I1.bZ.fresh (cF _))
theorem Wz{a b c:Expr}{ta:TA}{p pos:Pos}(hg:Gl X "range")(hm:X.mg "range"=none)(ha:PA X [a,b,c] ta)(hs:starEach [a,b,c] X.env=(false,eval a X.env)::starEach [b,c] X.env:=by rfl)(lG:(backTo pos (starEach [b,c] X.env)).any (·.1)=false:=by rfl) :
  PI X tg (.Call (.Name "range" p) [a,b,c] [] pos) (Wx ta):=by
 intro bc s σ H R I h;refine Call_ (pR I hg hm boot_range (wF (bj (ha pos bc s σ H _ I h) λus s1 ⟨vs,H1,I1,r1,q1⟩=>?_) hs lG));obtain⟨i,e,⟨q1,q2⟩,q⟩:=q1;subst e;cases r1 with
 |cons r rr=>
  cases rr with
  |cons r' rr=>
   cases rr with
   |cons r2 rr=>
    cases rr;obtain⟨t,rfl⟩:=r;obtain⟨t',rfl⟩:=r';obtain⟨t2,rfl⟩:=r2;exact call_range_3 (by decide) (Wy I1 q1 q2 q) (Or.inl (PyProof.noPylong_small (by lia)))
end
theorem WA{hi:Int}{n:Nat}{g:TG}{tb:TS}{D:Ends}{σ:St}(Pv:Nat->St->Hp->Prop)(h0:Pv 0 σ H)
  (hs:∀i σ H,i<n->Pv i σ H->g (.int (hi-(i:Nat))) σ H λσ2 H2=>tb { D with nx:=Pv (i+1),ct:=Pv (i+1),bk:=D.nx } σ2 H2) (hd:∀σ H,Pv n σ H->D.nx σ H) :
  ∃W:Nat->Nat->St->Hp->Prop,(∃m,W 0 m σ H)/\∀i m σ H,W i m σ H->
   ((vi hi n).stop i H/\D.nx σ H)\/((vi hi n).go i H/\∃N:St->Hp->Prop,(∀σ' H',N σ' H'->∃m',m'<m/\W (i+1) m' σ' H')/\∀x H',(vi hi n).pS i H x H'->g x σ H' λσ2 H2=>tb { D with nx:=N,ct:=N,bk:=D.nx } σ2 H2):=by
 refine⟨λi m σ H=>m=n-i/\i<=n/\Pv i σ H,⟨n,by simp,gH _,h0⟩,?_⟩;rintro i m σ H ⟨rfl,pe,p⟩;by_cases cY:i<n
 ·exact .inr ⟨cY,Pv (i+1),λσ' H' p'=>⟨n-(i+1),by lia,rfl,cY,p'⟩,λx H' ⟨z1,z2⟩=>by subst z1 z2;exact hs i σ _ cY p⟩
 ·have e:i=n:=by lia
  subst e;exact .inl ⟨cF _,hd σ H p⟩
def sP(cp:St)(P:Hp->List V->Prop):St->Hp->List V->Prop:=λσ H zs=>(∃o:St,o.length=1/\σ=o++cp)/\P H zs
theorem sP.mk{cp:St}{P:Hp->List V->Prop}{x:Option V}{zs:List V}(h:P H zs):sP cp P (x::cp) H zs:=⟨⟨[x],rfl,rfl⟩,h⟩
theorem MH{cp:St}{te:TE}{Q:VK}{n:Nat}{H1:Hp}{lo:Int}(Pv:Nat->Hp->List V->Prop)(hz:n<=sizeLine)(h0:Pv 0 H1 [])(cT:∀i H zs,Pv i H zs->zs.length<=i)
  (step:∀i H zs,i<n->Pv i H zs->te (some (.int (lo+(i:Nat)))::cp) H λv H5=>sP cp (Pv (i+1)) (some (.int (lo+(i:Nat)))::cp) H5 (zs++[v])) (done:∀H zs,Pv n H zs->∀p,H p=none->Q (.ref p) (upd H p (.lst zs))) :
  ∃W:Nat->Nat->St->Hp->List V->Prop,(∃m,W 0 m (List.replicate 1 none++cp) H1 [])/\qK (qz lo n) (bY 0) vd te Q W:=by
 refine⟨λi m σ H zs=>m=n-i/\i<=n/\sP cp (Pv i) σ H zs,⟨n,by simp,gH _,⟨_,by simp,rfl⟩,h0⟩,?_⟩;rintro i m σ H zs ⟨rfl,hi,⟨o,ho,rfl⟩,pv⟩;have hl:=cT _ _ _ pv;by_cases cY:i<n
 ·refine .inr ⟨cY,by lia,sP cp (Pv (i+1)),λσ2 H2 jN q=>⟨n-(i+1),by lia,rfl,cY,q⟩,λx H2 y=>?_⟩;obtain⟨z,rfl⟩:=xy ho;obtain⟨rfl,rfl⟩:=y;exact step i _ zs cY pv
 ·have e:i=n:=by lia
  subst e;exact .inl ⟨cF _,by lia,done H zs pv⟩
def df(H H':Hp):Prop:=∀b o,H b=some o->((∃xs,o=.tup xs)\/∃ob u,o=.dM ob u)->H' b=some o
theorem df.trans{H1 H2:Hp}(a:df H H1)(b:df H1 H2):df H H2:=λc o h k=>b c o (a c o h k) k
theorem bh.tup(s:bh H H'):df H H':=λb o h _=>s b o h
theorem df.upd{H:Hp}{a:Addr}{o:HO}(h:∀u,H a=some u->(∃xs,u=.lst xs)\/∃bf,u=.dK bf):df H (upd H a o):=λb u e k=>by
 have ne:b≠a:=λz=>by
  subst z;rcases h u e with⟨xs,rfl⟩|⟨bf,rfl⟩<;>rcases k with⟨_,z⟩|⟨_,_,z⟩<;>cases z
 rw[cH ne];exact e
theorem df.lst{H:Hp}{a:Addr}{xs:List V}{o:HO}(h:H a=some (.lst xs)):df H (L2.upd H a o):=df.upd λu e=>.inl ⟨xs,by rw[h]at e;exact(eF e).symm⟩
theorem df.ET{bf:List (Key×V)}(h:H a=some (.dK bf)):df H (L2.upd H a o):=df.upd λu e=>.inr ⟨bf,by rw[h]at e;exact(eF e).symm⟩
theorem df.new(h:H a=none):df H (L2.upd H a o):=(bh.upd h).tup
theorem df.cV{K:Frag}{xs:List V}(e:df H H')(h:cg K H a xs):cg K H' a xs:=by
 rcases h with h|h
 ·refine .inl ?_;rcases h with h|⟨o,h⟩
  ·exact .inl (e _ _ h (.inl ⟨xs,rfl⟩))
  ·exact .inr ⟨o,e _ _ h (.inr ⟨o,_,rfl⟩)⟩
 ·exact .inr h
theorem bh.put(s:bh H H')(h:H a=none):bh H (L2.upd H' a o):=λb u e=>by
 rw[cH (gI e h)];exact s b u e
structure nV(P:Program)(w:World)(K:Frag)(mg:Str->Option Value)(base:Heap)(k:Nat)(s:Shared)(H:Hp)(f:Addr)(R:List V->Hp->VK->Prop):Prop where
 here:(∃φ:Heap->Prop,H f=some (.ext φ)/\∀h,φ h->PySem.W.FnAt f h)\/∀h,K.In h->PySem.W.FnAt f h
 run:∀(A:Around)(outer:List Env)(s':Shared)(H':Hp)(vs:List V)(us:List Value)(Q:VK),dS k A->uO P w K mg base A outer s' H'->bh H H'->
  (∀c o,s.heap.get? c=some o->H c=none->H' c=none/\∃sl,s'.heap.get? c=some { o with slots:=sl })->Vals vs us->R vs H' Q->codeAny (model P w) A (.call (.ref f) ⟨us,[]⟩) (CR cA outer P w H' s' Q E0) s'
theorem nV.MI{P:Program}{w:World}{K:Frag}{mg:Str->Option Value}{base:Heap}{k:Nat}{f:Addr}{fd:FuncData}{ps:List Str}{sp:Sp}{x qual:Str}{st:Stmt}(F:ck P w K mg base cA k f fd ps sp)(G:c9 K x qual st f fd)(hb:Binds K fd ps []) :
  nV P w K mg base k s H f (λvs H' Q=>sp vs H' Q E0):=by
 refine⟨.inr λh X=>?_,λA outer s' H' vs us Q hr e0 _ _ r q=>?_⟩
 ·obtain⟨oc,od,kV,doc,pm,an,cI,ct,me,rfl,lk,_⟩:=G.ex;exact⟨_,_,_,_,X _ _ lk⟩
 ·have KX:K.In s'.heap:=e0.mod.pP.keeps λb o e=>(e0.bs b o e).1;have hl:us.length=ps.length:=by rw[<- r.length];exact F.len _ _ _ _ q
  have o6:=hb s' us KX (by rw[gU];exact hl);rw[gU]at o6;exact F.run A outer s' H' ⟨us,[]⟩ us vs Q E0 hr e0 o6 r q
section
variable{X:Cx}{k:Nat}{f:Addr}{x:Str}{p pos:Pos}{e:Expr}{es:List Expr}{t:TA}{R:List V->Hp->VK->Prop}
theorem WB{i:Nat}(L:nV X.prog X.w X.K X.mg X.base k X.s₀ X.H₀ f R)(hr:dS k X.A)(hex:X.ex=[])(hN:X.N[i]?=some x)(hv:rT X.env.scope x)(ha:PA X (e::es) t)
  (hd:(x==("__debug__":Str))=false:=by decide) (iA:(x==("__classdict__":Str))=false:=by decide) (he:starEach (e::es) X.env=(false,eval e X.env)::starEach es X.env:=by rfl) (ik:(backTo pos (starEach es X.env)).any (·.1)=false:=by rfl) :
  PE X (.Call (.Name x p) (e::es) [] pos) (λσ H Q=>σ[i]?=some (some (.ref f))/\bh X.H₀ H/\t σ H λvs H1=>bh X.H₀ H1/\R vs H1 Q):=by
 intro bc s σ H Q I ⟨hσ,sm,h⟩;have MJ:∀{σ:St}{H1:Hp}{s1:Shared},Inv X bc σ H1 s1->bh X.H₀ H1->PySem.W.FnAt f s1.heap:=λI1 WC=>by
  rcases L.here with⟨φ,hφ,wO⟩|z
  ·exact wO _ (I1.bZ f _ (WC _ _ hφ)).1
  ·exact z _ I1.eK
 refine az (bj (Kr hN hv hd iA bc s σ H (λv H1=>v=.ref f/\H1=H) I ⟨_,hσ,rfl,rfl⟩) λu s1 ⟨v,H1,I1,r,e1,e2⟩=>?_);subst e1 e2;cases r;refine PySem.W.callWith_F (MJ I1 sm) (bj (ha pos bc s1 σ H1 _ I1 h) λus s2 ⟨vs,H2,I2,rv,lH,hq⟩=>⟨MJ I2 lH,?_⟩) he ik;refine wpAny_call (codeAny_mono (L.run X.A X.stack s2 H2 vs us Q hr I2.Ab lH (λc o hc hn=>?_) rv hq) λr s' hq=>?_)
 ·have xK:c ∉ X.ex:=by rw[hex];simp
  exact⟨I2.base.free c o hc hn xK,I2.base.any hc hn xK⟩
 cases r with
 |error e=>exact False.elim hq
 |ok fl=>
  cases fl with
  |ret u=>exact I2.after hq
  |next=>exact False.elim hq
  |brk=>exact False.elim hq
  |cont=>exact False.elim hq
end
theorem xM(K:Frag)(hK:X.K=K){o:Expr}{to:TE}{gX dW:Pos}(ho:PE X o to)(xj:attributeBase o "pop" X.env (eval o X.env)=eval o X.env:=by rfl)(xk:(gX.endLine==dW.line)=true:=by rfl) :
  PE X (.Call (.Attribute o "pop" gX) [] [] dW) (uX K "list" Ed to):=hK▸Ah ll PySem.F.slot_list_pop PySem.F.type_list_pop UT ho xj xk
end L2
namespace Bw
section
variable{p:Int}{n:Nat}{L L' L'':LL}
end
end Bw
namespace S21
open PySem L2 Bw
noncomputable def top(i:Nat):Stmt:=PySem.Challenge.pw_bentwires_k52_moves_and_no_move.main.body.getD i (.Pass ⟨0,0,0,0⟩)
noncomputable abbrev EU:Stmt:=top 9
noncomputable abbrev EV:Stmt:=top 13
noncomputable abbrev EW:Stmt:=top 14
noncomputable abbrev AH:Stmt:=top 15
noncomputable abbrev EX:Stmt:=top 16
noncomputable abbrev AI:Stmt:=top 17
noncomputable abbrev EY:Stmt:=top 18
noncomputable abbrev AJ:Stmt:=top 19
noncomputable abbrev EZ:Stmt:=top 20
noncomputable abbrev AK:Stmt:=top 21
noncomputable abbrev E1:Stmt:=top 26
noncomputable abbrev AL:Stmt:=top 27
noncomputable abbrev AM:Stmt:=top 28
noncomputable abbrev E2:Stmt:=top 29
noncomputable abbrev E3:Stmt:=top 30
noncomputable abbrev E4:Stmt:=top 31
noncomputable abbrev E5:Stmt:=top 32
noncomputable abbrev E6:Stmt:=top 34
noncomputable abbrev E7:Stmt:=top 35
noncomputable abbrev AN:Stmt:=top 36
noncomputable abbrev E8:Stmt:=top 37
noncomputable abbrev E9:Stmt:=top 38
noncomputable abbrev Fb:Stmt:=top 39
noncomputable abbrev Fc:Stmt:=top 40
noncomputable abbrev Fd:Stmt:=top 41
noncomputable abbrev Fe:Stmt:=top 42
noncomputable abbrev AO:Stmt:=top 43
noncomputable abbrev AQ:Stmt:=top 44
noncomputable abbrev Ff:Stmt:=top 45
noncomputable abbrev Fg:Stmt:=top 46
noncomputable abbrev Fh:Stmt:=top 47
noncomputable abbrev Fj:Stmt:=top 48
noncomputable abbrev Fl:Stmt:=top 49
noncomputable abbrev Fm:Stmt:=top 50
noncomputable abbrev Fo:Stmt:=top 51
noncomputable abbrev Fp:Stmt:=top 52
noncomputable abbrev Fq:Stmt:=top 53
noncomputable abbrev AR:Stmt:=top 54
noncomputable abbrev Fs:Stmt:=top 55
noncomputable abbrev Ft:Stmt:=top 56
noncomputable abbrev p7:Stmt:=top 57
theorem kq:(1000:Nat)<=sizeLine:=by decide
theorem MK:(2000:Nat)<=sizeLine:=by decide
structure Txt(mg:Str->Option Value):Prop where
 range:mg "range"=none
 zip:mg "zip"=none
 tuple:mg "tuple"=none
 list:mg "list"=none
 int:mg "int"=none
 bool:mg "bool"=none
 isinstance:mg "isinstance"=none
 len:mg "len"=none
 sum:mg "sum"=none
 max:mg "max"=none
 min:mg "min"=none
 aek:mg "enumerate"=none
 any:mg "any"=none
 all:mg "all"=none
 str:mg "str"=none
theorem WD:bootBuiltins "max"=some (.builtin "max"):=by decide +kernel
theorem WE{r:List Int}{j:Nat}(h:j<r.length):r[j]?=some (r.getD j 0):=by
 rw[gk h,Kd,gk h];rfl
theorem ML{r:List Int}{j:Nat}(h:j<r.length):(r.map V.int)[j]?=some (.int (r.getD j 0)):=by
 rw[fw,WE h];rfl
theorem MM{c A B:Prop} [Decidable c] (h1:¬c->A) (h2:c->B):if(!decide c)=true then A else B:=by
 by_cases h:c
 ·exact Va h (h2 h)
 ·rw[aa h];exact eE (h1 h)
section
variable{K:Frag}
end
open Classical in
theorem MN{d e:Dat}{A B:Prop}(h:d≠e)(b:A):if(if true=true then !decide (d=e)else decide (d=e))=true then A else B:=by
 simp only[if_true,aa h,Bool.not_false];exact b
theorem WG{s1 s2:TS}{D:Ends}{σ:St}{H:Hp}(J:St->Hp->Prop)(h:∀N:St->Hp->Prop,(∀σ H,J σ H->N σ H)->s1 { D with nx:=N } σ H)(hr:∀σ H,J σ H->s2 D σ H):cu s1 s2 D σ H:=h _ hr
theorem ph{H H':Hp}{l:Addr}(e:bh H H')(h:H' l=none):H l=none:=by
 cases q:H l with
 |none=>rfl
 |some o=>rw[e _ _ q]at h;cases h
end S21
namespace Bw
section
variable{p:Int}{n:Nat}
end
end Bw
namespace D1
open Bw
inductive Dr where
 |id|swap|copy|fin|add|none|gZ|empty
 |times (n:Int)
 |back (d:Dr)
 |bt (a b:Dr)
 |bj (a b:Dr)
namespace Dr
noncomputable def cq:Dr->Nat×Nat
 |id=>(1,1)|swap=>(2,2)|copy=>(1,2)|fin=>(1,0)|add=>(2,1)|none=>(0,1)|gZ=>(0,2)|empty=>(0,0)
 |times _=>(1,1)
 |back d=>(d.cq.2,d.cq.1)
 |bt a b=>(a.cq.1+b.cq.1,a.cq.2+b.cq.2)
 |bj a b=>(a.cq.1,b.cq.2)
noncomputable abbrev l(d:Dr):Nat:=d.cq.1
noncomputable abbrev r(d:Dr):Nat:=d.cq.2
def wf(p:Int):Dr->Prop
 |times n=>0<=n/\n<p
 |back d=>d.wf p
 |bt a b=>a.wf p/\b.wf p
 |bj a b=>a.wf p/\b.wf p/\a.r=b.l
 |_=>True
end Dr
noncomputable def sh(k:Nat)(f:Fn):Fn:=λj=>f (k+j)
def eq(p a b:Int):Prop:=p∣a-b
end D1
namespace D1
open Bw
noncomputable def MO:List Int->Fn->Int
 | [],_=>0
 |a::r,x=>a*x 0+MO r (sh 1 x)
inductive Wd where
 |w (x:String)
 |n (i:Int)
 deriving DecidableEq
namespace Dr
noncomputable def bb:Dr->List Wd
 |id=>[.w "id"] | swap=>[.w "swap"] | copy=>[.w "copy"] | fin=>[.w "end"] | add=>[.w "add"] | none=>[.w "none"] | gZ=>[.w "cup"] | empty=>[.w "empty"]
 |times n=>[.w "times",.n n]
 |back d=>.w "back"::d.bb
 |bt a b=>.w "beside"::(a.bb++b.bb)
 |bj a b=>.w "then"::(a.bb++b.bb)
end Dr
def MP(xN:LL)(AS:Nat):Prop:=AS+xN.length<2\/(AS=1/\xN.length=1/\(xN.getD 0 []).getD 0 0≠0)
instance (xN:LL) (AS:Nat):Decidable (MP xN AS):=by unfold MP;infer_instance
end D1
namespace D1
open Bw
noncomputable def parts(c l:Nat):Nat:=if c=0 then l else if l=0 then c else 2*(c*l)
end D1
namespace S21
open PySem L2 Bw
noncomputable def dO:D1.Wd->V
 | .w x=>.str x
 | .n i=>.int i
section
variable{K:Frag}{σ:St}{H:Hp}
theorem MQ{α:Type}(v:α):∀n:Nat,(List.replicate n [v]).flatten=List.replicate n v
 |0=>rfl
 |n+1=>by rw[wH,zC,MQ v n];rfl
end
end S21
namespace L2
open PySem PySem.Spec PyProof.Rows
end L2
namespace S21
open PySem L2 Bw
end S21
namespace D1
open Bw
end D1
namespace S21
open PySem L2 Bw
theorem MR{c:TT}{t u:TS}{D:Ends}{σ:St}{H:Hp}(d:Bool)(h:∀R:Bool->Hp->Prop,R d H->c σ H R)(ht:d=true->t { D with nx:=u D } σ H)(hf:d=false->u D σ H):cu (cU c t eA) u D σ H:=by
 refine h _ ?_;cases d with
 |true=>exact eE (ht rfl)
 |false=>exact dE (hf rfl)
end S21
namespace L2
open PySem PySem.Spec PyProof.Rows
variable{H:Hp}{M:Model}{h:Heap}{s:Shared}
theorem eQ.obj{P:Program}{w:World}{a:Addr}{o:HO}(x:eQ P w H h a o):∃u,h.get? a=some u:=by
 cases o with
 |lst xs=>exact let ⟨_,_,_,_,e⟩:=x;⟨_,e⟩
 |tup xs=>exact let ⟨_,_,_,u,e,_⟩:=x;⟨u,e⟩
 |dK bf=>exact let ⟨_,_,_,_,u,_,_,e,_⟩:=x;⟨u,e⟩
 |dT bf=>exact let ⟨_,_,_,_,u,_,_,e,_⟩:=x;⟨u,e⟩
 |set S n=>exact let ⟨u,_,_,_,e,_⟩:=x;⟨u,e⟩
 |ins C dx fs=>exact let ⟨_,_,_,e,_⟩:=x;⟨_,e⟩
 |own y=>exact x
 |xd fs=>exact let ⟨_,⟨u,_,_,e,_⟩,_⟩:=x;⟨u,e⟩
 |zI lo hi=>exact let ⟨_,_,_,e⟩:=x;⟨_,e⟩
 |dM ob u=>exact⟨_,x.1⟩
 |qu ps=>exact⟨_,x⟩
 |met f y=>exact⟨_,x⟩
 |ext φ=>exact x.2.1
section
variable{P:Program}{w:World}{fs Ds:List Addr}{H H1:Hp}{h h1 h2 B:Heap}
theorem Un.jh(u:Un Ds [] H H1 h h1)(k:B.StaysIn h2)(q7:∀b o,h.get? b=some o->b ∉ fs->∃o',B.get? b=some o'/\(H b=none->o'=o))
  (sl:∀b o,b∈fs->h.get? b=some o->∃z,h2.get? b=some { o with slots:=z }):Un fs [] H H1 h h2 where
 keep:=λb o q n hb _=>let ⟨o',e,z⟩:=q7 b o q hb;k b o (z n▸e)
 slot:=λb o q _ hb _=>sl b o hb q
 free:=u.free
 there:=λb o q _=>by
  by_cases hb:b∈fs
  ·exact let ⟨_,e⟩:=sl b o hb q;⟨_,e⟩
  ·exact let ⟨o',e,_⟩:=q7 b o q hb;⟨o',k b o' e⟩
 jc:=u.jc
 iQ:=u.iQ
 jG:=u.jG
theorem dN.jh(x:dN P w H h1)(q6:∀b u,H b=some u->∃o,B.get? b=some o)(k1:B.StaysIn h1)(k2:B.StaysIn h2):dN P w H h2:=λa o e=>
 (x a o e).mY (λb u hb q=>by
  have t:∃v,B.get? b=some v:=by
   rcases hb with rfl|hb
   ·exact q6 _ _ e
   ·exact q6 _ _ hb
  obtain⟨v,hv⟩:=t;have z:=k1 b v hv;rw[q]at z;cases z;exact k2 b _ hv) (λ_ q=>q) λ_ _ q=>q
end
theorem WH{l:List Env}:∀env∈l,∀a,env.frame=some a->a∈gq l:=λenv he a ha=>List.mem_filterMap.mpr ⟨env,he,ha⟩
section
variable{P:Program}{w:World}{K:Frag}{mg:Str->Option Value}{base:Heap}{N:List Str}{qual:Str}{scope:Scope}{f C:Addr}{cd:Value}{A:Around}{outer:List Env}{s:Shared}{H:Hp}{E:XK}
end
section
variable{P:Program}{w:World}{K:Frag}{mg:Str->Option Value}{base:Heap}
theorem c9.WI{CX:md}{x qual:Str}{st:Stmt}{f:Addr}{fd:FuncData}{N ps:List Str}{k:Nat}{sp:Sp}(F:c9 K x qual st f fd)(S:dD N ps (cN st))(len:∀vs H Q E,sp vs H Q E->vs.length=ps.length)
  (hb:∀(cI:Value)(A:Around)(outer:List Env)(s:Shared)(H:Hp)(vs:List V)(Q:VK)(E:XK),dS k (A.deeper (envOfC qual (cN st) s.heap.objs.size f cI))->sp vs H Q E->
   ∃t,jW (jH CX P w K mg base N qual (cN st) f cI A outer s H E) (ng st) t/\t { nx:=λ_ H'=>Q .cC H',rt:=Q } (start N vs) H):ck P w K mg base CX (k+1) f fd ps sp:=by
 obtain⟨oc,od,kV,doc,pm,an,cI,ct,me,rfl,lk,iA⟩:=F.ex;exact K7 lk iA S len λA outer s H vs Q E hr jf=>hb cI A outer s H vs Q E hr jf
end
theorem WJ{K:Frag}{C:Addr}{sQ:List Value}{newId:String}(X:K.In h)(q:PySem.W.excIn K C sQ newId=true) :
  ∃bm N nm q bs hdct sn sub ab col dd k0 k1 k2 k3 k5 mN,h.get? C=some (excClassObj nm q C N bs bm hdct sn sub ab col dd k0 k1 k2 k3 k5 newId)/\h.Ns N mN/\mN "__init__"=none/\OwnTail h sQ bm:=by
 unfold PySem.W.excIn at q;split at q
 case h_2=>exact nomatch q
 case h_1 dd cd sl ho=>
  split at q
  case h_2=>exact nomatch q
  case h_1 C' bm k0 k1 k2 k3 n k5 hm hs=>
   rw[dq,dq,dq,dq,dq]at q;obtain⟨⟨⟨⟨⟨e1,e2⟩,e3⟩,e4⟩,e5⟩,e6⟩:=q;have e1:C'=C:=beq_iff_eq.mp e1;have e2:n=newId:=beq_iff_eq.mp e2;have e3:cd.hasDel=false:=by simpa using e3
   have e6:=beq_iff_eq.mp e6;subst e1 e2;obtain⟨nm,bs,mr,ns,qn,hd,sn,sub,ab,col,dl⟩:=cd;have hm:mr=.ref C'::bm:=hm;have e3:dl=false:=e3;have es:sl=#[k0,k1,k2,k3,some (.builtin n),k5]:=Array.toList_inj.mp hs;subst hm e3 es;exact⟨bm,ns,nm,qn,bs,hd,sn,sub,ab,col,dd,k0,k1,k2,k3,k5,_,X _ _ ho,.of_isNs (PySem.W.isNs_of_in X e5),PySem.W.nsMap_none_of_in X e5 e6,PySem.W.tail_of_in X e4⟩
section
variable{X:Cx}{x:Str}{np dW pos:Pos}{C:Addr}{sQ:List Value}{B newId Fu:String}{e₀:Expr}{cG:List Expr}{t:TA}{E:XK}
theorem WK(hc:X.calm=true)(hg:Gl X x)(WM:X.mg x=some (.ref C))(sR:PySem.W.excIn X.K C sQ newId=true)(FB:ExcBaseFacts B newId Fu sQ)(ha:PA X (e₀::cG) t)
  (hE:∀{bc:List (Addr×Obj)}{σ:St}{H:Hp}{s:Shared}{h':Heap}{ea:Addr}{us:List Value},Inv X bc σ H s->Heap.MadeExcOf s.heap h' ea (.ref C) us->E (.ref C) none H->X.xe (.ref ea) { s with heap:=h' })
  (hd:(x==("__debug__":Str))=false:=by decide) (he:starEach (e₀::cG) X.env=(false,eval e₀ X.env)::starEach cG X.env:=by rfl) (ik:(backTo dW (starEach cG X.env)).any (·.1)=false:=by rfl) :
  PS X (.Raise (some (.Call (.Name x np) (e₀::cG) [] dW)) none pos) (λ_ σ H=>t σ H λvs H1=>vs.length<=sizeLine/\E (.ref C) none H1):=by
 intro bc s σ H D I h;obtain⟨bm,N,nm,q,bs,hdct,sn,sub,ab,col,dd,k0,k1,k2,k3,k5,mN,hC,hN,WN,T⟩:=WJ I.ok.mod.pP sR;have hh:=I.ok.hd hc;have WO:(backTo dW (starEach (e₀::cG) X.env)).any (·.1)=false:=by rw[he];exact ik
 refine wpAny_Raise_call_subT (nm:=nm) (q:=q) (C:=C) (N:=N) (bs:=bs) (bm:=bm) (hdct:=hdct) (sn:=sn) (sub:=sub) (ab:=ab) (col:=col) (dd:=dd) (k0:=k0) (k1:=k1) (k2:=k2) (k3:=k3) (k5:=k5) (mN:=mN) FB (T.hasType FB.hasBase) hh WO WN ?_;refine uG I hg WM ⟨rfl,?_⟩ hd;have sS:=ha dW bc s σ H _ I h;rw[he]at sS |-;exact Calls.evalArgs_plain (bj sS λus s1 ⟨vs,H1,I1,r,z,q1⟩=>⟨rfl,r.length▸z,I1.bk _ _ hC,hN.keeps I1.bk,T.keeps I1.bk,λh' e hm=>hE I1 hm q1⟩)
end
theorem Inv.WQ{X:Cx}{bc:List (Addr×Obj)}{σ:St}{h':Heap}{n:Str}{i tk:Nat}{m:Str->Option Value}{v:Option Value}(I:Inv X bc σ H s)(hN:X.N.Nodup)(hi:X.N[i]?=some n)
  (hm:∀(j:Nat)(x:Str)(v:V),X.N[j]?=some x->σ[j]?=some (some v)->rT X.env.scope x->∃u,RelV v u/\Look X.env s.heap m x u)
  (hn:s.heap.Ns X.env.locals m) (rX:h'.Ns X.env.locals (λx=>if x=n then v else m x)) (hs:Heap.SameBut X.env.locals s.heap h'):Inv X bc (σ.set i none) H { s with heap:=h',toks:=tk }:=by
 obtain⟨oL,_,_,uE,_⟩:=id hn;have xO:∀b o,X.s₀.heap.get? b=some o->b≠X.env.locals:=λb o e=>fK (jF (dH e) I.ok.above);refine⟨I.ok,I.os,I.bare,⟨λb o e n hb hx=>?_,λb o e n hb hx=>?_,I.base.free,λb o e hx=>?_,I.base.jc,I.base.iQ,I.base.jG⟩,⟨_,rX,λj y v' e1 e2 e3=>?_⟩,λy c e=>?_,I.free,I.l6,λp hp=>?_,?_,by simpa using I.len⟩
 ·exact(hs.2 b (xO b o e)).trans (I.base.keep b o e n hb hx)
 ·exact let ⟨sl,z⟩:=I.base.slot b o e n hb hx;⟨sl,(hs.2 b (xO b o e)).trans z⟩
 ·exact let ⟨o',z⟩:=I.base.there b o e hx;⟨o',(hs.2 b (xO b o e)).trans z⟩
 ·by_cases hj:j=i
  ·subst hj;rw[List.getElem?_set]at e2;rw[ae rfl]at e2;split at e2<;>cases e2
  ·rw[List.getElem?_set_ne (fe hj)]at e2;obtain⟨u,r,q⟩:=hm j y v' e1 e2 e3;refine⟨u,r,?_⟩;rcases q with⟨k,e⟩|⟨k,c,e,z⟩
   ·have WR:y≠n:=λz=>hj (Dx hN e1 (z▸hi));exact .inl ⟨k,by show(if y=n then v else m y)=some u;rw[af WR];exact e⟩
   ·exact .inr ⟨k,c,e,z.sameBut hs (I.pQ y c e)⟩
 ·exact let ⟨w,z⟩:=I.cell y c e;⟨w,z.sameBut hs (I.pQ y c e)⟩
 ·exact let ⟨e,n,ne,r⟩:=I.pin p hp;⟨(hs.2 p.1 ne).trans e,n,ne,r⟩
 ·intro b ob e;have nl:∀c,H c≠none->c≠X.env.locals:=λc z q=>z (q▸I.free);refine(I.bZ b ob e).mY (λc u hc q=>(hs.2 c (nl c ?_)).trans q) (λ_ q=>q) λ_ _ q=>q;rcases hc with rfl|hc
  ·rw[e];exact λz=>nomatch z
  ·rw[hc];exact λz=>nomatch z
open PySem.W (Looks)
open PySem.Builtin PySem.Builtin.ObjectAttr PySem.Builtin.Getset_descriptor
theorem Un.more{fs:List Addr}{H1:Hp}{h1:Heap}{ea:Addr}{u:HO}(x:Un fs [] H H1 h h1)(hn:H1 ea=none)(dX:∀b o,h.get? b=some o->H b=none->b≠ea):Un fs [] H (upd H1 ea u) h h1 where
 keep:=x.keep
 slot:=x.slot
 free:=λb o q n z=>by rw[cH (dX b o q n)];exact x.free b o q n z
 there:=x.there
 jc:=λb xs q=>by rw[cH (gI (x.jc b xs q) hn)];exact x.jc b xs q
 iQ:=λb o xs q=>by rw[cH (gI (x.iQ b o xs q) hn)];exact x.iQ b o xs q
 jG:=λb ps q=>let ⟨m,z⟩:=x.jG b ps q;⟨m,by rw[cH (gI z hn)];exact z⟩
section
variable{X:Cx}{C W ea:Addr}{bc:List (Addr×Obj)}{σ:St}{H1 H':Hp}{s1 s':Shared}{B:Heap}{a0:Value}
end
section
variable{X:Cx}{C W f:Addr}{k:Nat}{fd:FuncData}{ps:List Str}{sp:Sp}{x wn n y:Str}{p cp ep wp np yp ap hp pos:Pos}{e:Expr}{es:List Expr}{t:TA}{ix ie:Nat}
end
structure nW(K:Frag)(C:Addr):Prop where
 cls:(PySem.W.clsIn K C).isSome=true
 ga:PySem.W.findIn K (.ref C) "__getattribute__"=some (some (.builtin "BaseException.__getattribute__"))
 gt:PySem.W.findIn K (.ref C) "__getattr__"=some none
 cl:PySem.W.findIn K (.ref C) "__class__"=some (some (.builtin "object.__class__"))
 gn:PySem.W.specialIn K (.builtin "object.__class__") "__get__"=some (some (.builtin "getset_descriptor.__get__"))
 tk:PySem.W.takesIn K (.builtin "object.__class__")=some true
 mo:PySem.W.mroIn K C (.type "object")=some true
 mb:PySem.W.mroIn K C (.type "BaseException")=some true
def ExcAt(C a:Addr)(h:Heap):Prop:=∃o,h.get? a=some o/\o.cls=.ref C
section
variable{prog:Program}{w:World}{A:Around}{E:QV}{K:Frag}{C a:Addr}
theorem ExcAt.ty(p:ExcAt C a h):Looks M h (typeOf (.ref a)) (.ref C):=by
 obtain⟨o,h1,h2⟩:=p;exact h2▸Looks.andThen (Looks.ld h1) .now
theorem WU{R:Result->Shared->Prop}{tp:Value}(X:K.In s.heap)(Z:nW K C)(p:ExcAt C a s.heap)(h:R (.ok (.ret (.ref C))) s) :
  codeAny (model prog w) A (.call (.builtin "getset_descriptor.__get__") ⟨[.builtin "object.__class__",.ref a,tp],[]⟩) R s:=by
 obtain⟨hh,g,d,t,os⟩:=s;have T0:=p.ty (M:=model prog w);have T1:=PySem.W.looks_mroIn (M:=model prog w) X Z.mo;refine codeAny_call_builtin PySem.W.KF.slot_gs.plain PySem.W.KF.entry_gs (PySem.W.KF.slot_gs.check _ _ _ _ _ _ _ _ PySem.W.KF.type_class (PySem.W.KF.args_gs _ _ _) ?_);unfold Builtin.«getset_descriptor.__get__»;unfold descrGet;rw[PySem.W.dga_obj];refine ak (au ?_);unfold descrGetter descrCheckInstance;unfold descrNameAndClass isInstance;simp only[PySem.W.KF.owner_class];repeat lk
 refine⟨Code.quiet_builtin _ (by decide +kernel),aL PySem.W.KF.entry_class ?_⟩;unfold Builtin.«object.__class__»;unfold shownTypeOf;repeat lk
 exact h
theorem MS(X:K.In h)(Z:nW K C):Looks M h (find (.ref a) (.ref C) "__class__") (.bind (.builtin "getset_descriptor.__get__") (.builtin "object.__class__")):=by
 have L3:=PySem.W.looks_takesIn (M:=M) X Z.tk;refine(PySem.W.looks_findIn (M:=M) X Z.cl).andThen ((show Looks M h (getOf (some (.builtin "object.__class__"))) _ from PySem.W.looks_specialIn X Z.gn).andThen ?_)
 exact(show Looks M h (dataDescriptor? (some (.builtin "object.__class__")) (some (.builtin "getset_descriptor.__get__"))) (some (.builtin "getset_descriptor.__get__",.builtin "object.__class__")) from L3.andThen .now).andThen (Looks.tag .now)
theorem WV{nm:Value}{Q:Unit->Shared->Prop}(TB:Looks M s.heap (isInstance (.ref a) (.type "BaseException")) true)(q:Q () s) :
  wpAny M A (checkBuiltinCall "BaseException.__getattribute__" ⟨[.ref a,nm],[]⟩) Q E s:=by
 have k1:builtinKind "BaseException.__getattribute__"=some .slot:=by decide +kernel
 have k2:splitId "BaseException.__getattribute__"=some ("BaseException","__getattribute__"):=by decide +kernel
 exact @PySem.W.check_slot M A E s "BaseException.__getattribute__" "BaseException" "__getattribute__" (.ref a) [nm] [] Q k1 k2 TB (PySem.F.args_bexc_ga (.ref a) nm) q
theorem WW{tk:Tok}{Q:Fin->Shared->Prop}(X:K.In s.heap)(Z:nW K C)(p:ExcAt C a s.heap)(h:Q (.done (.ret (.ref C))) s):wpAny (model prog w) A (Builtin.«object.__getattribute__» ⟨[.ref a,.str "__class__" tk],[]⟩) Q E s:=by
 obtain⟨hh,g,d,t,os⟩:=s;have T0:=p.ty (M:=model prog w);have T3:=MS (a:=a) (M:=model prog w) X Z;unfold Builtin.«object.__getattribute__»;refine ak (au ?_);refine ak (au ?_);refine ak (T0.at (ak (T3.at ?_)));dsimp only;show wpAny _ _ (holding [_] (call _ [_,_,_]) >>= ret) _ _ _;exact ak (ao (wpAny_call (WU (s:=⟨hh,g,d,t,os⟩) X Z p (au h))))
theorem WX{Q:Option Value->Shared->Prop}(X:K.In s.heap)(Z:nW K C)(p:ExcAt C a s.heap)(h:Q (some (.ref C)) { s with toks:=s.toks+1 }):wpAny (model prog w) A (getAttr? (.ref a) "__class__") Q E s:=by
 obtain⟨hh,g,d,t,os⟩:=s;have T0:=p.ty (M:=model prog w);have T1:=PySem.W.looks_findIn (M:=model prog w) X Z.ga;have T2:=PySem.W.looks_findIn (M:=model prog w) X Z.gt;have T3:=MS (a:=a) (M:=model prog w) X Z;have TB:Looks (model prog w) hh (isInstance (.ref a) (.type "BaseException")) true:=T0.andThen (PySem.W.looks_mroIn X Z.mb);unfold getAttr?;unfold getAttrBy? getAttrBy;refine ak (wpAny_mkText (ak (aH (ao (ak (T0.at (ak (T1.at ?_))))))));show wpAny _ _ (getAttrByItsOwn _ _ _ _ _ _) _ _ _;unfold getAttrByItsOwn;refine ak (T2.at (ak (aH (ao ?_))));show wpAny _ _ (boundAndCalled _ _ _) _ _ _;unfold boundAndCalled;rw[PySem.F.attr_ValueError.ga.bind (.ref a)];refine ak (au ?_);refine wpAny_call (codeAny_call_builtin PySem.F.attr_ValueError.ga.plain PySem.F.entry_bexc_ga ?_);dsimp only[ui,List.nil_append];refine WV (s:=⟨hh,g,d,t+1,os⟩) TB ?_;refine WW (s:=⟨hh,g,d,t+1,os⟩) X Z p ?_;refine PySem.W.handed_on rfl ?_;exact au h
theorem MT(Z:nW K C):PySem.W.KitX K (.ref a) (.ref C) (ExcAt C a) where
 ty:=λ_ _ _ p=>p.ty
 it:=λM h X p=>by
  obtain⟨cd,hc⟩:=wG.mp Z.cls;unfold PySem.W.clsIn at hc;split at hc
  ·rename_i ho
   intro A' Q' E' s' k q;unfold isType loadHead;exact ak (wpAny_loadPart (k _ _ (X C _ ho)) (au q))
  ·cases hc
 ne:=λh tp dd is n sl X MU=>by
  refine Bool.eq_false_iff.mpr (λq=>?_);have e:C=tp:=Value.ref.inj (beq_iff_eq.mp q);subst e;obtain⟨cd,hc⟩:=wG.mp Z.cls;unfold PySem.W.clsIn at hc;split at hc
  ·rename_i ho
   have z:=(X C _ ho).symm.trans MU;cases z
  ·cases hc
 ca:=λX p k=>WX X Z p k
end
section
variable{X:Cx}(K:Frag)(hK:X.K=K)
include hK
theorem MV{T:String}:eW X (.builtin "isinstance") (λxs H Q=>∃x b,xs=[.str x,.ty T]/\kitOne K (.type "str") (.type T)=some b/\Q (.bl b) H):=by
 subst hK;intro bc s σ H vs us Q I r ⟨x,b,e,k,q⟩;exact Aw bc s σ H vs us Q I r ⟨_,_,b,e,.str x,k,q⟩
theorem WY{T:String}:eW X (.builtin "isinstance") (λxs H Q=>∃a ys b,xs=[.ref a,.ty T]/\H a=some (.lst ys)/\kitOne K (.type "list") (.type T)=some b/\Q (.bl b) H):=by
 subst hK;intro bc s σ H vs us Q I r ⟨a,ys,b,e,h,k,q⟩;exact Aw bc s σ H vs us Q I r ⟨_,_,b,e,.lst h,k,q⟩
end
theorem WZ(K:Frag):kitOne K (.type "list") (.type "list")=some true:=by kernel_rfl
theorem W0:bootBuiltins "ValueError"=some (.type "ValueError"):=by decide +kernel
end L2
namespace D1
open Bw
section
variable{p:Int}{n k:Nat}{h:List Int}{L T D:LL}
end
noncomputable def cs(A:LL)(j:Nat)(z:Fn):Int:=MO (A.map λr=>r.getD j 0) z
namespace Dr
end Dr
section
variable{p:Int}
end
end D1
namespace D1
open Bw
namespace Dr
def c8(B:Nat):Dr->Prop
 |back d=>d.c8 B
 |bt a b=>a.c8 B/\b.c8 B/\a.l+b.l+(a.r+b.r)<=B
 |bj a b=>a.c8 B/\b.c8 B/\a.l+b.r<=B
 |_=>True
end Dr
section
variable{B:Nat}
end
theorem W2:∀d:Dr,1<=d.bb.length:=λd=>by cases d<;>simp[Dr.bb]
theorem xP:∀ds:List Dr,ds.length<=(ds.flatMap Dr.bb).length
 | []=>cF 0
 |d::ds=>by
  have:=xP ds
  have:=W2 d
  rw[iz,cL,fj];lia
end D1
namespace S21
open PySem L2 Bw
variable{H:Hp}{R:VK}{a:Addr}{d:D1.Dr}{ds:List D1.Dr}{i:Nat}{vs:List V}{σ:St}
theorem Fv{K:Frag}{j k:Nat}{v:Addr}{x y z:V}{R:St->Hp->Prop}(h:dC K H v [x,y,z])(q:R (((σ.set i (some x)).set j (some y)).set k (some z)) H):xD K 3 (iR (bY i) (iR (bY j) (iR (bY k) qy))) (.ref v) σ H R:=
 ⟨v,_,rfl,h,rfl,_,_,rfl,_,_,rfl,_,_,rfl,rfl,q⟩
def WL(H:Hp)(b:Addr)(d:D1.Dr):Prop:=H b=some (.lst (d.bb.map dO))
def WT(H:Hp)(a:Addr)(d:D1.Dr):Prop:=∃b,H a=some (.lst [.ref b,.int (d.l:Int),.int (d.r:Int)])/\WL H b d
def iU(H:Hp)(vs:List V)(ds:List D1.Dr):Prop:=vs.length=ds.length/\∀(i:Nat)(v:V)(d:D1.Dr),vs[i]?=some v->ds[i]?=some d->∃a,v=.ref a/\WT H a d
theorem WT.mono{H':Hp}(h:WT H a d)(s:bh H H'):WT H' a d:=let ⟨b,g1,g2⟩:=h;⟨b,s _ _ g1,s _ _ g2⟩
theorem iU.mono{H H':Hp}{vs:List V}{ds:List D1.Dr}(h:iU H vs ds)(s:bh H H'):iU H' vs ds:=⟨h.1,λi v d e1 e2=>let ⟨a,e,w⟩:=h.2 i v d e1 e2;⟨a,e,w.mono s⟩⟩
theorem iU.nil:iU H [] []:=⟨rfl,λi v d e=>by simp at e⟩
theorem iU.cons(h:WT H a d)(r:iU H vs ds):iU H (.ref a::vs) (d::ds):=⟨by rw[fj,fj,r.1],λi v d' e1 e2=>by
 cases i with
 |zero=>cases e1;cases e2;exact⟨a,rfl,h⟩
 |succ i=>exact r.2 i v d' e1 e2⟩
theorem iU.append{ws:List V}{es:List D1.Dr}(h:iU H vs ds)(k:iU H ws es):iU H (vs++ws) (ds++es):=⟨by rw[cL,cL,h.1,k.1],λi v d e1 e2=>by
 by_cases hi:i<vs.length
 ·rw[lg hi]at e1;rw[lg (by rw[<- h.1];exact hi)]at e2;exact h.2 i v d e1 e2
 ·rw[kZ (by lia)]at e1;rw[kZ (by rw[<- h.1];lia),<- h.1]at e2;exact k.2 _ v d e1 e2⟩
noncomputable def xQ:List Expr->Option (List Str)
 | []=>some []
 | .Constant (.str x) _ _::es=>(xQ es).map (x::·)
 |_=>none
theorem MW{X:Cx}:∀(es:List Expr)(xs:List Str),xQ es=some xs->PA X es (λ_ H Q=>Q (xs.map V.str) H)
 | [],xs,h=>by cases h;exact bq
 |e::es,xs,h=>by
  unfold xQ at h;split at h
  case h_1=>rename_i z;cases z
  case h_2 x _ _ es' z=>
   cases z;cases e:xQ es with
   |none=>rw[e]at h;cases h
   |some ys=>
    rw[e]at h;cases h;exact bg bI (MW es ys e)
  case h_3=>cases h
noncomputable def Fw:Expr->Option (List Str×Int×Int)
 | .List [.List ws _,.Constant (.int l) _ _,.Constant (.int r) _ _] _=>match xQ ws with
  |some xs=>some (xs,l,r)
  |none=>none
 |_=>none
def mj(ws:List Str)(l r:Int):TE:=cP (bo (cP (λ_ H Q=>Q (ws.map V.str) H)) (bo (tC (.int l)) (bo (tC (.int r)) bQ)))
theorem W3{X:Cx}{e:Expr}{ws:List Str}{l r:Int}(h:Fw e=some (ws,l,r)):PE X e (mj ws l r):=by
 unfold Fw at h;split at h
 case h_2=>exact nomatch h
 case h_1 w p1 l' i1 p2 r' i2 p3 pos=>
  split at h
  case h_2=>exact nomatch h
  case h_1 xs h1=>
   cases h;exact cK (bg (cK (MW w _ h1)) (bg bp (bg bp bq)))
section
variable{K:Frag}{σ:St}{H:Hp}
def Fx(te:TE)(σ:St)(H:Hp)(d:D1.Dr):Prop:=∀H',bh H H'->∀R:VK,(∀a dY,bh H' dY->WT dY a d->R (.ref a) dY)->te σ H' R
def AU(ta:TA)(σ:St)(H:Hp)(ds:List D1.Dr):Prop:=∀H',bh H H'->∀Q:List V->Hp->Prop,(∀vs dY,bh H' dY->iU dY vs ds->Q vs dY)->ta σ H' Q
theorem Fy:AU bQ σ H []:=λH' _ _ q=>q [] H' (.refl _) .nil
theorem nX{te:TE}{ta:TA}(h:Fx te σ H d)(k:AU ta σ H ds):AU (bo te ta) σ H (d::ds):=λH' s _ q=>
 h H' s _ λ_ H1 s1 w=>k H1 (s.trans s1) _ λ_ H2 s2 r=>q _ H2 (s1.trans s2) (.cons (w.mono s2) r)
theorem pj{ws:List Str}{l r:Int}(hw:ws.map V.str=d.bb.map dO)(hl:l=d.l)(hr:r=d.r)(hn:ws.length<=10):Fx (mj ws l r) σ H d:=λH' s R q=>by
 have z:(10:Nat)<=sizeLine:=by decide
 refine⟨by rw[cB];lia,λb hb=>⟨by show 3<=sizeLine;lia,λa ha=>q a _ ((bh.upd hb).trans (.upd ha)) ⟨b,?_,?_⟩⟩⟩
 ·rw[bz,hl,hr]
 ·show _=_;rw[<- hw];exact bh.upd ha _ _ bz
theorem W4{k:Int}(h:σ[i]?=some (some (.int k))):Fx (cP (bo (cP (bo (tC (.str (Str.ofString "times"))) (bo (br i) bQ))) (bo (tC (.int 1)) (bo (tC (.int 1)) bQ)))) σ H (.times k):=λH' s R q=>
 ⟨_,h,by show 2<=sizeLine;decide,λb hb=>⟨by show 3<=sizeLine;decide,λa ha=>q a _ ((bh.upd hb).trans (.upd ha)) ⟨b,bz,bh.upd ha _ _ bz⟩⟩⟩
end
def AV(_K:Frag):Sp:=λvs H Q _=>∃(p c:Int),vs=[.int p,.int c]/\p∈eZ/\∀a d H',bh H H'->WT H' a d->d.wf p->d.c8 64->d.bb.length<=9->d.l+d.r<=4->Q (.ref a) H'
def AW:TE:=cP (bo (mj ["id"] 1 1) (bo (mj ["swap"] 2 2) (bo (mj ["copy"] 1 2) (bo (mj ["end"] 1 0) (bo (mj ["add"] 2 1) bQ)))))
def AX:TE:=cP (bo (mj ["none"] 0 1) (bo (cP (bo (cP (bo (tC (.str (Str.ofString "times"))) (bo (br 2) bQ))) (bo (tC (.int 1)) (bo (tC (.int 1)) bQ)))) (bo (mj ["cup"] 0 2) (bo (mj ["empty"] 0 0) bQ))))
def AY:TE:=cP (bo (mj ["copy"] 1 2) (bo (mj ["add"] 2 1) bQ))
theorem Fz{ta:TA}(h:AU ta σ H ds)(hl:ds.length<=100)(q:∀a vs H',bh H H'->H' a=some (.lst vs)->iU H' vs ds->R (.ref a) H'):cP ta σ H R:=by
 have z:(100:Nat)<=sizeLine:=by decide
 refine h H (.refl _) _ λvs H1 s1 hd=>⟨by rw[hd.1];lia,λa ha=>?_⟩;exact q a vs _ (s1.trans (.upd ha)) bz (hd.mono (.upd ha))
noncomputable def AZ(k:Int):List D1.Dr:=([.id,.swap,.copy,.fin,.add]++[.none,.times k,.gZ,.empty])++[.copy,.add]
theorem W5{p k:Int}(h0:0<=k)(h1:k<p)(h:(AZ k)[i]?=some d):d.wf p/\d.c8 64/\d.bb.length<=2/\d.l+d.r<=4:=by
 have:=iO h
 simp only[AZ,iG,dI,uq,or_false]at this;rcases this with((rfl|rfl|rfl|rfl|rfl)|(rfl|rfl|rfl|rfl))|(rfl|rfl);all_goals first
  |exact⟨True.intro,True.intro,by decide,by decide⟩
  |exact⟨⟨h0,h1⟩,True.intro,Nat.le.refl,by show 1+1<=4;decide⟩
theorem fz{te:TE}{u:TS}{D:Ends}(h:te σ H λx H1=>u D (σ.set i (some x)) H1):cu (cR te (bY i)) u D σ H:=h
theorem W6(q:∀a vs H',bh H H'->H' a=some (.lst vs)->iU H' vs [.id,.swap,.copy,.fin,.add]->R (.ref a) H'):AW σ H R:=by
 unfold AW;refine Fz (nX ?_ (nX ?_ (nX ?_ (nX ?_ (nX ?_ Fy))))) ?_ q
 ·exact pj rfl rfl rfl (by decide)
 ·exact pj rfl rfl rfl (by decide)
 ·exact pj rfl rfl rfl (by decide)
 ·exact pj rfl rfl rfl (by decide)
 ·exact pj rfl rfl rfl (by decide)
 ·exact Dj rfl
theorem W7{k:Int}(h:σ[2]?=some (some (.int k)))(q:∀a vs H',bh H H'->H' a=some (.lst vs)->iU H' vs [.none,.times k,.gZ,.empty]->R (.ref a) H'):AX σ H R:=by
 unfold AX;refine Fz (nX ?_ (nX ?_ (nX ?_ (nX ?_ Fy)))) ?_ q
 ·exact pj rfl rfl rfl (by decide)
 ·exact W4 h
 ·exact pj rfl rfl rfl (by decide)
 ·exact pj rfl rfl rfl (by decide)
 ·exact Dj rfl
theorem W8(q:∀a vs H',bh H H'->H' a=some (.lst vs)->iU H' vs [.copy,.add]->R (.ref a) H'):AY σ H R:=by
 unfold AY;refine Fz (nX ?_ (nX ?_ Fy)) ?_ q
 ·exact pj rfl rfl rfl (by decide)
 ·exact pj rfl rfl rfl (by decide)
 ·exact Dj rfl
theorem MX{b:Addr}{ws:List V}{es:List D1.Dr}(g:H a=some (.lst vs))(g':H b=some (.lst ws))(hd:iU H vs ds)(he:iU H ws es)(hl:ds.length+es.length<=100)(q:∀c H',bh H H'->H' c=some (.lst (vs++ws))->iU H' (vs++ws) (ds++es)->R (.ref c) H'):eB (.ref a) (.ref b) H R:=by
 have z:(100:Nat)<=sizeLine:=by decide
 refine⟨a,b,vs,ws,rfl,rfl,g,g',by rw[hd.1,he.1];lia,λc hc=>q c _ (.upd hc) bz ((hd.append he).mono (.upd hc))⟩
end S21
namespace D1
noncomputable def nq:List Dr->Dr
 | []=>.empty
 | [d]=>d
 |d::e::ds=>.bt d (nq (e::ds))
noncomputable def nY(ds:List Dr):List Wd:=ds.flatMap λd=>.w "beside"::d.bb
theorem A0:∀(es:List Dr)(d:Dr),(nq (es++[d])).bb=nY es++d.bb
 | [],d=>rfl
 | [e],d=>by
  show Wd.w "beside"::(e.bb++d.bb)=((Wd.w "beside"::e.bb)++[])++d.bb;rw[gU];rfl
 |e::f::es,d=>by
  show Wd.w "beside"::(e.bb++(nq ((f::es)++[d])).bb)=_;rw[A0 (f::es) d];show _=(Wd.w "beside"::e.bb)++nY (f::es)++d.bb;rw[fg,ui]
theorem xR{B:Nat}:∀(es:List Dr),(∀e∈es,e.bb.length<=B)->(nY es).length<=es.length*(B+1)
 | [],_=>gH _
 |e::es,h=>by
  have h1:=h e (.head _);have h2:=xR es λx hx=>h x (.tail _ hx);show((Wd.w "beside"::e.bb)++nY es).length<=(es.length+1)*(B+1);rw[cL,fj,Nat.add_mul];lia
theorem W9(es:List Dr)(e:Dr):nY (es++[e])=nY es++([.w "beside"]++e.bb):=by
 unfold nY;rw[oJ];show _++((Wd.w "beside"::e.bb)++[])=_;rw[gU];rfl
noncomputable def j4(ds:List Dr):Nat:=ds.foldr (λd n=>d.l+n) 0
def kx(ds:List Dr):Nat:=ds.foldr (λd n=>d.r+n) 0
theorem xS:∀ds:List Dr,(nq ds).l=j4 ds
 | []=>rfl
 | [_]=>rfl
 |d::e::ds=>by
  show d.l+(nq (e::ds)).l=d.l+j4 (e::ds);rw[xS (e::ds)]
theorem xT:∀ds:List Dr,(nq ds).r=kx ds
 | []=>rfl
 | [_]=>rfl
 |d::e::ds=>by
  show d.r+(nq (e::ds)).r=d.r+kx (e::ds);rw[xT (e::ds)]
theorem FC{p:Int}:∀ds:List Dr,(∀d∈ds,d.wf p)->(nq ds).wf p
 | [],_=>True.intro
 | [_],h=>h _ (.head _)
 |d::e::ds,h=>⟨h d (.head _),FC (e::ds) λx hx=>h x (.tail _ hx)⟩
theorem FD{B:Nat}:∀ds:List Dr,(∀d∈ds,d.c8 B)->j4 ds+kx ds<=B->(nq ds).c8 B
 | [],_,_=>True.intro
 | [_],h,_=>h _ (.head _)
 |d::e::ds,h,hb=>by
  have el:=xS (e::ds);have er:=xT (e::ds);have hl:j4 (d::e::ds)=d.l+j4 (e::ds):=rfl;have hr:kx (d::e::ds)=d.r+kx (e::ds):=rfl;refine⟨h d (.head _),FD (e::ds) (λx hx=>h x (.tail _ hx)) (by lia),?_⟩;lia
theorem FE:∀a b:List Dr,j4 (a++b)=j4 a+j4 b
 | [],b=>(Nat.zero_add _).symm
 |d::a,b=>by
  show d.l+j4 (a++b)=d.l+j4 a+j4 b;rw[FE a b,Nat.add_assoc]
theorem FF:∀a b:List Dr,kx (a++b)=kx a+kx b
 | [],b=>(Nat.zero_add _).symm
 |d::a,b=>by
  show d.r+kx (a++b)=d.r+kx a+kx b;rw[FF a b,Nat.add_assoc]
theorem FG:∀n,j4 (List.replicate n .id)=n
 |0=>rfl
 |n+1=>by
  show 1+j4 (List.replicate n .id)=n+1;rw[FG n,Nat.add_comm]
theorem FH:∀n,kx (List.replicate n .id)=n
 |0=>rfl
 |n+1=>by
  show 1+kx (List.replicate n .id)=n+1;rw[FH n,Nat.add_comm]
end D1
namespace S21
open PySem L2 Bw
variable{H:Hp}{N:St->Hp->Prop}{R:VK}{b f u v:Addr}{d:D1.Dr}{ds:List D1.Dr}{fd:FuncData}{i j m:Nat}{σ:St}
def fH(H:Hp)(vs:List V)(ds:List D1.Dr):Prop:=vs.length=ds.length/\∀(i:Nat)(v:V)(d:D1.Dr),vs[i]?=some v->ds[i]?=some d->∃a,v=.ref a/\WL H a d
theorem fH.mono{H':Hp}{vs:List V}(h:fH H vs ds)(s:bh H H'):fH H' vs ds:=⟨h.1,λi v d e1 e2=>let ⟨a,e,w⟩:=h.2 i v d e1 e2;⟨a,e,s _ _ w⟩⟩
theorem fH.append{vs ws:List V}{es:List D1.Dr}(h:fH H vs ds)(k:fH H ws es):fH H (vs++ws) (ds++es):=⟨by rw[cL,cL,h.1,k.1],λi v d e1 e2=>by
 by_cases hi:i<vs.length
 ·rw[lg hi]at e1;rw[lg (by rw[<- h.1];exact hi)]at e2;exact h.2 i v d e1 e2
 ·rw[kZ (by lia)]at e1;rw[kZ (by rw[<- h.1];lia),<- h.1]at e2;exact k.2 _ v d e1 e2⟩
theorem fH.one(h:WL H b d):fH H [.ref b] [d]:=⟨rfl,λi v d' e1 e2=>by
 cases i with
 |zero=>cases e1;cases e2;exact⟨b,rfl,h⟩
 |succ i=>cases e1⟩
theorem fH.rep(h:WL H b d)(n:Nat):fH H (List.replicate n (.ref b)) (List.replicate n d):=⟨by rw[uh,uh],λi v d' e1 e2=>by
 have m1:=List.eq_of_mem_replicate (iO e1);have m2:=List.eq_of_mem_replicate (iO e2);subst m1 m2;exact⟨b,rfl,h⟩⟩
theorem Xa(xs:List V)(v:V):iJ (xs++[v]) none (some (-1))=xs:=by
 have es:HT.cQ (xs++[v]).length (xs++[v]).length (some (-1))=xs.length:=by
  show(if(-1:Int)<0 then(-1+((xs++[v]).length:Int)).toNat else min (-1:Int).toNat (xs++[v]).length)=xs.length
  rw[ae (by decide),cL];show(-1+((xs.length+1:Nat):Int)).toNat=xs.length;lia
 unfold iJ;rw[es,HT.DY,List.drop_zero,Nat.sub_zero,List.take_left]
def sT(_K:Frag):Sp:=λvs H Q _=>∃(a b:Addr)(VS:List V)(es:List D1.Dr)(d:D1.Dr),vs=[.ref a]/\H a=some (.lst (VS++[.ref b]))/\fH H VS es/\WL H b d/\es.length<=50/\(∀e∈es,e.bb.length<=50)/\d.bb.length<=50/\∀c H',bh H H'->WL H' c (D1.nq (es++[d]))->Q (.ref c) H'
theorem Ba:dD ["parts","words","part"] ["parts"] (cN E9):=dU rfl rfl rfl (by decide +kernel) rfl
theorem FI(F:c9 K "_law_beside_all" "_law_beside_all" E9 f fd):ck P w K mg base cA 1 f fd ["parts"] (sT K):=by
 refine F.ok Ba (λvs H Q E h=>?_) (λcI A outer s H vs Q E hr h=>?_)
 ·obtain⟨a,b,VS,es,d,rfl,_⟩:=h;rfl
 ·obtain⟨a,b,VS,es,d,rfl,ga,hV,hb,le,lw,lw',q⟩:=h;have z:(10000:Nat)<=sizeLine:=by decide
  refine⟨_,bD (cx (i:=1) Ba.nd rfl (.inl rfl) (cK bq)) (bD (lx lq rfl (qM K rfl (jJ (qL K rfl) (pv 0) mf (iS (r8 sf bp)))) (eL (i:=2) Ba.nd rfl (.inl rfl)) (bK (cx (i:=1) Ba.nd rfl (.inl rfl) (bH eD (bH eD (pv 1) (cK (bg bI bq))) (pv 2))))) (bK (cE (bH eD (pv 1) (bO (de K rfl) (pv 0) (r8 sf bp)))))),?_⟩;refine⟨by decide,λl0 h0=>?_⟩;have s0:bh H (upd H l0 (.lst [])):=.upd h0;have g0:(upd H l0 (.lst [])) l0=some (.lst ((D1.nY []).map dO)):=bz;generalize upd H l0 (.lst [])=H0 at s0 g0 |-;refine⟨_,rfl,_,rfl,_,rfl,a,_,rfl,.of (s0 _ _ ga),λl1 h1=>?_⟩;rw[show(-1:Int)=-1 from rfl,Xa]
  have s1:bh H (upd H0 l1 (.lst VS)):=s0.trans (.upd h1);have g1:(upd H0 l1 (.lst VS)) l1=some (.lst VS):=bz;have MY:(upd H0 l1 (.lst VS)) l0=some (.lst ((D1.nY (es.take 0)).map dO)):=bh.upd h1 _ _ g0;generalize upd H0 l1 (.lst VS)=H1 at s1 g1 MY |-;refine⟨l1,rfl,⟨_,.of g1⟩,wZ (xs:=VS) (λi σ H'=>bh H1 H'/\∃lp s2,σ=[some (.ref a),some (.ref lp),s2]/\H' lp=some (.lst ((D1.nY (es.take i)).map dO))) ⟨.refl _,l0,none,rfl,MY⟩ (λi σ H' _ ⟨sm,_⟩=>.of (sm _ _ g1)) ?_ ?_⟩
  ·rintro i x σ H2 hx ⟨sm,lp,s2,rfl,g⟩;have hi:i<es.length:=by
    have:=(fO.mp hx).1
    have:=hV.1
    lia
   obtain⟨e,he⟩:∃e,es[i]?=some e:=⟨_,gk hi⟩;obtain⟨c,rfl,hc⟩:=hV.2 i _ e hx he;have hw:=D1.xR (B:=50) (es.take i) λy hy=>lw _ (List.mem_of_mem_take hy);have Bb:=lw e (iO he);have hl:(es.take i).length<=50:=by rw[oH];lia
   dsimp only[bY];refine⟨_,rfl,by show 1<=sizeLine;lia,λt ht=>⟨_,_,_,_,rfl,rfl,bh.upd ht _ _ g,bz,by rw[cB];show _+1<=sizeLine;lia,λt2 h2=>?_⟩⟩;refine⟨_,rfl,_,_,_,_,rfl,rfl,bz,(s1.trans (sm.trans ((bh.upd ht).trans (.upd h2)))) _ _ hc,by rw[cL,cB,cB];show _+1+_<=sizeLine;lia,λt3 h3=>?_⟩;refine⟨sm.trans ((bh.upd ht).trans ((bh.upd h2).trans (.upd h3))),t3,_,rfl,?_⟩;rw[bz,rP,he];show _=some (HO.lst ((D1.nY (es.take i++[e])).map dO));rw[D1.W9,ig,ig,fg];rfl
  rintro σ H2 ⟨sm,lp,s2,rfl,g⟩;rw[hV.1,uo]at g;have hw:=D1.xR (B:=50) es lw;have sc:=s1.trans sm;refine⟨_,rfl,_,rfl,1,rfl,a,_,-1,.ref b,rfl,rfl,.of (sc _ _ ga),Ld _ _,_,b,_,_,rfl,rfl,g,sc _ _ hb,by rw[cB,cB];lia,λt ht=>?_⟩;refine q t _ (sc.trans (.upd ht)) ?_;show _=_;rw[bz,D1.A0,ig]
theorem fH.last{L:List V}(h:fH H L ds)(hn:ds≠[]):∃VS b es d,L=VS++[.ref b]/\ds=es++[d]/\fH H VS es/\WL H b d:=by
 obtain⟨es,d,rfl⟩:∃es d,ds=es++[d]:=⟨_,_,(List.dropLast_concat_getLast hn).symm⟩;have hL:L≠[]:=λz=>by rw[z]at h;have:=h.1;simp at this
 obtain⟨VS,v,rfl⟩:∃VS v,L=VS++[v]:=⟨_,_,(List.dropLast_concat_getLast hL).symm⟩;have hl:VS.length=es.length:=by have:=h.1;simp at this;exact this
 obtain⟨b,rfl,hb⟩:=h.2 VS.length v d (List.getElem?_concat_length) (by rw[hl];exact List.getElem?_concat_length);refine⟨VS,b,es,d,rfl,rfl,⟨hl,λi v d' e1 e2=>?_⟩,hb⟩;have h1:i<VS.length:=(fO.mp e1).1;exact h.2 i v d' (by rw[lg h1];exact e1) (by rw[lg (by lia)];exact e2)
def vj(te:TE)(σ:St)(H:Hp)(ds:List D1.Dr):Prop:=∀H',bh H H'->∀R:VK,(∀a VS dY,bh H' dY->dY a=some (.lst VS)->fH dY VS ds->R (.ref a) dY)->te σ H' R
section
variable{σ:St}{H:Hp}
theorem MZ{ta tb:TE}{es:List D1.Dr}(h1:vj ta σ H ds)(h2:vj tb σ H es)(hl:ds.length+es.length<=100):vj (bw eB ta tb) σ H (ds++es):=λH' s R q=>by
 have z:(100:Nat)<=sizeLine:=by decide
 refine h1 H' s _ λa VS H1 s1 ga hV=>h2 H1 (s.trans s1) _ λb WS H2 s2 gb hW=>?_;refine⟨a,b,_,_,rfl,rfl,s2 _ _ ga,gb,by rw[hV.1,hW.1];lia,λc hc=>?_⟩;exact q c _ _ (s1.trans (s2.trans (.upd hc))) bz (((hV.mono s2).append hW).mono (.upd hc))
theorem Xb(h:σ[i]?=some (some (.ref b)))(hb:WL H b d):vj (cP (bo (br i) bQ)) σ H [d]:=λH' s R q=>
 ⟨_,h,by show 1<=sizeLine;decide,λa ha=>q a _ _ (.upd ha) bz (.one ((s.trans (.upd ha)) _ _ hb))⟩
def xU(i:Nat):TE:=bw Lm (cP (bo (cP (bo (tC (.str (Str.ofString "id"))) bQ)) bQ)) (br i)
theorem M0{k:Nat}(h:σ[i]?=some (some (.int (k:Int))))(hk:k<=100):vj (xU i) σ H (List.replicate k .id):=λH' s R q=>by
 have z:(100:Nat)<=sizeLine:=by decide
 refine⟨by show 1<=sizeLine;decide,λb hb=>⟨by show 1<=sizeLine;decide,λa ha=>⟨_,h,a,(k:Int),[.ref b],rfl,rfl,bz,by lia,by lia,by show 1*(k:Int).toNat<=sizeLine;lia,λc hc=>?_⟩⟩⟩;refine q c _ _ ((bh.upd hb).trans ((bh.upd ha).trans (.upd hc))) bz ?_;rw[show(k:Int).toNat=k by lia,MQ];exact .rep (bh.upd hc _ _ (bh.upd ha _ _ bz)) k
def vk:TE:=bw eB (bw eB (xU 12) (cP (bo (br 7) bQ))) (xU 13)
noncomputable def mm(k:Nat)(d:D1.Dr)(m:Nat):D1.Dr:=D1.nq (List.replicate k .id++[d]++List.replicate m .id)
theorem FJ(k:Nat)(d:D1.Dr)(m:Nat):(mm k d m).l=k+d.l+m:=by
 unfold mm;rw[D1.xS,D1.FE,D1.FE,D1.FG,D1.FG];rfl
theorem FK(k:Nat)(d:D1.Dr)(m:Nat):(mm k d m).r=k+d.r+m:=by
 unfold mm;rw[D1.xT,D1.FF,D1.FF,D1.FH,D1.FH];rfl
theorem Bc{k:Nat}{x:D1.Dr}(h:x∈List.replicate k .id++[d]++List.replicate m .id):x=.id\/x=d:=by
 rcases(iG.mp h)with(h|h)
 ·rcases(iG.mp h)with(h|h)
  ·exact .inl (List.eq_of_mem_replicate h)
  ·exact .inr (dP.mp h)
 ·exact .inl (List.eq_of_mem_replicate h)
theorem M3{p:Int}{k:Nat}(h:d.wf p):(mm k d m).wf p:=D1.FC _ λx hx=>by
 rcases Bc hx with rfl|rfl
 ·exact True.intro
 ·exact h
theorem M4{B k:Nat}(h:d.c8 B)(hb:(k+d.l+m)+(k+d.r+m)<=B):(mm k d m).c8 B:=by
 refine D1.FD _ (λx hx=>?_) ?_
 ·rcases Bc hx with rfl|rfl
  ·exact True.intro
  ·exact h
 ·rw[<- D1.xS,<- D1.xT];have e1:=FJ k d m;have e2:=FK k d m;unfold mm at e1 e2;rw[e1,e2];exact hb
theorem M5{k:Nat}(hk:k+m<=20)(h:d.bb.length<=50):(mm k d m).bb.length<=2000:=by
 unfold mm;obtain⟨es,e,he⟩:∃es e,List.replicate k D1.Dr.id++[d]++List.replicate m D1.Dr.id=es++[e]:=⟨_,_,(List.dropLast_concat_getLast (by simp)).symm⟩;have hw:∀x∈es++[e],x.bb.length<=50:=λx hx=>by
  rw[<- he]at hx;rcases Bc hx with rfl|rfl
  ·show 1<=50;decide
  ·exact h
 have hl:es.length<=20:=by
  have:=ai List.length he
  simp at this;lia
 rw[he,D1.A0,cL];have h1:=D1.xR (B:=50) es λx hx=>hw x (rL _ hx);have h2:=hw e (jU _ (.head _));lia
theorem M6{K:Frag}{E:XK}{k:Nat}(h1:σ[12]?=some (some (.int (k:Int))))(h2:σ[7]?=some (some (.ref b)))(h3:σ[13]?=some (some (.int (m:Int))))(hb:WL H b d)(hk:k+m<=20)(hw:d.bb.length<=50)(q:∀c H',bh H H'->WL H' c (mm k d m)->R (.ref c) H'):ij (sT K) [] E (bo vk bQ) σ H R:=by
 have hE:vj vk σ H (List.replicate k .id++[d]++List.replicate m .id):=MZ (MZ (M0 h1 (by lia)) (Xb h2 hb) (by rw[uh];show k+1<=100;lia)) (M0 h3 (by lia)) (by rw[cL,uh,uh];show k+1+m<=100;lia);refine hE H (.refl _) _ λa VS H1 s1 ga hV=>?_;obtain⟨XS,b',es,e,rfl,he,hX,vf⟩:=hV.last (by simp);have hw:∀x∈es++[e],x.bb.length<=50:=λx hx=>by
  rw[<- he]at hx;rcases Bc hx with rfl|rfl
  ·show 1<=50;decide
  ·exact hw
 have hl:es.length<=20:=by
  have:=ai List.length he
  simp at this;lia
 refine⟨a,b',XS,es,e,rfl,ga,hX,vf,by lia,λx hx=>hw x (rL _ hx),hw e (jU _ (.head _)),λc H2 s2 hc=>q c H2 (s1.trans s2) ?_⟩;unfold mm;rw[he];exact hc
end
noncomputable abbrev vm(p:Int)(a:Addr)(c:Int)(m:Nat)(b:Addr)(l r:Nat)(b2:Addr)(l2 r2:Nat)(f:Addr)(s12 jx jy nZ:Option V):St:=[some (.int p),some (.ref a),some (.int c),some (.int (m:Int)),some (.ref b),some (.int (l:Int)),some (.int (r:Int)),some (.ref b2),some (.int (l2:Int)),some (.int (r2:Int)),some (.int (c%6)),some (.ref f),s12,jx,jy,nZ]
def xV(i j:Nat):TE:=bw (rI (λ_ j=>0<j) λi j=>.int (i%j)) (bw (rI se λi j=>.int (i/j)) (br 2) (tC (.int 7))) (bw (dZ λi j=>.int (i+j)) (bw (dZ λi j=>.int (i-j)) (br i) (br j)) (tC (.int 1)))
def xW(i j:Nat):TE:=bw (dZ λi j=>.int (i-j)) (bw (dZ λi j=>.int (i-j)) (br i) (br j)) (br 12)
def n4(x:String):TE:=cP (bo (tC (.str (Str.ofString x))) bQ)
def Bd(K:Frag)(E:XK):TS:=cu (cR (xV 6 8) (bY 12)) (cu (cR (xW 6 8) (bY 13)) (cu (cR (ij (sT K) [] E (bo vk bQ)) (bY 14)) (cR (cP (bo (bw eB (bw eB (n4 "then") (br 4)) (br 14)) (bo (br 5) (bo (bw (dZ λi j=>.int (i+j)) (bw (dZ λi j=>.int (i-j)) (br 6) (br 8)) (br 9)) bQ)))) (bY 11))))
def Be(K:Frag)(E:XK):TS:=cu (cR (xV 5 9) (bY 12)) (cu (cR (xW 5 9) (bY 13)) (cu (cR (ij (sT K) [] E (bo vk bQ)) (bY 14)) (cR (cP (bo (bw eB (bw eB (n4 "then") (br 14)) (br 4)) (bo (bw (dZ λi j=>.int (i+j)) (bw (dZ λi j=>.int (i-j)) (br 5) (br 9)) (br 8)) (bo (br 6) bQ)))) (bY 11))))
def Bf:TS:=cR (cP (bo (bw eB (n4 "back") (br 4)) (bo (br 6) (bo (br 5) bQ)))) (bY 11)
def sU(p:Int)(a:Addr)(c:Int)(m:Nat)(b:Addr)(l r:Nat)(b2:Addr)(l2 r2:Nat)(H0:Hp)(σ:St)(H:Hp):Prop:=bh H0 H/\∃f d s12 jx jy nZ,σ=vm p a c m b l r b2 l2 r2 f s12 jx jy nZ/\WT H f d/\d.wf p/\d.c8 64/\d.bb.length<=5000/\d.l+d.r<=60
section
variable{K:Frag}{E:XK}{p c:Int}{a b b2 f:Addr}{m:Nat}{d e:D1.Dr}{s12 jx jy nZ:Option V}{H:Hp}{D:Ends}
theorem M7{x y:Nat}(h2:σ[2]?=some (some (.int c)))(hi:σ[i]?=some (some (.int (x:Int))))(hj:σ[j]?=some (some (.int (y:Int))))(hl:y<=x)(q:∀k:Nat,k<=x-y->R (.int (k:Int)) H):xV i j σ H R:=by
 have b0:=nN (c/7) (show((x:Int)-y+1)≠0 by lia);have b1:=nO (c/7) (show(0:Int)<(x:Int)-y+1 by lia);refine⟨_,h2,c,7,rfl,rfl,⟨by decide,by decide⟩,_,hi,_,hj,_,_,rfl,rfl,_,_,rfl,rfl,_,_,rfl,rfl,show(0:Int)<(x:Int)-y+1 by lia,?_⟩;show R (.int (c/7%((x:Int)-y+1))) H;rw[show c/7%((x:Int)-y+1)=(((c/7%((x:Int)-y+1)).toNat:Nat):Int) by lia];exact q _ (by lia)
theorem M8{x y k:Nat}(h2:σ[12]?=some (some (.int (k:Int))))(hi:σ[i]?=some (some (.int (x:Int))))(hj:σ[j]?=some (some (.int (y:Int))))(hl:y<=x)(hk:k<=x-y)(q:R (.int ((x-y-k:Nat):Int)) H):xW i j σ H R:=by
 refine⟨_,hi,_,hj,_,_,rfl,rfl,_,h2,_,_,rfl,rfl,?_⟩;show R (.int ((x:Int)-y-k)) H;rw[show(x:Int)-y-k=((x-y-k:Nat):Int) by lia];exact q
theorem M9{x:String}{e:D1.Dr}(hi:σ[i]?=some (some (.ref u)))(hj:σ[j]?=some (some (.ref v)))(hu:WL H u d)(hv:WL H v e)(hl:d.bb.length+e.bb.length<=9000)(q:∀t H',bh H H'->H' t=some (.lst ((D1.Wd.w x::(d.bb++e.bb)).map dO))->R (.ref t) H'):bw eB (bw eB (n4 x) (br i)) (br j) σ H R:=by
 have z:(10000:Nat)<=sizeLine:=by decide
 refine⟨by show 1<=sizeLine;lia,λt1 h1=>⟨_,hi,t1,u,_,_,rfl,rfl,bz,bh.upd h1 _ _ hu,by rw[cB];show 1+_<=sizeLine;lia,λt2 h2=>⟨_,hj,t2,v,_,_,rfl,rfl,bz,bh.upd h2 _ _ (bh.upd h1 _ _ hv),by rw[cL,cB,cB];show 1+_+_<=sizeLine;lia,λt3 h3=>?_⟩⟩⟩;refine q t3 _ ((bh.upd h1).trans ((bh.upd h2).trans (.upd h3))) ?_;rw[bz,ee,ig];rfl
theorem Bg{tw tl tr:TE}{g:D1.Dr}(hw:∀R:VK,(∀t H',bh H H'->WL H' t g->R (.ref t) H')->tw σ H R)(hl:∀H',bh H H'->∀R:VK,R (.int (g.l:Int)) H'->tl σ H' R)(hr:∀H',bh H H'->∀R:VK,R (.int (g.r:Int)) H'->tr σ H' R)(q:∀t H',bh H H'->WT H' t g->R (.ref t) H'):cP (bo tw (bo tl (bo tr bQ))) σ H R:=by
 refine hw _ λt H1 s1 ht=>hl H1 s1 _ (hr H1 s1 _ ⟨by show 3<=sizeLine;decide,λx hx=>q x _ (s1.trans (.upd hx)) ⟨t,bz,bh.upd hx _ _ ht⟩⟩)
theorem Xc(hb:WL H b d)(n5:WL H b2 e)(dw:d.wf p)(dn:d.c8 64)(dl:d.bb.length<=100)(ds:d.l+d.r<=8)(ew:e.wf p)(en:e.c8 64)(el:e.bb.length<=9)(es:e.l+e.r<=4)(xX:e.l<=d.r)(q:∀σ H',sU p a c m b d.l d.r b2 e.l e.r H σ H'->N σ H'):Bd K E { D with nx:=N } (vm p a c m b d.l d.r b2 e.l e.r f s12 jx jy nZ) H:=by
 unfold Bd;refine fz (M7 rfl rfl rfl xX λk hk=>?_);refine fz (M8 (x:=d.r) (y:=e.l) (k:=k) rfl rfl rfl xX hk ?_);refine fz (M6 (k:=k) (m:=d.r-e.l-k) (d:=e) rfl rfl rfl n5 (by lia) (by lia) λt H1 s1 ht=>?_);have e1:=FJ k e (d.r-e.l-k);have e2:=FK k e (d.r-e.l-k);have w1:=M3 (k:=k) (m:=d.r-e.l-k) ew;have w2:=M4 (B:=64) (k:=k) (m:=d.r-e.l-k) en (by lia);have w3:=M5 (k:=k) (m:=d.r-e.l-k) (d:=e) (by lia) (by lia);generalize mm k e (d.r-e.l-k)=u at *;refine Bg (g:=.bj d u) (λR q'=>M9 rfl rfl (s1 _ _ hb) ht (by lia) q') (λH' _ R q'=>⟨_,rfl,q'⟩) (λH' _ R q'=>⟨_,rfl,_,rfl,_,_,rfl,rfl,_,rfl,_,_,rfl,rfl,?_⟩) λx H2 s2 hx=>?_
 ·have:((D1.Dr.bj d u).r:Int)=(d.r:Int)-e.l+e.r:=by show(u.r:Int)=_;lia
  rw[this]at q';exact q'
 ·refine q _ _ ⟨s1.trans s2,x,.bj d u,_,_,_,_,rfl,hx,⟨dw,w1,by lia⟩,⟨dn,w2,by lia⟩,?_,by show d.l+u.r<=60;lia⟩;show(D1.Wd.w "then"::(d.bb++u.bb)).length<=5000;rw[fj,cL];lia
theorem Xd(hb:WL H b d)(n5:WL H b2 e)(dw:d.wf p)(dn:d.c8 64)(dl:d.bb.length<=100)(ds:d.l+d.r<=8)(ew:e.wf p)(en:e.c8 64)(el:e.bb.length<=9)(es:e.l+e.r<=4)(xX:e.r<=d.l)(q:∀σ H',sU p a c m b d.l d.r b2 e.l e.r H σ H'->N σ H'):Be K E { D with nx:=N } (vm p a c m b d.l d.r b2 e.l e.r f s12 jx jy nZ) H:=by
 unfold Be;refine fz (M7 rfl rfl rfl xX λk hk=>?_);refine fz (M8 (x:=d.l) (y:=e.r) (k:=k) rfl rfl rfl xX hk ?_);refine fz (M6 (k:=k) (m:=d.l-e.r-k) (d:=e) rfl rfl rfl n5 (by lia) (by lia) λt H1 s1 ht=>?_);have e1:=FJ k e (d.l-e.r-k);have e2:=FK k e (d.l-e.r-k);have w1:=M3 (k:=k) (m:=d.l-e.r-k) ew;have w2:=M4 (B:=64) (k:=k) (m:=d.l-e.r-k) en (by lia);have w3:=M5 (k:=k) (m:=d.l-e.r-k) (d:=e) (by lia) (by lia);generalize mm k e (d.l-e.r-k)=u at *;refine Bg (g:=.bj u d) (λR q'=>M9 rfl rfl ht (s1 _ _ hb) (by lia) q') (λH' _ R q'=>⟨_,rfl,_,rfl,_,_,rfl,rfl,_,rfl,_,_,rfl,rfl,?_⟩) (λH' _ R q'=>⟨_,rfl,q'⟩) λx H2 s2 hx=>?_
 ·have:((D1.Dr.bj u d).l:Int)=(d.l:Int)-e.r+e.l:=by show(u.l:Int)=_;lia
  rw[this]at q';exact q'
 ·refine q _ _ ⟨s1.trans s2,x,.bj u d,_,_,_,_,rfl,hx,⟨w1,dw,by lia⟩,⟨w2,dn,by lia⟩,?_,by show u.l+d.r<=60;lia⟩;show(D1.Wd.w "then"::(u.bb++d.bb)).length<=5000;rw[fj,cL];lia
theorem Xe(hb:WL H b d)(dw:d.wf p)(dn:d.c8 64)(dl:d.bb.length<=100)(ds:d.l+d.r<=8)(q:∀σ H',sU p a c m b d.l d.r b2 e.l e.r H σ H'->N σ H'):Bf { D with nx:=N } (vm p a c m b d.l d.r b2 e.l e.r f s12 jx jy nZ) H:=by
 have z:(10000:Nat)<=sizeLine:=by decide
 unfold Bf;refine Bg (g:=.back d) (λR q'=>?_) (λH' _ R q'=>⟨_,rfl,q'⟩) (λH' _ R q'=>⟨_,rfl,q'⟩) λx H2 s2 hx=>?_
 ·refine⟨by show 1<=sizeLine;lia,λt1 h1=>⟨_,rfl,t1,b,_,_,rfl,rfl,bz,bh.upd h1 _ _ hb,by rw[cB];show 1+_<=sizeLine;lia,λt2 h2=>q' t2 _ ((bh.upd h1).trans (.upd h2)) bz⟩⟩
 ·exact q _ _ ⟨s2,x,.back d,_,_,_,_,rfl,hx,dw,dn,by show d.bb.length+1<=5000;lia,by show d.r+d.l<=60;lia⟩
end
theorem Na{te:TE}{g:TG}{u:TS}{D:Ends}(h:te σ H λx H1=>g x σ H1 (u D)):cu (cR te g) u D σ H:=h
theorem FL{c:TT}{t u:TS}{D:Ends}(d:Bool)(h:∀R:Bool->Hp->Prop,R d H->c σ H R)(ht:d=true->t D σ H)(hf:d=false->u D σ H):cU c t u D σ H:=by
 refine h _ ?_;cases d with
 |true=>exact eE (ht rfl)
 |false=>exact dE (hf rfl)
theorem Nb{c e:TT}{R:Bool->Hp->Prop}{d k:Bool}(h:∀R:Bool->Hp->Prop,R d H->c σ H R)(h':∀R:Bool->Hp->Prop,R k H->e σ H R)(r:R (d&&k) H):eh c e σ H R:=by
 refine h _ ?_;cases d with
 |true=>exact eE (h' _ r)
 |false=>exact dE r
def xY(K:Frag)(j:Int):TE:=bw (gJ K) (br 15) (tC (.int j))
def Bh(K:Frag):TS:=cu (cR (cP (bo (br 4) (bo (br 7) bQ))) (bY 15)) (cu (cU (eM (bw lz (bw (rI (λ_ j=>0<j) λi j=>.int (i%j)) (bw (rI se λi j=>.int (i/j)) (br 2) (tC (.int 11))) (tC (.int 2))) (tC (.int 1)))) (r6 (uX K "list" Ll (br 15))) eA) (cR (cP (bo (bw eB (bw eB (n4 "beside") (xY K 0)) (xY K 1)) (bo (bw (dZ λi j=>.int (i+j)) (br 5) (br 8)) (bo (bw (dZ λi j=>.int (i+j)) (br 6) (br 9)) bQ)))) (bY 11)))
section
variable{K:Frag}{E:XK}{p c:Int}{a b b2 f:Addr}{m:Nat}{d e:D1.Dr}{s12 jx jy nZ:Option V}{H:Hp}{D:Ends}{H':Hp}
theorem Xf{x:String}{ti tj:TE}{e:D1.Dr}(hi:∀H',bh H H'->∀R:VK,R (.ref u) H'->ti σ H' R)(hj:∀H',bh H H'->∀R:VK,R (.ref v) H'->tj σ H' R)(hu:WL H u d)(hv:WL H v e)(hl:d.bb.length+e.bb.length<=9000)(q:∀t H',bh H H'->H' t=some (.lst ((D1.Wd.w x::(d.bb++e.bb)).map dO))->R (.ref t) H'):bw eB (bw eB (n4 x) ti) tj σ H R:=by
 have z:(10000:Nat)<=sizeLine:=by decide
 refine⟨by show 1<=sizeLine;lia,λt1 h1=>hi _ (.upd h1) _ ⟨t1,u,_,_,rfl,rfl,bz,bh.upd h1 _ _ hu,by rw[cB];show 1+_<=sizeLine;lia,λt2 h2=>hj _ ((bh.upd h1).trans (.upd h2)) _ ⟨t2,v,_,_,rfl,rfl,bz,bh.upd h2 _ _ (bh.upd h1 _ _ hv),by rw[cL,cB,cB];show 1+_+_<=sizeLine;lia,λt3 h3=>?_⟩⟩⟩;refine q t3 _ ((bh.upd h1).trans ((bh.upd h2).trans (.upd h3))) ?_;rw[bz,ee,ig];rfl
theorem Nc{g h:D1.Dr}{ls:Addr}(hu:WL H u g)(hv:WL H v h)(gl:H ls=some (.lst [.ref u,.ref v]))(gw:g.wf p)(gn:g.c8 64)(ael:g.bb.length<=100)(gs:g.l+g.r<=8)(hw:h.wf p)(hn:h.c8 64)(cT:h.bb.length<=100)(hs:h.l+h.r<=8)(el:g.l+h.l=d.l+e.l)(er:g.r+h.r=d.r+e.r)(q:∀σ H',sU p a c m b d.l d.r b2 e.l e.r H σ H'->N σ H'):cR (cP (bo (bw eB (bw eB (n4 "beside") (xY K 0)) (xY K 1)) (bo (bw (dZ λi j=>.int (i+j)) (br 5) (br 8)) (bo (bw (dZ λi j=>.int (i+j)) (br 6) (br 9)) bQ)))) (bY 11) { D with nx:=N } (vm p a c m b d.l d.r b2 e.l e.r f s12 jx jy (some (.ref ls))) H:=by
 refine Bg (g:=.bt g h) (λR q'=>Xf (u:=u) (v:=v) (λH' s R FN=>⟨_,rfl,ls,_,0,_,rfl,rfl,.of (s _ _ gl),cc (j:=0) rfl,FN⟩) (λH' s R FN=>⟨_,rfl,ls,_,1,_,rfl,rfl,.of (s _ _ gl),cc (j:=1) rfl,FN⟩) hu hv (by lia) q') (λH' _ R q'=>⟨_,rfl,_,rfl,_,_,rfl,rfl,?_⟩) (λH' _ R q'=>⟨_,rfl,_,rfl,_,_,rfl,rfl,?_⟩) λx H2 s2 hx=>?_
 ·have:((D1.Dr.bt g h).l:Int)=(d.l:Int)+e.l:=by show((g.l+h.l:Nat):Int)=_;lia
  rw[this]at q';exact q'
 ·have:((D1.Dr.bt g h).r:Int)=(d.r:Int)+e.r:=by show((g.r+h.r:Nat):Int)=_;lia
  rw[this]at q';exact q'
 ·refine q _ _ ⟨s2,x,.bt g h,_,_,_,_,rfl,hx,⟨gw,hw⟩,⟨gn,hn,by lia⟩,?_,by show g.l+h.l+(g.r+h.r)<=60;lia⟩;show(D1.Wd.w "beside"::(g.bb++h.bb)).length<=5000;rw[fj,cL];lia
theorem Xg(hb:WL H b d)(n5:WL H b2 e)(dw:d.wf p)(dn:d.c8 64)(dl:d.bb.length<=100)(ds:d.l+d.r<=8)(ew:e.wf p)(en:e.c8 64)(el:e.bb.length<=9)(es:e.l+e.r<=4)(q:∀σ H',sU p a c m b d.l d.r b2 e.l e.r H σ H'->N σ H'):Bh K { D with nx:=N } (vm p a c m b d.l d.r b2 e.l e.r f s12 jx jy nZ) H:=by
 unfold Bh;refine fz ⟨_,rfl,_,rfl,by show 2<=sizeLine;decide,λls kz=>?_⟩;have nb:b≠ls:=λz=>by rw[<- z]at kz;unfold WL at hb;rw[kz]at hb;cases hb
 have nb2:b2≠ls:=λz=>by rw[<- z]at kz;unfold WL at n5;rw[kz]at n5;cases n5
 refine MR (c/11%2==1) (λR r=>⟨_,rfl,c,11,rfl,rfl,⟨by decide,by decide⟩,c/11,2,rfl,rfl,(by decide:(0:Int)<2),rfl,_,rfl,by rw[DT];exact r⟩) (λ_=>?_) λ_=>?_
 ·refine⟨_,rfl,.inl ⟨rfl,_,.of bz⟩,ls,_,rfl,rfl,bz,?_⟩;rw[zJ];exact Nc (g:=e) (h:=d) (u:=b2) (v:=b) (bh.upd kz _ _ n5) (bh.upd kz _ _ hb) bz ew en (by lia) (by lia) dw dn dl ds (by lia) (by lia) λσ H' j=>q σ H' ⟨(bh.upd kz).trans j.1,j.2⟩
 ·exact Nc (g:=d) (h:=e) (u:=b) (v:=b2) (bh.upd kz _ _ hb) (bh.upd kz _ _ n5) bz dw dn dl ds ew en (by lia) (by lia) rfl rfl λσ H' j=>q σ H' ⟨(bh.upd kz).trans j.1,j.2⟩
def Bi(K:Frag)(j:Int):TE:=bw (gJ K) (br 11) (tC (.int j))
def Xh(K:Frag):List V->Hp->VK->Prop:=λxs H Q=>∃p ys,xs=[.ref p]/\(dC K H p ys\/cg K H p ys)/\Q (.int ys.length) H
def Bj(K:Frag):TS:=cu (cU (DA (eM (bw (dZ λi j=>.bl (decide (j<i))) (lA (Xh K) (bo (Bi K 0) bQ)) (br 3))) (DA (eM (bw (dZ λi j=>.bl (decide (j<i))) (Bi K 1) (tC (.int 4)))) (eM (bw (dZ λi j=>.bl (decide (j<i))) (Bi K 2) (tC (.int 4)))))) (dG (br 1)) eA) (dG (br 11))
theorem Xi(hJ:sU p a c m b d.l d.r b2 e.l e.r H σ H')(ha:WT H a d)(q1:∀H',bh H H'->WT H' a d->D.rt (.ref a) H')(q2:∀f g H',bh H H'->WT H' f g->g.wf p->g.c8 64->g.bb.length<=m->g.l+g.r<=8->D.rt (.ref f) H'):Bj K D σ H':=by
 obtain⟨sm,f,g,s12,jx,jy,nZ,rfl,hf,w1,w2,w3,w4⟩:=hJ;obtain⟨t,gf,gt⟩:=hf;unfold Bj;refine MR (decide ((m:Int)<(g.bb.length:Int))||(decide (4<(g.l:Int))||decide (4<(g.r:Int)))) (λR r=>?_) (λ_=>?_) λz=>?_
 ·refine⟨_,rfl,f,_,0,_,rfl,rfl,.of gf,cc (j:=0) rfl,t,_,rfl,.inl (.of gt),_,rfl,_,_,rfl,rfl,_,rfl,?_⟩;rw[cB];cases hd:decide ((m:Int)<(g.bb.length:Int)) with
  |true=>rw[hd]at r;exact eE r
  |false=>
   rw[hd]at r;refine dE ⟨_,rfl,f,_,1,_,rfl,rfl,.of gf,cc (j:=1) rfl,_,_,rfl,rfl,_,rfl,?_⟩;cases oY:decide (4<(g.l:Int)) with
   |true=>rw[oY]at r;exact eE r
   |false=>
    rw[oY]at r;exact dE ⟨_,rfl,f,_,2,_,rfl,rfl,.of gf,cc (j:=2) rfl,_,_,rfl,rfl,_,rfl,r⟩
 ·exact⟨_,rfl,q1 _ sm (ha.mono sm)⟩
 ·rw[Bool.or_eq_false_iff,Bool.or_eq_false_iff,decide_eq_false_iff_not,decide_eq_false_iff_not,decide_eq_false_iff_not]at z;exact⟨_,rfl,q2 f g _ sm ⟨t,gf,gt⟩ w1 w2 (by lia) (by lia)⟩
def FP(K:Frag)(E:XK):TS:=cu (cR (br 1) (xD K 3 (iR (bY 4) (iR (bY 5) (iR (bY 6) qy)))))
 (cu (cR (ij (AV K) [] E (bo (br 0) (bo (bw (rI se λi j=>.int (i/j)) (br 2) (tC (.int 6))) bQ))) (xD K 3 (iR (bY 7) (iR (bY 8) (iR (bY 9) qy))))) (cu (cR (bw (rI (λ_ j=>0<j) λi j=>.int (i%j)) (br 2) (tC (.int 6))) (bY 10)) (cu (cR (br 1) (bY 11)) (cu (cU (eh (eM (bw (dZ λi j=>.bl (decide (i<j))) (br 10) (tC (.int 3)))) (eM (bw (dZ λi j=>.bl (decide (i<=j))) (br 8) (br 6)))) (Bd K E) (cU (eh (eM (bw lz (br 10) (tC (.int 3)))) (eM (bw (dZ λi j=>.bl (decide (i<=j))) (br 9) (br 5)))) (Be K E) (cU (eM (bw lz (br 10) (tC (.int 4)))) Bf (Bh K)))) (Bj K)))))
end
def Nd(_K:Frag):Sp:=λvs H Q _=>∃(p c:Int)(a:Addr)(m M:Nat)(d:D1.Dr),vs=[.int p,.ref a,.int c,.int (m:Int)]/\p∈eZ/\WT H a d/\d.wf p/\d.c8 64/\d.bb.length<=M/\m<=M/\M<=100/\d.l+d.r<=8/\
 ∀f g H',bh H H'->WT H' f g->g.wf p->g.c8 64->g.bb.length<=M->g.l+g.r<=8->Q (.ref f) H'
theorem i5:dD ["p","one","cell","most","words","left","right","box","into","out","way","found","at","wide","row","some"] ["p","one","cell","most"] (cN Fb):=dU rfl rfl rfl (by decide +kernel) rfl
theorem Nf{fS fB:Addr}{n6 xZ:FuncData}(F:c9 K "_law_more" "_law_more" Fb f fd)(T:Txt mg)
  (GS:ck P w K mg base cA 2 fS n6 ["p","cell"] (AV K)) (kS:Kp K fS) (bS:Binds K n6 ["p","cell"] []) (mS:Mg mg "_law_some_box" fS)
  (GB:ck P w K mg base cA 1 fB xZ ["parts"] (sT K)) (kB:Kp K fB) (bB:Binds K xZ ["parts"] []) (mB:Mg mg "_law_beside_all" fB) :
  ck P w K mg base cA 3 f fd ["p","one","cell","most"] (Nd K):=by
 refine F.ok i5 (λvs H Q E h=>?_) (λcI A outer s H vs Q E hr h=>?_)
 ·obtain⟨p,c,a,m,M,d,rfl,_⟩:=h;rfl
 ·obtain⟨p,c,a,m,M,d,rfl,pp,ha,dw,dn,dm,mM,hm,ds,q⟩:=h;refine⟨FP K E,?_,?_⟩
  ·unfold FP;refine bD ?_ ?_
   ·exact uJ (pv 1) (EC rfl (lr (eL (i:=4) i5.nd rfl (.inl rfl)) (lr (eL (i:=5) i5.nd rfl (.inl rfl)) (lr (eL (i:=6) i5.nd rfl (.inl rfl)) wR))))
   refine bD ?_ ?_
   ·exact uJ (cZ GS hr rfl mS kS bS .nil cX (bg (pv 0) (bg (bH gE (pv 2) bp) bq))) (EC rfl (lr (eL (i:=7) i5.nd rfl (.inl rfl)) (lr (eL (i:=8) i5.nd rfl (.inl rfl)) (lr (eL (i:=9) i5.nd rfl (.inl rfl)) wR))))
   refine bD ?_ ?_
   ·exact cx (i:=10) i5.nd rfl (.inl rfl) (bH eI (pv 2) bp)
   refine bD ?_ ?_
   ·exact cx (i:=11) i5.nd rfl (.inl rfl) (pv 1)
   refine bD ?_ ?_
   ·refine cO ?_ ?_ ?_
    ·exact PW.pt (fQ (cj DU (pv 10) bp (cm _)) (iB (cj KR (pv 8) (pv 6) (cm _))))
    ·unfold Bd xV xW vk xU n4;refine bD ?_ ?_
     ·exact cx (i:=12) i5.nd rfl (.inl rfl) (bH eI (bH gE (pv 2) bp) (bH gC (bH jZ (pv 6) (pv 8)) bp))
     refine bD ?_ ?_
     ·exact cx (i:=13) i5.nd rfl (.inl rfl) (bH jZ (bH jZ (pv 6) (pv 8)) (pv 12))
     refine bD ?_ ?_
     ·exact cx (i:=14) i5.nd rfl (.inl rfl) (cZ GB (hr.mono (by lia)) rfl mB kB bB .nil cX (bg (bH eD (bH eD (bH xo (cK (bg (cK (bg bI bq)) bq)) (pv 12)) (cK (bg (pv 7) bq))) (bH xo (cK (bg (cK (bg bI bq)) bq)) (pv 13))) bq))
     ·refine bK ?_;exact cx (i:=11) i5.nd rfl (.inl rfl) (cK (bg (bH eD (bH eD (cK (bg bI bq)) (pv 4)) (pv 14)) (bg (pv 5) (bg (bH gC (bH jZ (pv 6) (pv 8)) (pv 9)) bq))))
    ·refine bK ?_;refine cO ?_ ?_ ?_
     ·exact PW.pt (fQ (cj cS (pv 10) bp (cm _)) (iB (cj KR (pv 9) (pv 5) (cm _))))
     ·unfold Be xV xW vk xU n4;refine bD ?_ ?_
      ·exact cx (i:=12) i5.nd rfl (.inl rfl) (bH eI (bH gE (pv 2) bp) (bH gC (bH jZ (pv 5) (pv 9)) bp))
      refine bD ?_ ?_
      ·exact cx (i:=13) i5.nd rfl (.inl rfl) (bH jZ (bH jZ (pv 5) (pv 9)) (pv 12))
      refine bD ?_ ?_
      ·exact cx (i:=14) i5.nd rfl (.inl rfl) (cZ GB (hr.mono (by lia)) rfl mB kB bB .nil cX (bg (bH eD (bH eD (bH xo (cK (bg (cK (bg bI bq)) bq)) (pv 12)) (cK (bg (pv 7) bq))) (bH xo (cK (bg (cK (bg bI bq)) bq)) (pv 13))) bq))
      ·refine bK ?_;exact cx (i:=11) i5.nd rfl (.inl rfl) (cK (bg (bH eD (bH eD (cK (bg bI bq)) (pv 14)) (pv 4)) (bg (bH gC (bH jZ (pv 5) (pv 9)) (pv 8)) (bg (pv 6) bq))))
     ·refine bK ?_;refine cO ?_ ?_ ?_
      ·exact cj cS (pv 10) bp (cm _)
      ·unfold Bf n4;refine bK ?_;exact cx (i:=11) i5.nd rfl (.inl rfl) (cK (bg (bH eD (cK (bg bI bq)) (pv 4)) (bg (pv 6) (bg (pv 5) bq))))
      ·unfold Bh xY n4;refine bD ?_ ?_
       ·exact cx (i:=15) i5.nd rfl (.inl rfl) (cK (bg (pv 4) (bg (pv 7) bq)))
       refine bD ?_ ?_
       ·refine cO ?_ ?_ cW
        ·exact cj cS (bH eI (bH gE (pv 2) bp) bp) bp (cm _)
        ·refine bK ?_;exact l7 (Ah ll PySem.F.slot_list_reverse PySem.F.type_list_reverse UU (pv 15))
       ·refine bK ?_;exact cx (i:=11) i5.nd rfl (.inl rfl) (cK (bg (bH eD (bH eD (cK (bg bI bq)) (bO (de K rfl) (pv 15) bp)) (bO (de K rfl) (pv 15) bp)) (bg (bH gC (pv 5) (pv 8)) (bg (bH gC (pv 6) (pv 9)) bq))))
   ·unfold Bj Bi;refine bD ?_ ?_
    ·refine cO ?_ ?_ cW
     ·exact PW.pt (wQ (cj uM (gu (ko K rfl) rfl T.len j3 (bg (bO (de K rfl) (pv 11) bp) bq)) (pv 3) (cm _)) (wQ (cj uM (bO (de K rfl) (pv 11) bp) bp (cm _)) (DB (cj uM (bO (de K rfl) (pv 11) bp) bp (cm _)))))
     ·exact bK (cE (pv 1))
    ·exact bK (cE (pv 11))
  unfold FP;obtain⟨b,ga,gb⟩:=ha;refine Na ⟨_,rfl,Fv (.of ga) ?_⟩;refine Na ⟨_,rfl,_,rfl,c,6,rfl,rfl,⟨by decide,by decide⟩,p,c/6,rfl,pp,λa2 e H1 s1 he ew en el es=>?_⟩;obtain⟨b2,Xj,FQ⟩:=he;refine Fv (.of Xj) ?_;refine fz ⟨_,rfl,c,6,rfl,rfl,(by decide:(0:Int)<6),?_⟩;refine fz ⟨_,rfl,?_⟩;have x5:=s1 _ _ gb;have FR:WT H1 a d:=⟨b,s1 _ _ ga,x5⟩;refine WG (sU p a c m b d.l d.r b2 e.l e.r H1) (λN hN=>?_) (λσ H' hJ=>Xi hJ FR (λH' s' h'=>q a d H' (s1.trans s') h' dw dn dm ds) (λf g H' s' h' w1 w2 w3 w4=>q f g H' (s1.trans s') h' w1 w2 (dj w3 mM) w4));refine FL (decide (c%6<3)&&decide ((e.l:Int)<=d.r)) (λR r=>Nb (λR r=>⟨_,rfl,_,_,rfl,rfl,_,rfl,r⟩) (λR r=>⟨_,rfl,_,rfl,_,_,rfl,rfl,_,rfl,r⟩) r) (λz=>?_) λ_=>?_
  ·rw[dq,decide_eq_true_iff,decide_eq_true_iff]at z;exact Xc x5 FQ dw dn (by lia) ds ew en el es (by lia) hN
  refine FL (decide (V.int (c%6)=V.int 3)&&decide ((e.r:Int)<=d.l)) (λR r=>Nb (λR r=>⟨_,rfl,rfl,_,rfl,r⟩) (λR r=>⟨_,rfl,_,rfl,_,_,rfl,rfl,_,rfl,r⟩) r) (λz=>?_) λ_=>?_
  ·rw[dq,decide_eq_true_iff,decide_eq_true_iff]at z;exact Xd x5 FQ dw dn (by lia) ds ew en el es (by lia) hN
  refine FL (decide (V.int (c%6)=V.int 4)) (λR r=>⟨_,rfl,rfl,_,rfl,r⟩) (λz=>?_) λ_=>?_
  ·exact Xe x5 dw dn (by lia) ds hN
  ·have cT:d.bb.length<=100:=by lia
   exact Xg (K:=K) (p:=p) (c:=c) (a:=a) (b:=b) (b2:=b2) (f:=a) (m:=m) (d:=d) (e:=e) (s12:=none) (jx:=none) (jy:=none) (nZ:=none) (H:=H1) (N:=N) x5 FQ dw dn cT ds ew en el es hN
def FT(_K:Frag):Sp:=λvs H Q _=>∃(p:Int)(a:Addr)(m:Nat)(ns:List Int),vs=[.int p,.ref a,.int (m:Int)]/\p∈eZ/\H a=some (.lst (ns.map V.int))/\ns.length<=1000/\m<=100/\
 ∀f g H',bh H H'->WT H' f g->g.wf p->g.c8 64->g.bb.length<=max m 9->g.l+g.r<=8->Q (.ref f) H'
theorem x6:dD ["p","cells","most","one","k"] ["p","cells","most"] (cN Fc):=dU rfl rfl rfl (by decide +kernel) rfl
theorem Ng{fS fM:Addr}{n6 i6:FuncData}(F:c9 K "_law_grown" "_law_grown" Fc f fd)(T:Txt mg)
  (GS:ck P w K mg base cA 2 fS n6 ["p","cell"] (AV K)) (kS:Kp K fS) (bS:Binds K n6 ["p","cell"] []) (mS:Mg mg "_law_some_box" fS)
  (GM:ck P w K mg base cA 3 fM i6 ["p","one","cell","most"] (Nd K)) (kM:Kp K fM) (bM:Binds K i6 ["p","one","cell","most"] []) (mM:Mg mg "_law_more" fM) :
  ck P w K mg base cA 4 f fd ["p","cells","most"] (FT K):=by
 refine F.ok x6 (λvs H Q E h=>?_) (λcI A outer s H vs Q E hr h=>?_)
 ·obtain⟨p,a,m,ns,rfl,_⟩:=h;rfl
 ·obtain⟨p,a,m,ns,rfl,pp,ga,hl,aem,q⟩:=h;have lI:dS 2 _:=hr.mono (by lia);have z:(10000:Nat)<=sizeLine:=by decide
  refine⟨_,bD (cx (i:=3) x6.nd rfl (.inl rfl) (cK (bg (cK (bg bI bq)) (bg bp (bg bp bq))))) (bD (lx lq rfl (qA rfl T.range (bg (gu (ko K rfl) rfl T.len j3 (bg (pv 1) bq)) bq)) (eL (i:=4) x6.nd rfl (.inl rfl)) (bK (cO (cj cS (pv 4) bp (cm _)) (bK (cx (i:=3) x6.nd rfl (.inl rfl) (cZ GS lI rfl mS kS bS .nil cX (bg (pv 0) (bg (bO (de K rfl) (pv 1) bp) bq))))) (bK (cx (i:=3) x6.nd rfl (.inl rfl) (cZ GM hr rfl mM kM bM .nil cX (bg (pv 0) (bg (pv 3) (bg (bO (de K rfl) (pv 1) (pv 4)) (bg (pv 2) bq)))))))))) (bK (cE (pv 3)))),?_⟩;refine⟨by show 1<=sizeLine;lia,λl0 h0=>⟨by show 3<=sizeLine;lia,λl1 h1=>?_⟩⟩;have Nh:WT (upd (upd H l0 (.lst [.str (Str.ofString "id")])) l1 (.lst [.ref l0,.int 1,.int 1])) l1 .id:=⟨l0,bz,bh.upd h1 _ _ bz⟩;have s0:bh H (upd (upd H l0 (.lst [.str (Str.ofString "id")])) l1 (.lst [.ref l0,.int 1,.int 1])):=(bh.upd h0).trans (.upd h1);generalize upd (upd H l0 (.lst [.str (Str.ofString "id")])) l1 (.lst [.ref l0,.int 1,.int 1])=H0 at s0 Nh |-;have eN:(ns.map V.int).length=ns.length:=cB _;refine⟨_,rfl,a,_,rfl,.inl (.of (s0 _ _ ga)),_,rfl,by lia,by lia,w6 (n:=(ns.map V.int).length) (λ_ σ H'=>bh H H'/\∃f g s4,σ=[some (.int p),some (.ref a),some (.int (m:Int)),some (.ref f),s4]/\WT H' f g/\g.wf p/\g.c8 64/\g.bb.length<=max m 9/\g.l+g.r<=8) ⟨s0,l1,.id,none,rfl,Nh,True.intro,True.intro,by show 1<=max m 9;lia,by decide⟩ ?_ ?_⟩
  ·rintro k σ H1 hk ⟨sm,f,g,s4,rfl,hf,g1,g2,g3,g4⟩;rw[eN]at hk;rw[Int.zero_add];dsimp only[bY];refine⟨_,rfl,rfl,_,rfl,?_⟩;obtain⟨c,hc⟩:∃c,ns[k]?=some c:=⟨_,gk hk⟩;split
   ·rename_i z
    have e:(k:Int)=0:=V.int.inj (aM z);have e0:k=0:=by lia
    subst e0;refine⟨_,rfl,_,rfl,a,_,0,.int c,rfl,rfl,.of (sm _ _ ga),cc (j:=0) (by rw[fw,hc];rfl),p,c,rfl,pp,λf' g' H2 s2 vb w1 w2 w3 w4=>?_⟩;exact⟨sm.trans s2,f',g',_,rfl,vb,w1,w2,by lia,by lia⟩
   ·refine⟨_,rfl,_,rfl,_,rfl,_,rfl,a,_,(k:Int),.int c,rfl,rfl,.of (sm _ _ ga),cc (j:=k) (by rw[fw,hc];rfl),_,rfl,p,c,f,m,max m 9,g,rfl,pp,hf,g1,g2,g3,Nat.le_max_left _ _,by lia,g4,λf' g' H2 s2 vb w1 w2 w3 w4=>?_⟩;exact⟨sm.trans s2,f',g',_,rfl,vb,w1,w2,w3,w4⟩
  ·rintro σ H1 ⟨sm,f,g,s4,rfl,hf,g1,g2,g3,g4⟩;exact⟨_,rfl,q f g H1 sm hf g1 g2 g3 g4⟩
end S21
namespace L2
open PySem PySem.Spec PyProof.Rows PySem.Builtin PySem.Builtin.Str
section
variable{X:Cx}
theorem Ni:∀l:List (Str×Tok),Vals ((l.map (·.1)).map V.str) (strValues l)
 | []=>.nil
 |(_,t)::l=>.cons ⟨t,rfl⟩ (Ni l)
theorem Xk{prog:Program}{w:World}{A:Around}{E:QV}{s:Shared}{x y:Str}{t u:Tok}{Q:QV}(c0:(y.length==0)=false)(cz:x.length+2<=sizeLine)
  (q:∀l k,l.map (·.1)=Txt.split x y->Q (.ref s.heap.objs.size) { s with heap:=s.heap.push { cls:=.type "list",data:=.seq (strValues l).toArray },toks:=k }) :
  wpAny (model prog w) A (call (.builtin "str.split") [Value.str x t,Value.str y u]) Q E s:=by
 have cl:=StrLaws.occ_length_le x y 0 x.length (x.length+1);have cn:(Builtin.Str.partsBetween x (Builtin.Str.occurrences x y 0 x.length (x.length+1)) y.length).length<=sizeLine:=by
  rw[length_partsBetween];lia
 cases c1:(decide (x.length<y.length)||decide (Builtin.Str.strKind x<Builtin.Str.strKind y)) with
 |true=>exact call_meets F.slot_str_split (typeIs_str _ _ _) F.entry_str_split (F.args_str_split_2 _ _) (meets_str_split_cannot_occur x y t u c1) (q [(x,t)] s.toks (ae c1).symm)
 |false=>
  have e1:Txt.split x y=_:=af (ne_true_of_eq_false c1);cases c2:(Builtin.Str.occurrences x y 0 x.length (x.length+1)).isEmpty with
  |true=>exact call_meets F.slot_str_split (typeIs_str _ _ _) F.entry_str_split (F.args_str_split_2 _ _) (meets_str_split_not_found x y t u c1 c0 c2) (q [(x,t)] s.toks (e1.trans (ae c2)).symm)
  |false=>
   refine call_meets F.slot_str_split (typeIs_str _ _ _) F.entry_str_split (F.args_str_split_2 _ _) (meets_str_split_sep x y t u c1 c0 c2 (by lia) cn) ?_;have e2:=numbered_texts s.toks (Builtin.Str.partsBetween x (Builtin.Str.occurrences x y 0 x.length (x.length+1)) y.length);show wants Q E _ { s with toks:=_,heap:=s.heap.push { cls:=.type "list",data:=.seq (strsFrom s.toks (Builtin.Str.partsBetween x (Builtin.Str.occurrences x y 0 x.length (x.length+1)) y.length)).toArray } };rw[strsFrom_eq];exact q (numbered s.toks _) _ (e2.trans (e1.trans (af (ne_true_of_eq_false c2))).symm)
theorem x8:Ag X "str.split" (λx xs H Q=>∃z j6,x=.str z/\xs=[.str j6]/\(j6.length==0)=false/\z.length+2<=sizeLine/\(Txt.split z j6).length<=sizeLine/\∀l,H l=none->Q (.ref l) (upd H l (.lst ((Txt.split z j6).map V.str)))):=by
 intro bc s σ H x xs v us Q I rx rs h;obtain⟨z,j6,rfl,rfl,hs,hz,hl,q⟩:=h;obtain⟨t,rfl⟩:=rx;obtain⟨u,rfl,tu,rfl⟩:=Vals.one rs;refine Xk hs hz λl k e=>?_;have I1:Inv X bc σ (upd H s.heap.objs.size (.lst ((Txt.split z j6).map V.str))) { s with heap:=s.heap.push { cls:=.type "list",data:=.seq (strValues l).toArray },toks:=k }:=by
  refine I.laid (λb o e=>dJ _ e) (cF _) ?_;rw[<- e]at hl |-;exact⟨by rw[cB];exact hl,strValues l,0,Ni l,gT _ rfl⟩
 exact⟨.ref s.heap.objs.size,_,I1,rfl,q _ (I.bZ.fresh (cF _))⟩
theorem Xl:eW X (.type "str") (λxs H Q=>∃x,xs=[.str x]/\Q (.str x) H):=by
 intro bc s σ H xs us Q I r h;obtain⟨x,rfl,q⟩:=h;obtain⟨u,rfl,t,rfl⟩:=vals1 r;exact PySem.P.str_of_str ⟨.str x,H,I,⟨t,rfl⟩,q⟩
theorem Xm:eW X (.type "str") (λxs H Q=>(∃x,xs=[.str x]/\Q (.str x) H)\/(∃i,xs=[.int i]/\i.natAbs.log2<1920/\Q (.str (toString i)) H)):=Xl.or Uh
end
section
variable{prog:Program}{w:World}{A:Around}{E:QV}{s:Shared}{a:Addr}{D:List (Str×V)}{n:Int}{tk:Tok}
end
section
variable{X:Cx}{o i e f:Expr}{pos gX dW:Pos}{td ty tx:TE}{a:Addr}{D:List (Str×V)}
end
end L2
namespace S21
open PySem L2 Bw
abbrev i4:=Str×Int×Int
variable{D:Ends}{H:Hp}{R:VK}{c p:Int}{ta:TA}{ts:List i4}{vs:List V}{σ:St}
abbrev g6:R2:=rI (λ_ j=>0<j) λi j=>.int (i%j)
abbrev ji:R2:=rI se λi j=>.int (i/j)
abbrev tS(x:String):TE:=tC (.str (Str.ofString x))
def FU(x:String)(l r:Int):TE:=eX (bo (tS x) (bo (tC (.int l)) (bo (tC (.int r)) bQ)))
def tQ(q:i4):TE:=eX (bo (tC (.str q.1)) (bo (tC (.int q.2.1)) (bo (tC (.int q.2.2)) bQ)))
def pk:List i4->TA
 | []=>bQ
 |q::ts=>bo (tQ q) (pk ts)
noncomputable def Bk:List Expr->Option (List i4)
 | []=>some []
 | .Tuple [.Constant (.str x) _ _,.Constant (.int l) _ _,.Constant (.int r) _ _] _ _::es=>(Bk es).map ((x,l,r)::·)
 |_=>none
theorem qO{X:Cx}:∀(es:List Expr)(ts:List i4),Bk es=some ts->PA X es (pk ts)
 | [],ts,h=>by cases h;exact bq
 |e::es,ts,h=>by
  unfold Bk at h;split at h
  case h_1=>rename_i z;cases z
  case h_2 x _ _ l _ _ r _ _ _ _ es' z=>
   cases z;cases e:Bk es with
   |none=>rw[e]at h;cases h
   |some ys=>
    rw[e]at h;cases h;exact bg (dh (bg bI (bg bp (bg bp bq)))) (qO es ys e)
  case h_3=>cases h
def jP(K:Frag)(H:Hp)(vs:List V)(ts:List i4):Prop:=vs.length=ts.length/\∀(i:Nat)(v:V)(q:i4),vs[i]?=some v->ts[i]?=some q->∃t,v=.ref t/\cg K H t [.str q.1,.int q.2.1,.int q.2.2]
def sV(K:Frag)(H:Hp)(l:Addr)(ts:List i4):Prop:=∃vs,H l=some (.lst vs)/\jP K H vs ts
def x9(K:Frag)(ta:TA)(σ:St)(H:Hp)(ts:List i4):Prop:=∀H',bh H H'->∀Q:List V->Hp->Prop,(∀vs dY,bh H' dY->jP K dY vs ts->Q vs dY)->ta σ H' Q
theorem Nj{te:TE}(h:te σ H D.rt):dG te D σ H:=h
theorem n8{r:R2}{ta tb:TE}(h:ta σ H λx H1=>tb σ H1 λy H2=>r x y H2 R):bw r ta tb σ H R:=h
theorem lstK(h:ta σ H λxs H1=>xs.length<=sizeLine/\∀p,H1 p=none->R (.ref p) (upd H1 p (.lst xs))):cP ta σ H R:=h
theorem sX{α:Type}{xs:List α}{n:Nat}(hl:xs.length=n)(hn:0<n)(c:Int):∃(i:Nat)(x:α),xs[i]?=some x/\(c%(n:Int))=(i:Int):=by
 have h1:=nN c (show(n:Int)≠0 by lia);have h2:=nO c (show(0:Int)<n by lia);have h3:(c%(n:Int)).toNat<xs.length:=by lia
 exact⟨(c%(n:Int)).toNat,xs[(c%(n:Int)).toNat],gk h3,by lia⟩
section
variable{K:Frag}{σ:St}{H:Hp}
theorem jP.mono{H':Hp}(h:jP K H vs ts)(s:bh H H'):jP K H' vs ts:=⟨h.1,λi v q e1 e2=>let ⟨t,e,g⟩:=h.2 i v q e1 e2;⟨t,e,s.cV g⟩⟩
theorem jP.tup{H':Hp}(h:jP K H vs ts)(s:df H H'):jP K H' vs ts:=⟨h.1,λi v q e1 e2=>let ⟨t,e,g⟩:=h.2 i v q e1 e2;⟨t,e,s.cV g⟩⟩
theorem jP.app{zs ys:List V}{bf ya:List i4}(h:jP K H zs bf)(k:jP K H ys ya):jP K H (zs++ys) (bf++ya):=by
 refine⟨by rw[cL,cL,h.1,k.1],λi x q e1 e2=>?_⟩;by_cases hi:i<zs.length
 ·rw[lg hi]at e1;rw[lg (by rw[<- h.1];exact hi)]at e2;exact h.2 i x q e1 e2
 ·rw[kZ (by lia)]at e1;rw[kZ (by rw[<- h.1];lia),<- h.1]at e2;exact k.2 _ x q e1 e2
theorem jP.one{t:Addr}{q:i4}(g:cg K H t [.str q.1,.int q.2.1,.int q.2.2]):jP K H [.ref t] [q]:=⟨rfl,λi v r e1 e2=>by
 cases i with
 |zero=>cases e1;cases e2;exact⟨t,rfl,g⟩
 |succ i=>cases e1⟩
theorem Xn:x9 K bQ σ H []:=λH' _ _ q=>q [] H' (.refl _) ⟨rfl,λi v q e=>by cases e⟩
theorem qP:∀ts:List i4,x9 K (pk ts) σ H ts
 | []=>Xn
 |(x,l,r)::ts=>λH' s Q q=>⟨by show 3<=sizeLine;decide,λt ht=>qP ts _ (s.trans (.upd ht)) _ λvs H2 s2 hv=>q _ H2 ((bh.upd ht).trans s2) (jP.app (jP.one (q:=(x,l,r)) (s2.cV (.of bz))) hv)⟩
theorem Xo{l:Addr}{us:List i4}(h1:σ[1]?=some (some (.ref l)))(g:sV K H l ts)(hn:ts.length+us.length<=50)(e:x9 K ta σ H us)(q:∀l' H',bh H H'->sV K H' l' (ts++us)->R (.ref l') H'):bw eB (br 1) (cP ta) σ H R:=by
 obtain⟨zs,gl,hz⟩:=g;refine n8 ⟨_,h1,lstK (e H (.refl _) _ λvs H1 s1 hv=>⟨by rw[hv.1];exact dj (dj (Nat.le_add_left _ _) hn) (by decide),λb hb=>?_⟩)⟩;refine⟨l,b,zs,vs,rfl,rfl,bh.upd hb _ _ (s1 _ _ gl),bz,by rw[hz.1,hv.1];exact dj hn (by decide),λc hc=>?_⟩;have sc:=(s1.trans (bh.upd hb (o:=.lst vs))).trans (bh.upd hc (o:=.lst (zs++vs)));exact q c _ sc ⟨zs++vs,bz,(hz.mono sc).app (hv.mono ((bh.upd hb).trans (.upd hc)))⟩
theorem yd{u:TS}{l:Addr}{us:List i4}(h1:σ[1]?=some (some (.ref l)))(g:sV K H l ts)(hn:ts.length+us.length<=50)(e:x9 K ta σ H us)
  (q:∀l' H',bh H H'->H l'=none->sV K H' l' (ts++us)->u D (σ.set 1 (some (.ref l'))) H'):cu (cR (bw eB (br 1) (cP ta)) (bY 1)) u D σ H:=by
 obtain⟨zs,gl,hz⟩:=g;refine fz (n8 ⟨_,h1,lstK (e H (.refl _) _ λvs H1 s1 hv=>⟨by rw[hv.1];exact dj (dj (Nat.le_add_left _ _) hn) (by decide),λb hb=>?_⟩)⟩);refine⟨l,b,zs,vs,rfl,rfl,bh.upd hb _ _ (s1 _ _ gl),bz,by rw[hz.1,hv.1];exact dj hn (by decide),λc hc=>?_⟩;have sc:=(s1.trans (bh.upd hb (o:=.lst vs))).trans (bh.upd hc (o:=.lst (zs++vs)));exact q c _ sc (ph (s1.trans (bh.upd hb (o:=.lst vs))) hc) ⟨zs++vs,bz,(hz.mono sc).app (hv.mono ((bh.upd hb).trans (.upd hc)))⟩
theorem Xp{x:String}{y z:Int}{u:TS}{l:Addr}{HA:Hp}(h1:σ[1]?=some (some (.ref l)))(g:sV K H l ts)(hn:ts.length<=50)(S:bh HA H)(n0:HA l=none)
  (q:∀H',bh HA H'->sV K H' l (ts++[(Str.ofString x,y,z)])->u D σ H'):cu (r6 (o4 K "list" uZ (br 1) (bo (FU x y z) bQ))) u D σ H:=by
 obtain⟨zs,gl,hz⟩:=g;refine⟨_,h1,.inl ⟨rfl,_,.of gl⟩,by show 3<=sizeLine;decide,λt ht=>?_⟩;have Nk:=bh.upd (o:=.tup [.str (Str.ofString x),.int y,.int z]) ht _ _ gl;refine⟨l,zs,.ref t,rfl,rfl,Nk,by rw[hz.1];exact Nat.lt_of_le_of_lt hn (by decide),?_⟩;refine q _ ((S.trans (.upd ht)).put n0) ⟨zs++[.ref t],bz,?_⟩;exact((hz.mono (.upd ht)).app (jP.one (q:=(Str.ofString x,y,z)) (.of bz))).tup (df.lst Nk)
end
noncomputable def yf:List i4:=[(Str.ofString "then swap swap",2,2),(Str.ofString "then copy beside end id",1,1),(Str.ofString "then copy swap",1,2),(Str.ofString "then copy beside copy id",1,3),(Str.ofString "then beside none id add",1,1),(Str.ofString "then swap add",2,1),(Str.ofString "then add end",2,0),(Str.ofString "then beside add id add",3,1),(Str.ofString "then times k times k",1,1),(Str.ofString "then add copy",2,2),(Str.ofString "then none copy",0,2),(Str.ofString "then none end",0,0),(Str.ofString "then times k copy",1,2),(Str.ofString "back times k",1,1),(Str.ofString "then add times k",2,1),(Str.ofString "back swap",2,2),(Str.ofString "then beside cup id beside id back cup",1,1),(Str.ofString "then copy back copy",1,1),(Str.ofString "back id",1,1),(Str.ofString "back empty",0,0)]
def Bl(K:Frag):TS:=(cu (cR (cP (pk [(Str.ofString "then swap swap",2,2),(Str.ofString "then copy beside end id",1,1),(Str.ofString "then copy swap",1,2)])) (bY 1)) (cu (cR (bw eB (br 1) (cP (pk [(Str.ofString "then copy beside copy id",1,3),(Str.ofString "then beside none id add",1,1)]))) (bY 1)) (cu (cR (bw eB (br 1) (cP (pk [(Str.ofString "then swap add",2,1),(Str.ofString "then add end",2,0)]))) (bY 1)) (cu (cR (bw eB (br 1) (cP (pk [(Str.ofString "then beside add id add",3,1),(Str.ofString "then times k times k",1,1),(Str.ofString "then add copy",2,2)]))) (bY 1)) (cu (cR (bw eB (br 1) (cP (pk [(Str.ofString "then none copy",0,2),(Str.ofString "then none end",0,0),(Str.ofString "then times k copy",1,2)]))) (bY 1)) (cu (cR (bw eB (br 1) (cP (pk [(Str.ofString "back times k",1,1),(Str.ofString "then add times k",2,1),(Str.ofString "back swap",2,2)]))) (bY 1)) (cu (r6 (o4 K "list" uZ (br 1) (bo (FU "then beside cup id beside id back cup" 1 1) bQ))) (dG (bw (gJ K) (bw eB (br 1) (cP (pk [(Str.ofString "then copy back copy",1,1),(Str.ofString "back id",1,1),(Str.ofString "back empty",0,0)]))) (bw g6 (br 0) (tC (.int 20))))))))))))
theorem Xq{K:Frag}(q:∀a t H',bh H H'->t∈yf->cg K H' a [.str t.1,.int t.2.1,.int t.2.2]->D.rt (.ref a) H'):Bl K D [some (.int c),none] H:=by
 unfold Bl;refine fz (lstK (((qP [(Str.ofString "then swap swap",2,2),(Str.ofString "then copy beside end id",1,1),(Str.ofString "then copy swap",1,2)]):x9 K _ [some (.int c),none] H _) H (.refl _) _ λvs H1 s1 hv=>⟨by rw[hv.1];exact(by decide:3<=sizeLine),λl0 h0=>?_⟩));have S:=s1.trans (bh.upd (o:=.lst vs) h0);have g:sV K (upd H1 l0 (.lst vs)) l0 [(Str.ofString "then swap swap",2,2),(Str.ofString "then copy beside end id",1,1),(Str.ofString "then copy swap",1,2)]:=⟨vs,bz,hv.mono (.upd h0)⟩;have n0:=ph s1 h0;clear hv s1;generalize upd H1 l0 (.lst vs)=H0 at S g |-;clear h0;refine yd rfl g (by decide) (qP [(Str.ofString "then copy beside copy id",1,3),(Str.ofString "then beside none id add",1,1)]) λl1 H1 s1 Nl g=>?_;have n0:=ph S Nl;replace S:=S.trans s1;refine yd rfl g (by decide) (qP [(Str.ofString "then swap add",2,1),(Str.ofString "then add end",2,0)]) λl2 H2 s2 xr g=>?_;have n0:=ph S xr;replace S:=S.trans s2;refine yd rfl g (by decide) (qP [(Str.ofString "then beside add id add",3,1),(Str.ofString "then times k times k",1,1),(Str.ofString "then add copy",2,2)]) λl3 H3 s3 Xr g=>?_;have n0:=ph S Xr;replace S:=S.trans s3;refine yd rfl g (by decide) (qP [(Str.ofString "then none copy",0,2),(Str.ofString "then none end",0,0),(Str.ofString "then times k copy",1,2)]) λl4 H4 s4 Xs g=>?_;have n0:=ph S Xs;replace S:=S.trans s4;refine yd rfl g (by decide) (qP [(Str.ofString "back times k",1,1),(Str.ofString "then add times k",2,1),(Str.ofString "back swap",2,2)]) λl5 H5 s5 Xt g=>?_;have n0:=ph S Xt;replace S:=S.trans s5;refine Xp rfl g (by decide) S n0 λH9 S g=>?_;refine Nj (n8 (Xo rfl g (by decide) (qP [(Str.ofString "then copy back copy",1,1),(Str.ofString "back id",1,1),(Str.ofString "back empty",0,0)]) λl9 Aq eY g=>?_));obtain⟨zs,gz,hz⟩:=g;refine⟨_,rfl,c,20,rfl,rfl,(by decide:(0:Int)<20),?_⟩;dsimp only;obtain⟨j,t,ej,ec⟩:=sX (xs:=yf) (n:=20) (by decide) (by decide) c;rw[show(c%20:Int)=(j:Int) from ec]
 obtain⟨v,ev⟩:∃v,zs[j]?=some v:=⟨_,gk (by rw[hz.1];exact(fO.mp ej).1)⟩;obtain⟨a,rfl,ha⟩:=hz.2 j v t ev ej;exact⟨l9,zs,_,.ref a,rfl,rfl,.of gz,cc ev,q a t Aq (S.trans eY) (iO ej) ha⟩
theorem sY:dD ["cell","some"] ["cell"] (cN E8):=dU rfl rfl rfl (by decide +kernel) rfl
def FV(K:Frag):Sp:=λvs H Q _=>∃c:Int,vs=[.int c]/\∀a t H',bh H H'->t∈yf->cg K H' a [.str t.1,.int t.2.1,.int t.2.2]->Q (.ref a) H'
theorem Bm{f:Addr}{fd:FuncData}(F:c9 K "_law_told_box" "_law_told_box" E8 f fd):ck P w K mg base cA 1 f fd ["cell"] (FV K):=by
 refine F.ok sY (λvs H Q E h=>?_) (λcI A outer s H vs Q E hr h=>?_)
 ·obtain⟨c,rfl,_⟩:=h;rfl
 ·obtain⟨c,rfl,q⟩:=h;refine⟨Bl K,?_,Xq q⟩;unfold Bl FU;refine bD ?_ ?_
  ·refine cx (i:=1) ?_ ?_ ?_ ?_ ?_ ?_
   ·exact sY.nd
   ·rfl
   ·exact Or.inl rfl
   ·refine cK ?_;refine qO _ _ ?_
    kernel_rfl
   ·rfl
   ·exact .inl rfl
  refine bD ?_ ?_
  ·refine cx (i:=1) ?_ ?_ ?_ ?_ ?_ ?_
   ·exact sY.nd
   ·rfl
   ·exact Or.inl rfl
   ·refine bH eD (pv 1) ?_;refine cK ?_;refine qO _ _ ?_
    kernel_rfl
   ·rfl
   ·exact .inl rfl
  refine bD ?_ ?_
  ·refine cx (i:=1) ?_ ?_ ?_ ?_ ?_ ?_
   ·exact sY.nd
   ·rfl
   ·exact Or.inl rfl
   ·refine bH eD (pv 1) ?_;refine cK ?_;refine qO _ _ ?_
    kernel_rfl
   ·rfl
   ·exact .inl rfl
  refine bD ?_ ?_
  ·refine cx (i:=1) ?_ ?_ ?_ ?_ ?_ ?_
   ·exact sY.nd
   ·rfl
   ·exact Or.inl rfl
   ·refine bH eD (pv 1) ?_;refine cK ?_;refine qO _ _ ?_
    kernel_rfl
   ·rfl
   ·exact .inl rfl
  refine bD ?_ ?_
  ·refine cx (i:=1) ?_ ?_ ?_ ?_ ?_ ?_
   ·exact sY.nd
   ·rfl
   ·exact Or.inl rfl
   ·refine bH eD (pv 1) ?_;refine cK ?_;refine qO _ _ ?_
    kernel_rfl
   ·rfl
   ·exact .inl rfl
  refine bD ?_ ?_
  ·refine cx (i:=1) ?_ ?_ ?_ ?_ ?_ ?_
   ·exact sY.nd
   ·rfl
   ·exact Or.inl rfl
   ·refine bH eD (pv 1) ?_;refine cK ?_;refine qO _ _ ?_
    kernel_rfl
   ·rfl
   ·exact .inl rfl
  refine bD ?_ ?_
  ·exact l7 (jv ll rQ rR pV (pv 1) (bg (dh (bg bI (bg bp (bg bp bq)))) bq))
  refine bK ?_;refine cE ?_;refine bO (de K rfl) ?_ ?_ ?_
  ·refine bH eD (pv 1) ?_;refine cK ?_;refine qO _ _ ?_
   kernel_rfl
  ·exact bH eI (pv 0) bp
  ·exact λ_ _=>rfl
noncomputable def sW:D1.Wd->Option Str
 | .w x=>some (Str.ofString x)
 | .n _=>none
noncomputable def kS(w:Str):Option Str:=if w=Str.ofString "k" then none else some w
noncomputable def p8(k:Int)(w:Str):V:=if w=Str.ofString "k" then .int k else .str w
theorem iV{k:Int}:∀{l:List Str}{ws:List D1.Wd},l.map kS=ws.map sW->(∀n,D1.Wd.n n∈ws->n=k)->l.map (p8 k)=ws.map dO
 | [],[],_,_=>rfl
 | [],_::_,h,_=>nomatch h
 |_::_,[],h,_=>nomatch h
 |a::l,u::ws,h,hn=>by
  have h1:kS a=sW u:=(iP h).1;rw[ee,ee,iV (iP h).2 λn hm=>hn n (e9 _ hm)]
  congr 1
  unfold kS at h1;unfold p8;cases u with
  |w x=>
   by_cases e:a=Str.ofString "k"
   ·rw[ae e]at h1;cases h1
   ·rw[af e]at h1 |-;rw[eF h1];rfl
  |n m=>
   by_cases e:a=Str.ofString "k"
   ·rw[ae e,<- hn m c6];rfl
   ·rw[af e]at h1;cases h1
structure Nm(p k:Int)(t:i4)(d:D1.Dr):Prop where
 ws:(Txt.split t.1 (Str.ofString " ")).map (p8 k)=d.bb.map dO
 wf:d.wf p
 c8:d.c8 64
 len:d.bb.length<=8
 l:(d.l:Int)=t.2.1
 r:(d.r:Int)=t.2.2
 s:d.l+d.r<=4
 tl:t.1.length<=100
theorem Xu{k:Int}(k0:0<=k)(k1:k<p){t:i4}(h:t∈yf):∃d,Nm p k t d:=by
 simp only[yf,dI,uq,or_false]at h;rcases h with rfl|rfl|rfl|rfl|rfl|rfl|rfl|rfl|rfl|rfl|rfl|rfl|rfl|rfl|rfl|rfl|rfl|rfl|rfl|rfl
 ·exact⟨(.bj .swap .swap),iV ((show(Txt.split (Str.ofString "then swap swap") (Str.ofString " ")).map kS=[some (Str.ofString "then"),some (Str.ofString "swap"),some (Str.ofString "swap")] by decide +kernel).trans rfl) (λn hn=>by simp[D1.Dr.bb]at hn),by simp[D1.Dr.wf,D1.Dr.l,D1.Dr.r,D1.Dr.cq],by simp[D1.Dr.c8,D1.Dr.l,D1.Dr.r,D1.Dr.cq],by simp[D1.Dr.bb],rfl,rfl,by simp[D1.Dr.l,D1.Dr.r,D1.Dr.cq],by decide +kernel⟩
 ·exact⟨(.bj .copy (.bt .fin .id)),iV ((show(Txt.split (Str.ofString "then copy beside end id") (Str.ofString " ")).map kS=[some (Str.ofString "then"),some (Str.ofString "copy"),some (Str.ofString "beside"),some (Str.ofString "end"),some (Str.ofString "id")] by decide +kernel).trans rfl) (λn hn=>by simp[D1.Dr.bb]at hn),by simp[D1.Dr.wf,D1.Dr.l,D1.Dr.r,D1.Dr.cq],by simp[D1.Dr.c8,D1.Dr.l,D1.Dr.r,D1.Dr.cq],by simp[D1.Dr.bb],rfl,rfl,by simp[D1.Dr.l,D1.Dr.r,D1.Dr.cq],by decide +kernel⟩
 ·exact⟨(.bj .copy .swap),iV ((show(Txt.split (Str.ofString "then copy swap") (Str.ofString " ")).map kS=[some (Str.ofString "then"),some (Str.ofString "copy"),some (Str.ofString "swap")] by decide +kernel).trans rfl) (λn hn=>by simp[D1.Dr.bb]at hn),by simp[D1.Dr.wf,D1.Dr.l,D1.Dr.r,D1.Dr.cq],by simp[D1.Dr.c8,D1.Dr.l,D1.Dr.r,D1.Dr.cq],by simp[D1.Dr.bb],rfl,rfl,by simp[D1.Dr.l,D1.Dr.r,D1.Dr.cq],by decide +kernel⟩
 ·exact⟨(.bj .copy (.bt .copy .id)),iV ((show(Txt.split (Str.ofString "then copy beside copy id") (Str.ofString " ")).map kS=[some (Str.ofString "then"),some (Str.ofString "copy"),some (Str.ofString "beside"),some (Str.ofString "copy"),some (Str.ofString "id")] by decide +kernel).trans rfl) (λn hn=>by simp[D1.Dr.bb]at hn),by simp[D1.Dr.wf,D1.Dr.l,D1.Dr.r,D1.Dr.cq],by simp[D1.Dr.c8,D1.Dr.l,D1.Dr.r,D1.Dr.cq],by simp[D1.Dr.bb],rfl,rfl,by simp[D1.Dr.l,D1.Dr.r,D1.Dr.cq],by decide +kernel⟩
 ·exact⟨(.bj (.bt .none .id) .add),iV ((show(Txt.split (Str.ofString "then beside none id add") (Str.ofString " ")).map kS=[some (Str.ofString "then"),some (Str.ofString "beside"),some (Str.ofString "none"),some (Str.ofString "id"),some (Str.ofString "add")] by decide +kernel).trans rfl) (λn hn=>by simp[D1.Dr.bb]at hn),by simp[D1.Dr.wf,D1.Dr.l,D1.Dr.r,D1.Dr.cq],by simp[D1.Dr.c8,D1.Dr.l,D1.Dr.r,D1.Dr.cq],by simp[D1.Dr.bb],rfl,rfl,by simp[D1.Dr.l,D1.Dr.r,D1.Dr.cq],by decide +kernel⟩
 ·exact⟨(.bj .swap .add),iV ((show(Txt.split (Str.ofString "then swap add") (Str.ofString " ")).map kS=[some (Str.ofString "then"),some (Str.ofString "swap"),some (Str.ofString "add")] by decide +kernel).trans rfl) (λn hn=>by simp[D1.Dr.bb]at hn),by simp[D1.Dr.wf,D1.Dr.l,D1.Dr.r,D1.Dr.cq],by simp[D1.Dr.c8,D1.Dr.l,D1.Dr.r,D1.Dr.cq],by simp[D1.Dr.bb],rfl,rfl,by simp[D1.Dr.l,D1.Dr.r,D1.Dr.cq],by decide +kernel⟩
 ·exact⟨(.bj .add .fin),iV ((show(Txt.split (Str.ofString "then add end") (Str.ofString " ")).map kS=[some (Str.ofString "then"),some (Str.ofString "add"),some (Str.ofString "end")] by decide +kernel).trans rfl) (λn hn=>by simp[D1.Dr.bb]at hn),by simp[D1.Dr.wf,D1.Dr.l,D1.Dr.r,D1.Dr.cq],by simp[D1.Dr.c8,D1.Dr.l,D1.Dr.r,D1.Dr.cq],by simp[D1.Dr.bb],rfl,rfl,by simp[D1.Dr.l,D1.Dr.r,D1.Dr.cq],by decide +kernel⟩
 ·exact⟨(.bj (.bt .add .id) .add),iV ((show(Txt.split (Str.ofString "then beside add id add") (Str.ofString " ")).map kS=[some (Str.ofString "then"),some (Str.ofString "beside"),some (Str.ofString "add"),some (Str.ofString "id"),some (Str.ofString "add")] by decide +kernel).trans rfl) (λn hn=>by simp[D1.Dr.bb]at hn),by simp[D1.Dr.wf,D1.Dr.l,D1.Dr.r,D1.Dr.cq],by simp[D1.Dr.c8,D1.Dr.l,D1.Dr.r,D1.Dr.cq],by simp[D1.Dr.bb],rfl,rfl,by simp[D1.Dr.l,D1.Dr.r,D1.Dr.cq],by decide +kernel⟩
 ·exact⟨(.bj (.times k) (.times k)),iV ((show(Txt.split (Str.ofString "then times k times k") (Str.ofString " ")).map kS=[some (Str.ofString "then"),some (Str.ofString "times"),none,some (Str.ofString "times"),none] by decide +kernel).trans rfl) (λn hn=>by simp[D1.Dr.bb]at hn;exact hn),by simp[D1.Dr.wf,D1.Dr.l,D1.Dr.r,D1.Dr.cq,k0,k1],by simp[D1.Dr.c8,D1.Dr.l,D1.Dr.r,D1.Dr.cq],by simp[D1.Dr.bb],rfl,rfl,by simp[D1.Dr.l,D1.Dr.r,D1.Dr.cq],by decide +kernel⟩
 ·exact⟨(.bj .add .copy),iV ((show(Txt.split (Str.ofString "then add copy") (Str.ofString " ")).map kS=[some (Str.ofString "then"),some (Str.ofString "add"),some (Str.ofString "copy")] by decide +kernel).trans rfl) (λn hn=>by simp[D1.Dr.bb]at hn),by simp[D1.Dr.wf,D1.Dr.l,D1.Dr.r,D1.Dr.cq],by simp[D1.Dr.c8,D1.Dr.l,D1.Dr.r,D1.Dr.cq],by simp[D1.Dr.bb],rfl,rfl,by simp[D1.Dr.l,D1.Dr.r,D1.Dr.cq],by decide +kernel⟩
 ·exact⟨(.bj .none .copy),iV ((show(Txt.split (Str.ofString "then none copy") (Str.ofString " ")).map kS=[some (Str.ofString "then"),some (Str.ofString "none"),some (Str.ofString "copy")] by decide +kernel).trans rfl) (λn hn=>by simp[D1.Dr.bb]at hn),by simp[D1.Dr.wf,D1.Dr.l,D1.Dr.r,D1.Dr.cq],by simp[D1.Dr.c8,D1.Dr.l,D1.Dr.r,D1.Dr.cq],by simp[D1.Dr.bb],rfl,rfl,by simp[D1.Dr.l,D1.Dr.r,D1.Dr.cq],by decide +kernel⟩
 ·exact⟨(.bj .none .fin),iV ((show(Txt.split (Str.ofString "then none end") (Str.ofString " ")).map kS=[some (Str.ofString "then"),some (Str.ofString "none"),some (Str.ofString "end")] by decide +kernel).trans rfl) (λn hn=>by simp[D1.Dr.bb]at hn),by simp[D1.Dr.wf,D1.Dr.l,D1.Dr.r,D1.Dr.cq],by simp[D1.Dr.c8,D1.Dr.l,D1.Dr.r,D1.Dr.cq],by simp[D1.Dr.bb],rfl,rfl,by simp[D1.Dr.l,D1.Dr.r,D1.Dr.cq],by decide +kernel⟩
 ·exact⟨(.bj (.times k) .copy),iV ((show(Txt.split (Str.ofString "then times k copy") (Str.ofString " ")).map kS=[some (Str.ofString "then"),some (Str.ofString "times"),none,some (Str.ofString "copy")] by decide +kernel).trans rfl) (λn hn=>by simp[D1.Dr.bb]at hn;exact hn),by simp[D1.Dr.wf,D1.Dr.l,D1.Dr.r,D1.Dr.cq,k0,k1],by simp[D1.Dr.c8,D1.Dr.l,D1.Dr.r,D1.Dr.cq],by simp[D1.Dr.bb],rfl,rfl,by simp[D1.Dr.l,D1.Dr.r,D1.Dr.cq],by decide +kernel⟩
 ·exact⟨(.back (.times k)),iV ((show(Txt.split (Str.ofString "back times k") (Str.ofString " ")).map kS=[some (Str.ofString "back"),some (Str.ofString "times"),none] by decide +kernel).trans rfl) (λn hn=>by simp[D1.Dr.bb]at hn;exact hn),by simp[D1.Dr.wf,D1.Dr.l,D1.Dr.r,D1.Dr.cq,k0,k1],by simp[D1.Dr.c8,D1.Dr.l,D1.Dr.r,D1.Dr.cq],by simp[D1.Dr.bb],rfl,rfl,by simp[D1.Dr.l,D1.Dr.r,D1.Dr.cq],by decide +kernel⟩
 ·exact⟨(.bj .add (.times k)),iV ((show(Txt.split (Str.ofString "then add times k") (Str.ofString " ")).map kS=[some (Str.ofString "then"),some (Str.ofString "add"),some (Str.ofString "times"),none] by decide +kernel).trans rfl) (λn hn=>by simp[D1.Dr.bb]at hn;exact hn),by simp[D1.Dr.wf,D1.Dr.l,D1.Dr.r,D1.Dr.cq,k0,k1],by simp[D1.Dr.c8,D1.Dr.l,D1.Dr.r,D1.Dr.cq],by simp[D1.Dr.bb],rfl,rfl,by simp[D1.Dr.l,D1.Dr.r,D1.Dr.cq],by decide +kernel⟩
 ·exact⟨(.back .swap),iV ((show(Txt.split (Str.ofString "back swap") (Str.ofString " ")).map kS=[some (Str.ofString "back"),some (Str.ofString "swap")] by decide +kernel).trans rfl) (λn hn=>by simp[D1.Dr.bb]at hn),by simp[D1.Dr.wf,D1.Dr.l,D1.Dr.r,D1.Dr.cq],by simp[D1.Dr.c8,D1.Dr.l,D1.Dr.r,D1.Dr.cq],by simp[D1.Dr.bb],rfl,rfl,by simp[D1.Dr.l,D1.Dr.r,D1.Dr.cq],by decide +kernel⟩
 ·exact⟨(.bj (.bt .gZ .id) (.bt .id (.back .gZ))),iV ((show(Txt.split (Str.ofString "then beside cup id beside id back cup") (Str.ofString " ")).map kS=[some (Str.ofString "then"),some (Str.ofString "beside"),some (Str.ofString "cup"),some (Str.ofString "id"),some (Str.ofString "beside"),some (Str.ofString "id"),some (Str.ofString "back"),some (Str.ofString "cup")] by decide +kernel).trans rfl) (λn hn=>by simp[D1.Dr.bb]at hn),by simp[D1.Dr.wf,D1.Dr.l,D1.Dr.r,D1.Dr.cq],by simp[D1.Dr.c8,D1.Dr.l,D1.Dr.r,D1.Dr.cq],by simp[D1.Dr.bb],rfl,rfl,by simp[D1.Dr.l,D1.Dr.r,D1.Dr.cq],by decide +kernel⟩
 ·exact⟨(.bj .copy (.back .copy)),iV ((show(Txt.split (Str.ofString "then copy back copy") (Str.ofString " ")).map kS=[some (Str.ofString "then"),some (Str.ofString "copy"),some (Str.ofString "back"),some (Str.ofString "copy")] by decide +kernel).trans rfl) (λn hn=>by simp[D1.Dr.bb]at hn),by simp[D1.Dr.wf,D1.Dr.l,D1.Dr.r,D1.Dr.cq],by simp[D1.Dr.c8,D1.Dr.l,D1.Dr.r,D1.Dr.cq],by simp[D1.Dr.bb],rfl,rfl,by simp[D1.Dr.l,D1.Dr.r,D1.Dr.cq],by decide +kernel⟩
 ·exact⟨(.back .id),iV ((show(Txt.split (Str.ofString "back id") (Str.ofString " ")).map kS=[some (Str.ofString "back"),some (Str.ofString "id")] by decide +kernel).trans rfl) (λn hn=>by simp[D1.Dr.bb]at hn),by simp[D1.Dr.wf,D1.Dr.l,D1.Dr.r,D1.Dr.cq],by simp[D1.Dr.c8,D1.Dr.l,D1.Dr.r,D1.Dr.cq],by simp[D1.Dr.bb],rfl,rfl,by simp[D1.Dr.l,D1.Dr.r,D1.Dr.cq],by decide +kernel⟩
 ·exact⟨(.back .empty),iV ((show(Txt.split (Str.ofString "back empty") (Str.ofString " ")).map kS=[some (Str.ofString "back"),some (Str.ofString "empty")] by decide +kernel).trans rfl) (λn hn=>by simp[D1.Dr.bb]at hn),by simp[D1.Dr.wf,D1.Dr.l,D1.Dr.r,D1.Dr.cq],by simp[D1.Dr.c8,D1.Dr.l,D1.Dr.r,D1.Dr.cq],by simp[D1.Dr.bb],rfl,rfl,by simp[D1.Dr.l,D1.Dr.r,D1.Dr.cq],by decide +kernel⟩
def Xv:V->List V->Hp->VK->Prop:=λx xs H Q=>∃z j6,x=.str z/\xs=[.str j6]/\(j6.length==0)=false/\z.length+2<=sizeLine/\(Txt.split z j6).length<=sizeLine/\∀l,H l=none->Q (.ref l) (upd H l (.lst ((Txt.split z j6).map V.str)))
def Xw:List V->Hp->VK->Prop:=λxs H Q=>(∃i,xs=[.int i]/\Q (.int i) H)\/∃k,xs=[.bl k]/\Q (.int (if k then 1 else 0)) H
def FW(K:Frag):TE:=ve (wX K (o4 K "str" Xv (br 7) (bo (tS " ") bQ))) 1 [2] (bY 0) vd (bw (gJ K) (cP (bo (br 1) (bo (br 0) bQ))) (lA Xw (bo (bw zX (br 0) (tS "k")) bQ)))
def Nn(K:Frag)(E:XK):TS:=cu (cR (ij (FV K) [] E (bo (bw ji (br 1) (tC (.int 132))) bQ)) (wU K 3 (iR (bY 7) (iR (bY 5) (iR (bY 6) qy))))) (cR (FW K) (bY 4))
def FX:TS:=cu (cU (eM (bw lz (bw g6 (bw ji (br 1) (tC (.int 11))) (tC (.int 4))) (tC (.int 1)))) (dG (cP (bo (bw eB (cP (bo (tS "back") bQ)) (br 4)) (bo (br 6) (bo (br 5) bQ))))) eA) (dG (cP (bo (br 4) (bo (br 5) (bo (br 6) bQ)))))
def Bn(K:Frag)(E:XK):TS:=cu (cR (bw (gJ K) (br 3) (bw g6 (br 1) (tC (.int 11)))) (xD K 3 (iR (bY 4) (iR (bY 5) (iR (bY 6) qy)))))
 (cu (cU (eM (bw lz (bw g6 (bw ji (br 1) (tC (.int 44))) (tC (.int 3))) (tC (.int 1)))) (Nn K E) eA) FX)
theorem Np{k:Int}{s3 s7:Option V}{b:Addr}{d:D1.Dr}{l r:Int}(gb:WL H b d)(hl:(d.l:Int)=l)(hr:(d.r:Int)=r)(w1:d.wf p)(w2:d.c8 64)(w3:d.bb.length<=8)(w4:d.l+d.r<=4)(q:∀a d H',bh H H'->WT H' a d->d.wf p->d.c8 64->d.bb.length<=9->d.l+d.r<=4->D.rt (.ref a) H') :
  FX D [some (.int p),some (.int c),some (.int k),s3,some (.ref b),some (.int l),some (.int r),s7] H:=by
 have z:(100:Nat)<=sizeLine:=by decide
 subst hl hr;refine⟨_,rfl,c,11,rfl,rfl,⟨by decide,by decide⟩,c/11,4,rfl,rfl,(by decide:(0:Int)<4),rfl,_,rfl,?_⟩;dsimp only;split
 ·refine⟨by show 1<=sizeLine;lia,λt ht=>⟨_,rfl,t,b,_,_,rfl,rfl,bz,bh.upd ht _ _ gb,by rw[cB];show 1+_<=sizeLine;lia,λe he=>⟨_,rfl,_,rfl,by show 3<=sizeLine;lia,λx hx=>?_⟩⟩⟩;refine q x (.back d) _ ((bh.upd ht).trans ((bh.upd he).trans (.upd hx))) ⟨e,bz,bh.upd hx _ _ bz⟩ w1 w2 (by show d.bb.length+1<=9;lia) (by show d.r+d.l<=4;lia)
 ·refine⟨_,rfl,_,rfl,_,rfl,by show 3<=sizeLine;lia,λx hx=>?_⟩;exact q x d _ (.upd hx) ⟨b,bz,bh.upd hx _ _ gb⟩ w1 w2 (by lia) w4
theorem Xx{K:Frag}{k:Int}{t:i4}{d:D1.Dr}(h7:σ[7]?=some (some (.str t.1)))(h2:σ[2]?=some (some (.int k)))(hT:Nm p k t d)(q:∀a H',bh H H'->WL H' a d->R (.ref a) H'):FW K σ H R:=by
 have z:=kq;have cT:(Txt.split t.1 (Str.ofString " ")).length<=8:=by
  have:=ai List.length hT.ws
  rw[cB,cB]at this
  have:=hT.len
  lia
 have sZ:=hT.tl;refine⟨_,h7,rfl,t.1,Str.ofString " ",rfl,rfl,by decide +kernel,by lia,by lia,λl hl=>?_⟩;have s1:=bh.upd (o:=.lst ((Txt.split t.1 (Str.ofString " ")).map V.str)) hl;have g1:(upd H l (.lst ((Txt.split t.1 (Str.ofString " ")).map V.str))) l=some (.lst ((Txt.split t.1 (Str.ofString " ")).map V.str)):=bz;generalize upd H l (.lst ((Txt.split t.1 (Str.ofString " ")).map V.str))=H1 at s1 g1 |-;have eb:o7 1 [2] σ=List.replicate 1 none++[some (.int k)]:=by simp[o7,h2]
 refine⟨l,rfl,⟨_,.of g1⟩,?_⟩;rw[eb];refine Ex (cp:=[some (.int k)]) (λi H' zs=>zs=((Txt.split t.1 (Str.ofString " ")).take i).map (p8 k)) (.of g1) (by rw[cB];lia) rfl (λi H' zs h=>by rw[h,cB];exact List.length_take_le _ _) ?_ ?_
 ·rintro i x H' zs hx sm rfl;rw[fw]at hx;obtain⟨w,hw,rfl⟩:=lj.mp hx;refine EB ⟨_,rfl,_,rfl,by show 2<=sizeLine;lia,λl2 h2=>?_⟩;refine⟨_,rfl,rfl,.inr ⟨_,rfl,?_⟩⟩;have fin:∀H2,bh H1 H2->mi 1 [some (.int k)] H1 (λH' zs=>zs=((Txt.split t.1 (Str.ofString " ")).take (i+1)).map (p8 k)) [some (.str w),some (.int k)] H2 (((Txt.split t.1 (Str.ofString " ")).take i).map (p8 k)++[p8 k w]):=λH2 s2=>
   ⟨⟨[_],rfl,rfl⟩,s2,by rw[rP,hw,ig];rfl⟩
  by_cases e:w=Str.ofString "k"
  ·rw[show decide (V.str w=V.str (Str.ofString "k"))=true from aG (by rw[e])]
   have f:=fin _ (sm.trans (.upd h2 (o:=.lst [.int k,.str w])));unfold p8 at f;rw[ae e]at f;exact⟨l2,_,0,.int k,rfl,rfl,.of bz,cc (j:=0) rfl,f⟩
  ·rw[show decide (V.str w=V.str (Str.ofString "k"))=false from aa λy=>e (V.str.inj y)]
   have f:=fin _ (sm.trans (.upd h2 (o:=.lst [.int k,.str w])));unfold p8 at f;rw[af e]at f;exact⟨l2,_,1,.str w,rfl,rfl,.of bz,cc (j:=1) rfl,f⟩
 ·rintro H' zs sm rfl l2 ip;refine q l2 _ ((s1.trans sm).trans (.upd ip)) ?_;show _=_;rw[bz,cB,uo,hT.ws]
theorem Xy{K:Frag}{i j k:Nat}{v:Addr}{x y z:V}{R:St->Hp->Prop}(h:cg K H v [x,y,z])(q:R (((σ.set i (some x)).set j (some y)).set k (some z)) H):wU K 3 (iR (bY i) (iR (bY j) (iR (bY k) qy))) (.ref v) σ H R:=
 ⟨v,_,rfl,h,rfl,_,_,rfl,_,_,rfl,_,_,rfl,rfl,q⟩
theorem Xz{K:Frag}{E:XK}{k:Int}{a:Addr}(h0:0<=k)(h1:k<p)(g:H a=some (.lst vs))(hd:iU H vs (AZ k))(q:∀a d H',bh H H'->WT H' a d->d.wf p->d.c8 64->d.bb.length<=9->d.l+d.r<=4->D.rt (.ref a) H') :
  Bn K E D [some (.int p),some (.int c),some (.int k),some (.ref a),none,none,none,none] H:=by
 unfold Bn;obtain⟨i,d,hi,ei⟩:=sX (xs:=AZ k) (n:=11) rfl (by decide) c;obtain⟨v,hv⟩:∃v,vs[i]?=some v:=⟨_,gk (by rw[hd.1];exact(fO.mp hi).1)⟩;obtain⟨v,rfl,b,gv,gb⟩:=hd.2 i _ d hv hi;obtain⟨w1,w2,w3,w4⟩:=W5 h0 h1 hi;refine⟨_,rfl,_,rfl,c,11,rfl,rfl,(by decide:(0:Int)<11),a,vs,c%11,.ref v,rfl,rfl,.of g,by rw[show(c%11:Int)=(i:Int) from ei];exact cc hv,Fv (.of gv) ?_⟩
 refine⟨_,rfl,c,44,rfl,rfl,⟨by decide,by decide⟩,c/44,3,rfl,rfl,(by decide:(0:Int)<3),rfl,_,rfl,?_⟩;dsimp only;split
 ·refine⟨_,rfl,c,132,rfl,rfl,⟨by decide,by decide⟩,c/132,rfl,λta t H1 s1 ht gt=>?_⟩;obtain⟨d',hT⟩:=Xu h0 h1 ht;refine Xy gt ?_;refine Xx (p:=p) (d:=d') rfl rfl hT λb' H2 s2 XA=>?_;exact Np XA hT.l hT.r hT.wf hT.c8 hT.len hT.s λa d H' s'=>q a d H' (s1.trans (s2.trans s'))
 ·exact Np gb rfl rfl w1 w2 (by lia) w4 q
theorem nu:dD ["p","cell","k","some","words","left","right","said"] ["p","cell"] (cN AN):=dU rfl rfl rfl (by decide +kernel) rfl
theorem XB:(["word","k"]:List Str).Nodup:=by decide +kernel
theorem Bo{f fT:Addr}{fd lJ:FuncData}(F:c9 K "_law_some_box" "_law_some_box" AN f fd)(T:Txt mg)
  (GT:ck P w K mg base cA 1 fT lJ ["cell"] (FV K)) (kT:Kp K fT) (bT:Binds K lJ ["cell"] []) (mT:Mg mg "_law_told_box" fT):ck P w K mg base cA 2 f fd ["p","cell"] (AV K):=by
 refine F.ok nu (λvs H Q E h=>?_) (λcI A outer s H vs Q E hr h=>?_)
 ·obtain⟨p,c,rfl,_⟩:=h;rfl
 ·obtain⟨p,c,rfl,pp,q⟩:=h;refine⟨cu (cR (bw g6 (bw ji (br 1) (tC (.int 40))) (br 0)) (bY 2)) (cu (cR AW (bY 3)) (cu (cR (bw eB (br 3) AX) (bY 3)) (cu (cR (bw eB (br 3) AY) (bY 3)) (Bn K E)))),?_,?_⟩
  ·refine bD ?_ ?_
   ·exact cx (i:=2) nu.nd rfl (Or.inr rfl) (bH eI (bH gE (pv 1) bp) (pv 0))
   have bx:∀{X:Cx}{e:Expr}{es:List Expr}{ws:List Str}{l r:Int}{t:TA},Fw e=some (ws,l,r)->PA X es t->starEach (e::es) X.env=(false,eval e X.env)::starEach es X.env->PA X (e::es) (bo (mj ws l r) t):=λh k hs=>bg (W3 h) k hs;refine bD ?_ ?_
   ·refine cx (i:=3) ?_ ?_ ?_ ?_ ?_ ?_
    ·exact nu.nd
    ·rfl
    ·exact Or.inl rfl
    ·unfold AW;refine cK ?_;refine bx ?_ ?_ ?_
     ·kernel_rfl
     rotate_left
     ·rfl
     refine bx ?_ ?_ ?_
     ·kernel_rfl
     rotate_left
     ·rfl
     refine bx ?_ ?_ ?_
     ·kernel_rfl
     rotate_left
     ·rfl
     refine bx ?_ ?_ ?_
     ·kernel_rfl
     rotate_left
     ·rfl
     refine bx ?_ ?_ ?_
     ·kernel_rfl
     rotate_left
     ·rfl
     exact bq
    ·rfl
    ·exact .inl rfl
   refine bD ?_ ?_
   ·refine cx (i:=3) ?_ ?_ ?_ ?_ ?_ ?_
    ·exact nu.nd
    ·rfl
    ·exact Or.inl rfl
    ·refine bH eD (pv 3) ?_;unfold AX;refine cK ?_;refine bx ?_ ?_ ?_
     ·kernel_rfl
     rotate_left
     ·rfl
     refine bg ?_ ?_ ?_
     ·exact cK (bg (cK (bg bI (bg (pv 2) bq))) (bg bp (bg bp bq)))
     ·refine bx ?_ ?_ ?_
      ·kernel_rfl
      rotate_left
      ·rfl
      refine bx ?_ ?_ ?_
      ·kernel_rfl
      rotate_left
      ·rfl
      exact bq
     ·rfl
    ·rfl
    ·exact .inl rfl
   refine bD ?_ ?_
   ·refine cx (i:=3) ?_ ?_ ?_ ?_ ?_ ?_
    ·exact nu.nd
    ·rfl
    ·exact Or.inl rfl
    ·refine bH eD (pv 3) ?_;unfold AY;refine cK ?_;refine bx ?_ ?_ ?_
     ·kernel_rfl
     rotate_left
     ·rfl
     refine bx ?_ ?_ ?_
     ·kernel_rfl
     rotate_left
     ·rfl
     exact bq
    ·rfl
    ·exact .inl rfl
   unfold Bn FX Nn;refine bD ?_ ?_
   ·exact uJ (bO (de K rfl) (pv 3) (bH eI (pv 1) bp)) (EC rfl (lr (eL (i:=4) nu.nd rfl (.inl rfl)) (lr (eL (i:=5) nu.nd rfl (.inl rfl)) (lr (eL (i:=6) nu.nd rfl (.inl rfl)) wR))))
   refine bD ?_ ?_
   ·refine cO ?_ ?_ cW
    ·exact cj cS (bH eI (bH gE (pv 1) bp) bp) bp (cm _)
    refine bD ?_ ?_
    ·exact uJ (cZ GT hr rfl mT kT bT .nil cX (bg (bH gE (pv 1) bp) bq)) (Mb (n:=3) K rfl rfl (lr (eL (i:=7) nu.nd rfl (.inl rfl)) (lr (eL (i:=5) nu.nd rfl (.inl rfl)) (lr (eL (i:=6) nu.nd rfl (.inl rfl)) wR))))
    refine bK ?_;unfold FW;refine Au (i:=4) (N:=["word","k"]) (own:=1) (caps:=[2]) rfl nu.nd rfl rfl ?_ ?_ ?_ ?_ ?_
    ·exact qM K rfl (jv zE Dl Dm x8 (pv 7) (bg bI bq))
    ·exact(show j0 ["p","cell","k","some","words","left","right","said"] (cN AN) ["word","k"] 1 [2] _ from .mk' (by decide +kernel))
    ·exact λ_ _ _ _ _=>eL (i:=0) XB rfl (.inl rfl)
    ·exact λ_ _ _ _ _=>xv
    ·exact λ_ _ _ _ _=>bO (de K rfl) (cK (bg (pv 1) (bg (pv 0) bq))) (oX Aa rfl T.int sH (bg (qD zY (pv 0) bI (cm _)) bq))
   refine bD ?_ ?_
   ·exact cO (cj cS (bH eI (bH gE (pv 1) bp) bp) bp (cm _)) (bK (cE (cK (bg (bH eD (cK (bg bI bq)) (pv 4)) (bg (pv 6) (bg (pv 5) bq)))))) cW
   ·exact bK (cE (cK (bg (pv 4) (bg (pv 5) (bg (pv 6) bq)))))
  have p0:0<p:=by have:=(pX p pp).1;lia
  have k0:=nN (c/40) (show p≠0 by lia);have k1:=nO (c/40) p0;refine fz ⟨_,rfl,c,40,rfl,rfl,⟨by decide,by decide⟩,_,rfl,c/40,p,rfl,rfl,p0,?_⟩;dsimp only;generalize c/40%p=k at k0 k1 |-;refine fz (W6 λa1 v1 H1 s1 g1 d1=>?_);refine fz ⟨_,rfl,W7 rfl λa2 v2 H2 s2 g2 d2=>?_⟩;refine MX (s2 _ _ g1) g2 (d1.mono s2) d2 (Dj rfl) λa3 H3 s3 g3 d3=>?_;refine fz ⟨_,rfl,W8 λa4 v4 H4 s4 g4 d4=>?_⟩;refine MX (s4 _ _ g3) g4 (d3.mono s4) d4 (Dj rfl) λa5 H5 s5 g5 d5=>?_;exact Xz k0 k1 g5 d5 λa d H' s'=>q a d H' (s1.trans (s2.trans (s3.trans (s4.trans (s5.trans s')))))
end S21
namespace L2
open PySem PySem.Spec PyProof.Rows
section
variable{P:Program}{w:World}{K:Frag}{mg:Str->Option Value}{base:Heap}
theorem Nq{x qual:Str}{st:Stmt}{f:Addr}{fd:FuncData}{N ps:List Str}{sp:Sp}(F:c9 K x qual st f fd)(S:dD N ps (cN st))(len:∀vs H Q E,sp vs H Q E->vs.length=ps.length)
  (sj:∀(cI:Value)(A:Around)(outer:List Env)(s:Shared)(H:Hp)(vs:List V)(Q:VK)(E:XK),sp vs H Q E->
   ∃t,jW (jH cA P w K mg base N qual (cN st) f cI A outer s H E).qw (ng st) t/\t { nx:=λ_ H'=>Q .cC H',rt:=Q } (start N vs) H):ck P w K mg base cA 0 f fd ps sp:=by
 obtain⟨oc,od,kV,doc,pm,an,cI,ct,me,rfl,lk,iA⟩:=F.ex;refine⟨len,λA outer s H args us vs Q E hr e0 hb r jf=>?_⟩;have hl:=len _ _ _ _ jf;have KX:K.In s.heap:=e0.mod.pP.keeps λb o e=>(e0.bs b o e).1;have xb:s.heap.NoLimit:=e0.mod.nolimit.keeps λb o e=>(e0.bs b o e).1;have xc:∀y∈ps.zip us,(cN st).names.lookup y.1=some .local\/((cN st).names.lookup y.1=some .cell/\((cellsFrom (s.heap.objs.size+1) (cN st).names []).lookup y.1).isSome=true):=λ⟨n,v⟩ hy=>by
  rcases S.par n (List.of_mem_zip hy).1 with q|q
  ·exact .inl q
  ·exact .inr ⟨q,Df _ _ _ (.inl q)⟩
 refine codeAny_call_function hr.depth (KX _ _ lk) rfl S.co S.gen rfl (PySem.W.codeRec_of KX iA) (hb _ _ _ _ ?_);refine aA S.kind xc λenv he s1 x=>?_;subst he;refine⟨xb.keeps x.toInCall.keep,codeAny_func ?_⟩;obtain⟨t,ht,hq⟩:=sj cI A outer s H vs Q E jf;have I:Inv (jH cA P w K mg base N qual (cN st) f cI A outer s H E) [] (start N vs) H s1:=DX S hr.hd e0 hl r x;refine ag (ht.qw [] s1 (start N vs) H _ I hq) (λfl s' hs=>?_) λe s' hs=>hs;have fin:∀{σ':St}{H':Hp}{v:V}{u:Value},Inv (jH cA P w K mg base N qual (cN st) f cI A outer s H E) [] σ' H' s'->RelV v u->Q v H'->CE outer P w H s Q u s':=
  λ{σ' H' v u} J rv q=>⟨v,H',J.os,J.bare,J.base,J.bZ,rv,q⟩
 cases fl with
 |ret u=>
  obtain⟨v,σ',H',J,rv,q⟩:=hs;exact fin J rv q
 |next=>
  obtain⟨σ',H',J,q⟩:=hs;exact fin (v:=V.cC) (u:=Value.none) J rfl q
 |brk=>
  obtain⟨_,_,_,q⟩:=hs;exact False.elim q
 |cont=>
  obtain⟨_,_,_,q⟩:=hs;exact False.elim q
end
end L2
namespace S21
open PySem L2 Bw
noncomputable def Bp:List (Str×V):=[("times",.int 1),("back",.int 1),("beside",.int 2),("then",.int 2)]
noncomputable def lK(x:Str):Nat:=if x="times"\/x="back" then 1 else if x="beside"\/x="then" then 2 else 0
theorem XC(x:Str):(PyProof.Rows.KTD.datumAt x Bp).getD (.int 0)=.int (lK x):=by
 unfold Bp lK;simp only[PyProof.Rows.KTD.datumAt,aI];by_cases h1:x="times"
 ·simp[h1]
 ·by_cases h2:x="back"
  ·simp[h2]
  ·by_cases h3:x="beside"
   ·subst h3;rfl
   ·by_cases h4:x="then"
    ·subst h4;rfl
    ·simp[h1,h2,h3,h4]
theorem Kt(x:Str):lK x<=2:=by
 unfold lK;split
 ·lia
 ·split<;>lia
structure Parts(K:Frag)(mg:Str->Option Value)(aP:Addr):Prop where
 nm:mg "PARTS"=some (.ref aP)
 tab:∀h,K.In h->j5 h aP Bp
theorem XD:(["part","values"]:List Str).Nodup:=by decide +kernel
structure qQ(k:Nat)(P:Program)(w:World)(K:Frag)(mg:Str->Option Value)(base:Heap)(s:Shared)(H:Hp)(Q:VK)(aw f:Addr)(ws:List V)(R:List V->Hp->VK->Prop)(G:Nat->List V->Hp->Prop):Prop where
 vo:cg K H aw ws
 len:ws.length<=200
 fn:nV P w K mg base k s H f R
 g0:G ws.length [] H
 mono:∀i vs H1 H2,G i vs H1->df H1 H2->G i vs H2
 gY:∀i vs H1,G i vs H1->vs.length<=200
 kind:∀i,i<ws.length->(∃x,ws[i]?=some (.str x))\/∃n,ws[i]?=some (.int n)
 num:∀i n vs H1,ws[i]?=some (.int n)->G (i+1) vs H1->G i (vs++[.int n]) H1
 word:∀i x vs H1,ws[i]?=some (.str x)->G (i+1) vs H1->∃cG ps,vs=cG++ps.reverse/\ps.length=lK x/\
  ∀pa H2 Q',df H1 H2->H2 pa=some (.lst ps)->(∀v H3,bh H2 H3->G i (cG++[v]) H3->Q' v H3)->R [.int i,.str x,.ref pa] H2 Q'
 first:∃x,ws[0]?=some (.str x)
 fin:∀td bf vs v H',bh H H'->H' td=some (.dK bf)->c7 bf (Sum.inl 0)=some v->G 0 (vs++[v]) H'->Q (.ref td) H'
noncomputable abbrev XE:List Str:=["words","made","told","values","place","word","parts"]
theorem vq:dD ["words","made","told","values","place","word","parts"] ["words","made"] (cN AH):=dU rfl rfl rfl (by decide +kernel) rfl
noncomputable def tf:Option V->Bool
 |some (.str _)=>true
 |_=>false
noncomputable def g7(ws:List V):Nat->List Nat
 |0=>[]
 |j+1=>if tf ws[ws.length-(j+1)]? then g7 ws j++[ws.length-(j+1)]else g7 ws j
theorem Bq(ws:List V)(j:Nat):g7 ws (j+1)=if tf ws[ws.length-(j+1)]? then g7 ws j++[ws.length-(j+1)]else g7 ws j:=rfl
theorem FY(ws:List V):∀j,(g7 ws j).length<=j
 |0=>cF _
 |j+1=>by
  have:=FY ws j
  unfold g7;split
  ·rw[cL];exact Nat.add_le_add_right this 1
  ·lia
theorem FZ(ws:List V):∀j,j<=ws.length->∀i∈g7 ws j,ws.length-j<=i
 |0,_,i,h=>by cases h
 |j+1,hj,i,h=>by
  unfold g7 at h;split at h
  ·rcases(iG.mp h)with(z|z)
   ·have:=FZ ws j (by lia) i z;lia
   ·rw[dP.mp z];exact cF _
  ·have:=FZ ws j (by lia) i h;lia
structure Nr(k:Nat)(P:Program)(w:World)(K:Frag)(mg:Str->Option Value)(base:Heap)(s:Shared)(H:Hp)(Q:VK)(aw f:Addr)(ws:List V)(R:List V->Hp->VK->Prop)(G:Nat->List V->Hp->Prop)(U:Nat->V->Hp->Prop):Prop where
 vo:cg K H aw ws
 len:ws.length<=200
 fn:nV P w K mg base k s H f R
 g0:G ws.length [] H
 mono:∀i vs H1 H2,G i vs H1->df H1 H2->G i vs H2
 F0:∀i v H1 H2,U i v H1->df H1 H2->U i v H2
 gY:∀i vs H1,G i vs H1->vs.length<=200
 kind:∀i,i<ws.length->(∃x,ws[i]?=some (.str x))\/∃n,ws[i]?=some (.int n)
 num:∀i n vs H1,ws[i]?=some (.int n)->G (i+1) vs H1->G i (vs++[.int n]) H1
 word:∀i x vs H1,ws[i]?=some (.str x)->G (i+1) vs H1->∃cG ps,vs=cG++ps.reverse/\ps.length=lK x/\
  ∀pa H2 Q',df H1 H2->H2 pa=some (.lst ps)->(∀v H3,bh H2 H3->G i (cG++[v]) H3->U i v H3->Q' v H3)->R [.int i,.str x,.ref pa] H2 Q'
 fin:∀td bf vs H',bh H H'->H' td=some (.dK bf)->bf.map Prod.fst=(g7 ws ws.length).map (λ(n:Nat)=>(Sum.inl (n:Int):Key))->(∀(i:Nat)(x:Str),ws[i]?=some (.str x)->∃v,c7 bf (Sum.inl (i:Int))=some v/\U i v H')->G 0 vs H'->Q (.ref td) H'
theorem qQ.all{k:Nat}{s:Shared}{H:Hp}{Q:VK}{aw f:Addr}{ws:List V}{R:List V->Hp->VK->Prop}{G:Nat->List V->Hp->Prop}(D:qQ k P w K mg base s H Q aw f ws R G):Nr k P w K mg base s H Q aw f ws R G (λi v H=>∃vs,G i (vs++[v]) H):=by
 refine⟨D.vo,D.len,D.fn,D.g0,D.mono,λi v H1 H2 ⟨vs,h⟩ tp=>⟨vs,D.mono _ _ _ _ h tp⟩,D.gY,D.kind,D.num,λi x vs H1 h g=>?_,λtd bf vs H' s' h1 h2 h3 _=>?_⟩
 ·obtain⟨cG,ps,e1,e2,hm⟩:=D.word i x vs H1 h g;exact⟨cG,ps,e1,e2,λpa H2 Q' tp hp hq=>hm pa H2 Q' tp hp λv H3 s3 g3=>hq v H3 s3 g3 ⟨cG,g3⟩⟩
 ·obtain⟨x,hx⟩:=D.first;obtain⟨v,hv,XF,hg⟩:=h3 0 x hx;exact D.fin td bf XF v H' s' h1 hv hg
def Ga(k:Nat)(P:Program)(w:World)(K:Frag)(mg:Str->Option Value)(base:Heap)(s:Shared):Sp:=λvs H Q _=>∃(aw f:Addr)(ws:List V)(R:List V->Hp->VK->Prop)(G:Nat->List V->Hp->Prop)(U:Nat->V->Hp->Prop),vs=[.ref aw,.ref f]/\Nr k P w K mg base s H Q aw f ws R G U
def XG(K:Frag)(aw f td vl:Addr)(ws:List V)(G:Nat->List V->Hp->Prop)(U:Nat->V->Hp->Prop)(H:Hp)(j:Nat)(σ:St)(H':Hp):Prop:=bh H H'/\∃(s4 s5 s6:Option V)(bf:List (Key×V))(vs:List V),
 σ=[some (.ref aw),some (.ref f),some (.ref td),some (.ref vl),s4,s5,s6]/\H' td=some (.dK bf)/\H' vl=some (.lst vs)/\bf.map Prod.fst=(g7 ws j).map (λ(n:Nat)=>(Sum.inl (n:Int):Key))/\G (ws.length-j) vs H'/\
 (∀(i:Nat)(x:Str),ws.length-j<=i->ws[i]?=some (.str x)->∃v,c7 bf (Sum.inl (i:Int))=some v/\U i v H')
theorem XH{A:List (Key×V)}{k:Key}{v:V}(h:c7 A k=some v):k∈A.map Prod.fst:=by
 unfold c7 at h;cases e:A.find? λkv=>decide (kv.1=k) with
 |none=>rw[e]at h;cases h
 |some kv=>
  have:=List.find?_some e
  have e2:kv.1=k:=by simpa using this
  rw[<- e2];exact List.mem_map_of_mem (ur e)
theorem yh{k:Nat}{aP f:Addr}{fd:FuncData}(F:c9 K "all_folded" "all_folded" AH f fd)(T:Txt mg)(PT:Parts K mg aP):sO P w K mg base (k+1) f fd ["words","made"] (Ga k P w K mg base):=by
 refine F.MB vq (λs vs H Q E h=>?_) (λcI A outer s H vs Q E hr h=>?_)
 ·obtain⟨aw,f,ws,R,G,U,rfl,_⟩:=h;rfl
 ·obtain⟨aw,fm,ws,R,G,U,rfl,D⟩:=h;have hu:=hr.units;have eJ:=nh hr;refine⟨_,bD (cx (i:=2) vq.nd rfl (.inl rfl) Ms) (bD (cx (i:=3) vq.nd rfl (Or.inr rfl) (cK bq)) (bD (lx lq rfl (Wz rfl T.range (bg (bH jZ (gu (ko K rfl) rfl T.len j3 (bg (pv 0) bq)) bp) (bg (r8 sf bp) (bg (r8 sf bp) bq)))) (eL (i:=4) vq.nd rfl (.inl rfl)) (bD (cx (i:=5) vq.nd rfl (.inl rfl) (bO (cJ K rfl) (pv 0) (pv 4))) (bK (cO (oS (gu (Aw (T := "int")) rfl T.isinstance pW (bg (pv 5) (bg (sy rfl T.int sH) bq)))) (bK (l7 (jv ll rQ rR pV (pv 3) (bg (pv 5) bq)))) (bD (Au (N:=["part","values"]) (own:=1) (caps:=[3]) (i:=6) rfl vq.nd rfl rfl (qA rfl T.range (bg (ES PT.tab (jX (v:=.ref _) rfl PT.nm rfl) (pv 5) bp ⟨rfl,rfl,rfl,rfl⟩) bq)) (show j0 XE (cN AH) ["part","values"] 1 [3] _ from .mk' (by decide +kernel)) (λ_ _ _ _ _=>eL (i:=0) XD rfl (.inl rfl)) (λ_ _ _ _ _=>xv) (λ_ _ _ _ _=>xM K rfl (pv 1))) (bD (xI eJ (pv 2) (pv 4) (by exact WB (i:=1) D.fn hr rfl rfl (.inl rfl) (bg (pv 4) (bg (pv 5) (bg (pv 6) bq)))) rfl) (bK (l7 (jv ll rQ rR pV (pv 3) (bg (lF eJ (pv 2) (pv 4)) bq)))))))))) (bK (cE (pv 2))))),?_⟩
  have hz:(1000000:Nat)<=sizeLine:=by decide
  have hl:=D.len;intro td tm;refine⟨(by show 0<=sizeLine;lia),λvl yi=>?_⟩;have yj:vl≠td:=λz=>by rw[z,bz]at yi;cases yi
  have Gb:H vl=none:=by rw[cH yj]at yi;exact yi
  have s2:bh H (upd (upd H td (.dK [])) vl (.lst [])):=(bh.upd tm).trans (.upd yi);refine⟨_,rfl,aw,ws,rfl,.inr (s2.cV D.vo),_,_,rfl,rfl,_,rfl,_,rfl,_,rfl,⟨by lia,by lia⟩,?_⟩;have en:((ws.length:Int)-1+1).toNat=ws.length:=by lia
  rw[en];refine WA (XG K aw fm td vl ws G U H) ⟨s2,none,none,none,[],[],rfl,?_,bz,rfl,D.mono _ _ _ _ D.g0 s2.tup,λi x hi hx=>?_⟩ ?_ ?_
  ·rw[cH (fe yj)];exact bz
  ·rw[zF (by lia)]at hx;cases hx
  ·rintro j σ H' hj ⟨sm,s4,s5,s6,bf,vs,rfl,Br,tq,vt,hG,hU⟩;have hk:bf.length<=j:=by have:=ai List.length vt;rw[cB,cB]at this;have:=FY ws j;lia
   obtain⟨i,hi⟩:∃i,ws.length=i+1+j:=⟨ws.length-1-j,by lia⟩;have e1:(ws.length:Int)-1-(j:Nat)=((i:Nat):Int):=by lia
   have e2:ws.length-j=i+1:=by lia
   have e3:ws.length-(j+1)=i:=by lia
   rw[e1];rw[e2]at hG;have xl:=D.gY _ _ _ hG;rcases D.kind i (by lia)with⟨x,hx⟩|⟨n,hx⟩
   ·obtain⟨cG,ps,rfl,mn,XI⟩:=D.word i x vs H' hx hG;refine⟨_,rfl,_,rfl,aw,_,((i:Nat):Int),_,rfl,rfl,sm.cV D.vo,cc (j:=i) hx,?_⟩;refine⟨_,rfl,.str x,.type "str",false,rfl,.str x,Ez K,false,rfl,dE ?_⟩;have hpc:=Kt x;refine⟨rfl,_,rfl,x,rfl,((lK x:Nat):Int),by rw[XC],by lia,by lia,?_⟩;refine MH (cp:=[some (.ref vl)]) (n:=lK x) (lo:=0) (λk Hx zs=>zs=ps.take k/\Hx vl=some (.lst (cG++(ps.drop k).reverse))/\∀b,b≠vl->Hx b=H' b) (by lia) ⟨rfl,tq,λ_ _=>rfl⟩ (λk Hx zs h=>by rw[h.1];exact List.length_take_le _ _) ?_ ?_
    ·rintro k Hx zs iT ⟨rfl,h1,h2⟩;have cY:k<ps.length:=by lia
     have ex:cG++(ps.drop k).reverse=(cG++(ps.drop (k+1)).reverse)++[ps[k]]:=by rw[Dn cY,rO,fg]
     rw[ex]at h1;refine⟨_,rfl,.inl ⟨rfl,_,.of h1⟩,vl,_,ps[k],rfl,rfl,h1,by simp,sP.mk ⟨?_,?_,λb hb=>?_⟩⟩
     ·rw[rP,gk cY];rfl
     ·rw[bz,List.dropLast_concat]
     ·rw[cH hb];exact h2 b hb
    ·rintro Hx zs ⟨rfl,h1,h2⟩ pa sS;rw[List.take_of_length_le (by lia)];rw[List.drop_eq_nil_of_le (by lia),List.reverse_nil,gU]at h1;have Bs:td≠vl:=fe yj;have keep:∀b o,b≠vl->H' b=some o->(upd Hx pa (.lst ps)) b=some o:=λb o nb e=>by
      have h3:Hx b=some o:=by rw[h2 b nb];exact e
      rw[cH (gI h3 sS)];exact h3
     have Bt:bh H (upd Hx pa (.lst ps)):=λb o e=>keep b o (gI e Gb) (sm b o e);have tp:df H' (upd Hx pa (.lst ps)):=λb o e k=>keep b o (λz=>by
      subst z;rw[tq]at e;cases e;rcases k with⟨_,z⟩|⟨_,_,z⟩<;>cases z) e
     have g1:(upd Hx pa (.lst ps)) pa=some (.lst ps):=bz;have g2:(upd Hx pa (.lst ps)) vl=some (.lst cG):=by rw[cH (gI h1 sS)];exact h1
     have g3:(upd Hx pa (.lst ps)) td=some (.dK bf):=keep _ _ Bs Br;generalize upd Hx pa (.lst ps)=H2 at Bt tp g1 g2 g3;refine⟨rfl,Bt,_,rfl,_,rfl,_,rfl,Bt,XI pa H2 _ tp g1 λv H3 s3 XJ XM=>?_⟩;have Bu:cG.length<=200:=by rw[cL]at xl;lia
     refine⟨_,rfl,_,rfl,td,_,rfl,nS.k (k:=Sum.inl ((i:Nat):Int)) (s3 _ _ g3) (by lia),?_⟩;have Gd:(upd H3 td (.dK (fq bf (Sum.inl ((i:Nat):Int)) v))) vl=some (.lst cG):=by rw[cH yj];exact s3 _ _ g2
     have Nt:(upd H3 td (.dK (fq bf (Sum.inl ((i:Nat):Int)) v))) td=some (.dK (fq bf (Sum.inl ((i:Nat):Int)) v)):=bz;have Ge:c7 (fq bf (Sum.inl ((i:Nat):Int)) v) (Sum.inl ((i:Nat):Int))=some v:=by rw[Mk,ae rfl]
     refine⟨_,rfl,.inl ⟨rfl,_,.of Gd⟩,_,rfl,_,rfl,td,v,rfl,Ge▸e7.k (k:=Sum.inl ((i:Nat):Int)) Nt,vl,cG,_,rfl,rfl,Gd,by lia,?_⟩;have Gf:=(df.ET (o:=.dK (fq bf (Sum.inl ((i:Nat):Int)) v)) (s3 _ _ g3)).trans (df.lst (o:=.lst (cG++[v])) Gd);have qF:c7 bf (Sum.inl ((i:Nat):Int))=none:=by
      cases ev:c7 bf (Sum.inl ((i:Nat):Int)) with
      |none=>rfl
      |some u=>
       have hm:=XH ev;rw[vt]at hm;obtain⟨i',pe,e'⟩:=lh.mp hm
       have:=FZ ws j (by lia) i' pe
       have:=Sum.inl.inj e'
       lia
     refine⟨((Bt.trans s3).put tm).put Gb,_,_,_,_,_,rfl,by rw[cH Bs];exact Nt,bz,?_,?_,λi' x' pe jQ=>?_⟩
     ·rw[AF _ qF,ig,vt];rw[Bq,e3,hx,ae (show tf (some (V.str x))=true from rfl),ig];rfl
     ·rw[e3];exact D.mono _ _ _ _ XJ Gf
     ·rw[Mk];by_cases ei:i'=i
      ·rw[ae (by rw[ei]),ei];exact⟨v,rfl,D.F0 _ _ _ _ XM Gf⟩
      ·rw[af λz=>ei (by have:=Sum.inl.inj z;lia)];obtain⟨u,Gg,Gh⟩:=hU i' x' (by lia) jQ;exact⟨u,Gg,D.F0 _ _ _ _ Gh (tp.trans (s3.tup.trans Gf))⟩
   ·refine⟨_,rfl,_,rfl,aw,_,((i:Nat):Int),_,rfl,rfl,sm.cV D.vo,cc (j:=i) hx,?_⟩;refine⟨_,rfl,.int n,.type "int",true,rfl,.int n,Ey K,true,rfl,eE ?_⟩;refine⟨_,rfl,.inl ⟨rfl,_,.of tq⟩,_,rfl,vl,vs,_,rfl,rfl,tq,by lia,?_⟩;have Bs:td≠vl:=fe yj;refine⟨sm.put Gb,_,_,_,bf,_,rfl,by rw[cH Bs];exact Br,bz,?_,?_,λi' x' pe jQ=>?_⟩
    ·rw[vt];rw[Bq,e3,hx,af (show ¬tf (some (V.int n))=true from λz=>nomatch z)]
    ·rw[e3];exact D.mono _ _ _ _ (D.num i n vs H' hx hG) (df.lst tq)
    ·by_cases ei:i'=i
     ·rw[ei,hx]at jQ;cases jQ
     ·obtain⟨u,Gg,Gh⟩:=hU i' x' (by lia) jQ;exact⟨u,Gg,D.F0 _ _ _ _ Gh (df.lst tq)⟩
  ·rintro σ H' ⟨sm,s4,s5,s6,bf,vs,rfl,Br,tq,vt,hG,hU⟩;rw[Nat.sub_self]at hG hU;exact⟨_,rfl,D.fin td bf vs H' sm Br vt (λi x hx=>hU i x (gH _) hx) hG⟩
end S21
namespace L2
open PySem PySem.Spec PyProof.Rows
section
variable{P:Program}{w:World}{K:Frag}{mg:Str->Option Value}{base:Heap}
end
end L2
namespace S21
open PySem L2 Bw
variable{ts:List It2}
noncomputable def yk:List Value->List Int->Bool
 | [],[]=>true
 | .int i _::vs,n::ns=>i==n&&yk vs ns
 |_,_=>false
theorem Gi:∀(vs:List Value)(ns:List Int),yk vs ns=true->Vals (ns.map V.int) vs
 | [],[],_=>.nil
 | .int i t::vs,n::ns,h=>by
  have h':(i==n&&yk vs ns)=true:=h;rw[dq]at h';have e:i=n:=beq_iff_eq.mp h'.1;exact .cons ⟨t,by rw[e]⟩ (Gi vs ns h'.2)
 | [],_::_,h=>nomatch h
 | .none::_,[],h=>nomatch h
 |v::vs,[],h=>by cases v<;>exact nomatch h
 |v::vs,n::ns,h=>by
  cases v with
  |int i t=>
   have h':(i==n&&yk vs ns)=true:=h;rw[dq]at h';have e:i=n:=beq_iff_eq.mp h'.1;exact .cons ⟨t,by rw[e]⟩ (Gi vs ns h'.2)
  |_=>exact nomatch h
noncomputable def Gj(K:Frag)(t:Addr)(ns:List Int):Bool:=match K.lookup t with
 |some ⟨.type "tuple",_,.seq its _,_⟩=>decide (its.size<=1000)&&yk its.toList ns
 |_=>false
theorem XN{K:Frag}{t:Addr}{ns:List Int}(h:Gj K t ns=true)(H:Hp):cg K H t (ns.map V.int):=by
 unfold Gj at h;split at h
 case h_2=>exact nomatch h
 case h_1 d its n sl ho=>
  rw[dq]at h;exact .inr ⟨_,its,n,ho,rfl,rfl,dj (aM h.1) (by decide),Gi _ _ h.2⟩
theorem Gk:dD ["place","word","parts","unmet"] ["place","word","parts"] (cN AJ):=dU rfl rfl rfl (by decide +kernel) rfl
theorem nV.on{X:Cx}{bc:List (Addr×Obj)}{σ:St}{H1:Hp}{s1:Shared}{k:Nat}{f:Addr}{R:List V->Hp->VK->Prop}(I:Inv X bc σ H1 s1)(hex:X.ex=[])(sm:bh X.H₀ H1)(L:nV P w K mg base k X.s₀ X.H₀ f R):nV P w K mg base k s1 H1 f R:=by
 refine⟨?_,λA outer s' H' vs us Q hr e0 yl hk rv hQ=>L.run A outer s' H' vs us Q hr e0 (sm.trans yl) (λc o hc hn=>?_) rv hQ⟩
 ·rcases L.here with⟨φ,h1,h2⟩|h
  ·exact .inl ⟨φ,sm _ _ h1,h2⟩
  ·exact .inr h
 ·have xK:c ∉ X.ex:=by rw[hex];simp
  obtain⟨sl,h3⟩:=I.base.any hc hn xK;obtain⟨h4,Dv,h5⟩:=hk c _ h3 (I.base.free c o hc hn xK);exact⟨h4,Dv,h5⟩
theorem qQ.on{k:Nat}{X:Cx}{bc:List (Addr×Obj)}{σ:St}{H1:Hp}{s1:Shared}{Q Q1:VK}{aw f:Addr}{ws:List V}{R:List V->Hp->VK->Prop}{G:Nat->List V->Hp->Prop}(I:Inv X bc σ H1 s1)(hex:X.ex=[])(sm:bh X.H₀ H1)
  (D:qQ k P w K mg base X.s₀ X.H₀ Q aw f ws R G) (q:∀u H',bh H1 H'->Q u H'->Q1 u H'):qQ k P w K mg base s1 H1 Q1 aw f ws R G:=
 ⟨sm.cV D.vo,D.len,nV.on I hex sm D.fn,D.mono _ _ _ _ D.g0 sm.tup,D.mono,D.gY,D.kind,D.num,D.word,D.first,λtd bf vs v H' s' h1 h2 h3=>q _ _ s' (D.fin td bf vs v H' (sm.trans s') h1 h2 h3)⟩
def XO(Q:VK):VK:=λu H'=>∃td bf v,u=.ref td/\H' td=some (.dK bf)/\c7 bf (Sum.inl 0)=some v/\Q v H'
def Nu(k:Nat)(P:Program)(w:World)(K:Frag)(mg:Str->Option Value)(base:Heap)(s:Shared):Sp:=λvs H Q _=>∃(aw f:Addr)(ws:List V)(R:List V->Hp->VK->Prop)(G:Nat->List V->Hp->Prop),vs=[.ref aw,.ref f]/\qQ k P w K mg base s H (XO Q) aw f ws R G
theorem XQ:dD ["words","made"] ["words","made"] (cN EW):=dU rfl rfl rfl (by decide +kernel) rfl
theorem Gm{k:Nat}{f fA:Addr}{fd lL:FuncData}(F:c9 K "folded" "folded" EW f fd)
  (GA:sO P w K mg base (k+1) fA lL ["words","made"] (Ga k P w K mg base)) (kA:Kp K fA) (bA:Binds K lL ["words","made"] []) (mA:Mg mg "all_folded" fA):sO P w K mg base (k+2) f fd ["words","made"] (Nu k P w K mg base):=by
 refine F.MB XQ (λs vs H Q E h=>?_) (λcI A outer s H vs Q E hr h=>?_)
 ·obtain⟨aw,f,ws,R,G,rfl,_⟩:=h;rfl
 ·obtain⟨aw,fm,ws,R,G,rfl,D⟩:=h;refine⟨_,bK (cE (lF (nh hr) (EN GA hr rfl mA kA bA (bg (pv 0) (bg (pv 1) bq))) bp)),?_⟩;refine⟨_,rfl,_,rfl,λbc s1 I=>⟨aw,fm,ws,R,G,_,rfl,qQ.all (qQ.on I rfl (.refl _) D λu H' _ ⟨td,bf,v,e,h1,h2,h3⟩=>?_)⟩⟩;exact⟨td,v,e,h2▸e7.k (k:=Sum.inl 0) h1,h3⟩
inductive Dw where
 |box (x:Str) (l r:Nat)
 |times (n:Int)
 |back (d:Dw)
 |bt (a b:Dw)
 |bj (a b:Dw)
noncomputable def iW:List (Str×Nat×Nat):=[("id",1,1),("swap",2,2),("copy",1,2),("end",1,0),("add",2,1),("none",0,1),("cup",0,2),("empty",0,0),("late",1,1)]
noncomputable def vv:List Str:=["id","swap","copy","end","add","none","times","cup","empty","late"]
noncomputable def tD:Option Nat->Option Nat->Option Nat
 |some i,_=>some i
 |none,x=>x
namespace Dw
noncomputable def bb:Dw->List V
 |box x _ _=>[.str x]
 |times n=>[.str "times",.int n]
 |back d=>.str "back"::d.bb
 |bt a b=>.str "beside"::(a.bb++b.bb)
 |bj a b=>.str "then"::(a.bb++b.bb)
noncomputable def cq:Dw->Nat×Nat
 |box _ l r=>(l,r)
 |times _=>(1,1)
 |back d=>(d.cq.2,d.cq.1)
 |bt a b=>(a.cq.1+b.cq.1,a.cq.2+b.cq.2)
 |bj a b=>(a.cq.1,b.cq.2)
noncomputable abbrev lM(d:Dw):Nat:=d.cq.1
noncomputable abbrev lN(d:Dw):Nat:=d.cq.2
def ok(p:Int):Dw->Prop
 |box x l r=>(x,l,r)∈iW
 |times n=>0<=n/\n<p
 |back d=>d.ok p
 |bt a b=>a.ok p/\b.ok p
 |bj a b=>a.ok p/\b.ok p
noncomputable def tE:Nat->Dw->Option Nat
 |i,back d=>tE (i+1) d
 |i,bt a b=>tD (tE (i+1) a) (tE (i+1+a.bb.length) b)
 |i,bj a b=>match tD (tE (i+1) a) (tE (i+1+a.bb.length) b) with
  |some j=>some j
  |none=>if a.lN=b.lM then none else some i
 |_,_=>none
theorem pos(d:Dw):1<=d.bb.length:=by cases d<;>simp[bb]
end Dw
inductive It2 where
 |num (n:Int)
 |bu (d:Dw)
namespace It2
noncomputable def bb:It2->List V
 |num n=>[.int n]
 |bu d=>d.bb
noncomputable def head:It2->V
 |num n=>.int n
 |bu (.box x _ _)=>.str x
 |bu (.times _)=>.str "times"
 |bu (.back _)=>.str "back"
 |bu (.bt _ _)=>.str "beside"
 |bu (.bj _ _)=>.str "then"
noncomputable def kids:It2->List It2
 |num _=>[]
 |bu (.box _ _ _)=>[]
 |bu (.times n)=>[num n]
 |bu (.back d)=>[bu d]
 |bu (.bt a b)=>[bu a,bu b]
 |bu (.bj a b)=>[bu a,bu b]
def ok(p:Int):It2->Prop
 |num _=>True
 |bu d=>d.ok p
theorem qR(t:It2):t.bb=t.head::t.kids.flatMap bb:=by
 cases t with
 |num n=>rfl
 |bu d=>cases d<;>simp[bb,head,kids,Dw.bb]
theorem XR{p:Int}{t:It2}(h:t.ok p):∀u∈t.kids,u.ok p:=by
 cases t with
 |num n=>intro u hu;cases hu
 |bu d=>
  cases d with
  |box=>intro u hu;cases hu
  |times n=>intro u hu;rw[dP.mp hu];exact True.intro
  |back d=>intro u hu;rw[dP.mp hu];exact h
  |bt a b=>
   intro u hu;rcases(dI.mp hu)with z|z
   ·rw[z];exact h.1
   ·rw[dP.mp z];exact h.2
  |bj a b=>
   intro u hu;rcases(dI.mp hu)with z|z
   ·rw[z];exact h.1
   ·rw[dP.mp z];exact h.2
end It2
noncomputable def cD:List It2->Nat->List It2
 |ts,0=>ts
 | [],_+1=>[]
 |t::ts,i+1=>cD (t.kids++ts) i
theorem ym:∀i,cD [] i=[]
 |0=>rfl
 |_+1=>rfl
theorem nv:∀(i:Nat)(ts:List It2),(cD ts i).flatMap It2.bb=(ts.flatMap It2.bb).drop i
 |0,ts=>by simp[cD]
 |i+1,[]=>by simp[cD]
 |i+1,t::ts=>by
  show(cD (t.kids++ts) i).flatMap It2.bb=_;rw[nv i,oJ,iz,It2.qR t];simp
theorem It2.pos(t:It2):1<=t.bb.length:=by
 rw[It2.qR];simp
theorem xP:∀{ts:List It2},ts≠[]->0<(ts.flatMap It2.bb).length
 | [],h=>absurd rfl h
 |t::ts,_=>by
  rw[iz,cL]
  have:=t.pos
  lia
theorem Nv:∀ts:List It2,ts.length<=(ts.flatMap It2.bb).length
 | []=>cF _
 |t::ts=>by
  rw[iz,cL,fj]
  have:=t.pos
  have:=Nv ts
  lia
theorem yn:cD ts (ts.flatMap It2.bb).length=[]:=by
 cases h:cD ts (ts.flatMap It2.bb).length with
 |nil=>rfl
 |cons t r=>
  have z:=nv (ts.flatMap It2.bb).length ts;rw[h,List.drop_length]at z
  have:=xP (ts:=t::r) (by simp)
  rw[z]at this;exact absurd this (by simp)
theorem Nw{i:Nat}:(cD ts i).length<=(ts.flatMap It2.bb).length:=by
 have:=Nv (cD ts i)
 rw[nv,nK]at this;lia
theorem Gn:∀(i:Nat)(ts:List It2){t:It2}{r:List It2},cD ts i=t::r->cD ts (i+1)=t.kids++r
 |0,ts,t,r,h=>by
  have h:ts=t::r:=h;subst h;rfl
 |i+1,[],t,r,h=>by simp[cD]at h
 |i+1,u::ts,t,r,h=>Gn i (u.kids++ts) h
theorem n9{i:Nat}(h:i<(ts.flatMap It2.bb).length):∃t r,cD ts i=t::r/\(ts.flatMap It2.bb)[i]?=some t.head/\cD ts (i+1)=t.kids++r:=by
 have z:=nv i ts;cases e:cD ts i with
 |nil=>
  rw[e]at z;have z:[]=(ts.flatMap It2.bb).drop i:=z
  have:=ai List.length z
  rw[nK]at this;simp only[List.length_nil]at this;lia
 |cons t r=>
  refine⟨t,r,rfl,?_,Gn i ts e⟩;rw[e,iz,It2.qR]at z
  have:=ai (λl=>l[0]?) z
  simp only[ui,List.getElem?_cons_zero,List.getElem?_drop,Nat.add_zero]at this;exact this.symm
theorem Bv{p:Int}:∀(i:Nat){ts:List It2},(∀t∈ts,t.ok p)->∀t∈cD ts i,t.ok p
 |0,ts,h=>h
 |i+1,[],h=>by intro t ht;rw[ym]at ht;cases ht
 |i+1,t::ts,h=>Bv i (ts:=t.kids++ts) λu hu=>by
  rcases(iG.mp hu)with z|z
  ·exact It2.XR (h t c6) u z
  ·exact h u (e9 _ z)
end S21
namespace S21
open PySem L2 Bw
variable{f fM:Addr}{fd i6:FuncData}{i:Nat}{ts:List It2}
noncomputable def Gp:List (Str×Nat×Nat):=("times",1,1)::iW
noncomputable def yo(K:Frag)(aS:Addr):Bool:=pd K aS&&decide ((gQ K aS).map (·.1)=vv)&&Gp.all λe=>
 (match PyProof.Rows.KTD.datumAt e.1 (gQ K aS)with|some (.ref t)=>Gj K t [(e.2.1:Int),(e.2.2:Int)] | _=>false)
structure pq(K:Frag)(mg:Str->Option Value)(aS:Addr):Prop where
 nm:mg "SIDES"=some (.ref aS)
 ok:yo K aS=true
theorem Gq{x:Str}:∀{D:List (Str×V)},x ∉ D.map (·.1)->PyProof.Rows.KTD.datumAt x D=none
 | [],_=>rfl
 |(k,v)::D,h=>by
  have h1:x≠k:=λz=>h (by rw[z];exact c6);unfold PyProof.Rows.KTD.datumAt;rw[aa h1,af gN];exact Gq λz=>h (e9 _ z)
section
variable{K:Frag}{mg:Str->Option Value}{aS:Addr}
theorem pq.tab(B:pq K mg aS):∀h,K.In h->j5 h aS (gQ K aS):=λh X=>by
 have z:=B.ok;unfold yo at z;rw[dq,dq]at z;exact EO X z.1.1
theorem pq.keys(B:pq K mg aS):(gQ K aS).map (·.1)=vv:=by
 have z:=B.ok;unfold yo at z;rw[dq,dq]at z;exact aM z.1.2
theorem pq.at_(B:pq K mg aS){x:Str}{l r:Nat}(h:(x,l,r)∈Gp):∃t,PyProof.Rows.KTD.datumAt x (gQ K aS)=some (.ref t)/\∀H,cg K H t [.int (l:Int),.int (r:Int)]:=by
 have z:=B.ok;unfold yo at z;rw[dq]at z;have z2:=fh.mp z.2 _ h;split at z2
 ·rename_i t e
  exact⟨t,e,λH=>XN z2 H⟩
 ·exact nomatch z2
theorem pq.none(B:pq K mg aS){x:Str}(h:x ∉ vv):PyProof.Rows.KTD.datumAt x (gQ K aS)=none:=Gq (by rw[B.keys];exact h)
end
noncomputable def uV:Option Nat->V
 |none=>.cC
 |some i=>.int (i:Int)
def j7(K:Frag)(H:Hp)(a:Addr)(m:Nat×Nat×Option Nat):Prop:=cg K H a [.int (m.1:Int),.int (m.2.1:Int),uV m.2.2]
def yq(K:Frag)(H:Hp)(ps:List V)(ms:List (Nat×Nat×Option Nat)):Prop:=ps.length=ms.length/\∀(i:Nat)(v:V)(m:Nat×Nat×Option Nat),ps[i]?=some v->ms[i]?=some m->∃a,v=.ref a/\j7 K H a m
theorem yq.one{K:Frag}{H:Hp}{a:Addr}{m:Nat×Nat×Option Nat}(h:j7 K H a m):yq K H [.ref a] [m]:=⟨rfl,λi v m' e1 e2=>by
 match i,e1,e2 with
 |0,e1,e2=>cases e1;cases e2;exact⟨a,rfl,h⟩
 |i+1,e1,_=>simp at e1⟩
theorem yq.two{K:Frag}{H:Hp}{a b:Addr}{m n:Nat×Nat×Option Nat}(h:j7 K H a m)(h':j7 K H b n):yq K H [.ref a,.ref b] [m,n]:=⟨rfl,λi v m' e1 e2=>by
 match i,e1,e2 with
 |0,e1,e2=>cases e1;cases e2;exact⟨a,rfl,h⟩
 |1,e1,e2=>cases e1;cases e2;exact⟨b,rfl,h'⟩
 |i+2,e1,_=>simp at e1⟩
noncomputable def vw(ms:List (Nat×Nat×Option Nat)):Option Nat:=(ms.filterMap (·.2.2)).head?
theorem XT(m:Nat×Nat×Option Nat):vw [m]=m.2.2:=by
 unfold vw;cases h:m.2.2<;>simp[h]
theorem Nx(m n:Nat×Nat×Option Nat):vw [m,n]=tD m.2.2 n.2.2:=by
 unfold vw;cases h:m.2.2<;>cases h':n.2.2<;>simp[h,h',tD]
theorem XU:(["part"]:List Str).Nodup:=by decide +kernel
def Ny(K:Frag):Sp:=λvs H Q _=>∃(pa:Addr)(ps:List V)(ms:List (Nat×Nat×Option Nat)),vs=[.ref pa]/\H pa=some (.lst ps)/\ps.length<=10/\yq K H ps ms/\∀H',bh H H'->Q (uV (vw ms)) H'
theorem Nz:dD ["parts","unmet"] ["parts"] (cN AK):=dU rfl rfl rfl (by decide +kernel) rfl
theorem Gr(F:c9 K "first_unmet" "first_unmet" AK f fd):ck P w K mg base cA 1 f fd ["parts"] (Ny K):=by
 refine F.ok Nz (λvs H Q E h=>?_) (λcI A outer s H vs Q E hr h=>?_)
 ·obtain⟨pa,ps,ms,rfl,_⟩:=h;rfl
 ·obtain⟨pa,ps,ms,rfl,hp,hl,hm,q⟩:=h;have z:(10:Nat)<=sizeLine:=by decide
  refine⟨_,bD (Au (i:=1) (N:=["part"]) (own:=1) (caps:=[]) rfl Nz.nd rfl rfl (qM K rfl (pv 0)) (show j0 ["parts","unmet"] (cN AK) ["part"] 1 [] _ from .mk' (by decide +kernel)) (λ_ _ _ _ _=>eL (i:=0) XU rfl (.inl rfl)) (λ_ _ _ _ _=>En (cj uN (bO (cJ K rfl) (pv 0) bp) gW (cm _))) (λ_ _ _ _ _=>bO (cJ K rfl) (pv 0) bp)) (bK (cE (Kw (KW (pv 1) (λ_=>rfl)) (bO (de K rfl) (pv 1) bp) gW))),?_⟩
  refine⟨_,rfl,pa,rfl,⟨_,.of hp⟩,Ex (cp:=[]) (λi H' zs=>zs=((ms.take i).filterMap (·.2.2)).map (λj:Nat=>V.int (j:Int))) (.of hp) (by lia) rfl (λi H' zs e=>?_) ?_ ?_⟩
  ·rw[e,cB];exact dj (List.length_filterMap_le _ _) (List.length_take_le _ _)
  ·rintro i x H1 zs hx sm rfl;have hi:i<ms.length:=by rw[<- hm.1];exact(fO.mp hx).1
   obtain⟨a,rfl,ha⟩:=hm.2 i x ms[i] hx (gk hi);have et:ms.take (i+1)=ms.take i++[ms[i]]:=by rw[rP,gk hi];rfl
   refine⟨_,rfl,a,_,2,uV ms[i].2.2,rfl,rfl,sm.cV ha,cc (j:=2) rfl,rfl,_,rfl,?_⟩;cases hu:ms[i].2.2 with
   |none=>
    refine MM (λh=>absurd rfl h) (λ_=>⟨⟨[_],rfl,rfl⟩,sm,?_⟩);rw[et,List.filterMap_append];simp[hu]
   |some j=>
    rw[aa (show ¬uV (some j)=V.cC from λz=>nomatch z)]
    refine eE ⟨_,rfl,a,_,2,uV ms[i].2.2,rfl,rfl,sm.cV ha,cc (j:=2) rfl,⟨⟨[_],rfl,rfl⟩,sm,?_⟩⟩;rw[et,List.filterMap_append,hu];simp[hu,uV]
  ·rintro H1 zs sm rfl lu NA;rw[List.take_of_length_le (by rw[<- hm.1];exact cF _)];unfold vw at q;cases hz:ms.filterMap (·.2.2) with
   |nil=>
    rw[hz]at q;refine⟨_,rfl,_,.inl ⟨[],.of bz,rfl⟩,dE ?_⟩;exact q _ (sm.trans (.upd NA))
   |cons j js=>
    rw[hz]at q;refine⟨_,rfl,_,.inl ⟨_,.of bz,rfl⟩,eE ?_⟩;exact⟨_,rfl,lu,_,0,_,rfl,rfl,.of bz,cc (j:=0) rfl,q _ (sm.trans (.upd NA))⟩
def Gs(K:Frag):Sp:=λvs H Q _=>∃(x:Str)(pa:Addr)(ps:List V),vs=[.str x,.ref pa]/\H pa=some (.lst ps)/\
 ((∃(a:Addr)(m:Nat×Nat×Option Nat),x="back"/\ps=[.ref a]/\j7 K H a m/\jw K H [.int (m.2.1:Int),.int (m.1:Int)] Q)\/(∃(a b:Addr)(m n:Nat×Nat×Option Nat),x="beside"/\ps=[.ref a,.ref b]/\j7 K H a m/\j7 K H b n/\jw K H [.int ((m.1+n.1:Nat):Int),.int ((m.2.1+n.2.1:Nat):Int)] Q)\/(∃(a b:Addr)(m n:Nat×Nat×Option Nat),x="then"/\ps=[.ref a,.ref b]/\j7 K H a m/\j7 K H b n/\jw K H [.int (m.1:Int),.int (n.2.1:Int)] Q))
theorem XW:dD ["word","parts"] ["word","parts"] (cN EZ):=dU rfl rfl rfl (by decide +kernel) rfl
theorem Gu(F:c9 K "joined_sides" "joined_sides" EZ f fd):ck P w K mg base cA 1 f fd ["word","parts"] (Gs K):=by
 refine F.ok XW (λvs H Q E h=>?_) (λcI A outer s H vs Q E hr h=>?_)
 ·obtain⟨x,pa,ps,rfl,_⟩:=h;rfl
 ·obtain⟨x,pa,ps,rfl,hp,h⟩:=h;refine⟨_,bD (cO (cj cS (pv 0) bI (cm _)) (bK (cE (dh (bg (bO (cJ K rfl) (bO (de K rfl) (pv 1) bp) bp) (bg (bO (cJ K rfl) (bO (de K rfl) (pv 1) bp) bp) bq))))) cW) (bD (cO (cj cS (pv 0) bI (cm _)) (bK (cE (dh (bg (bH gC (bO (cJ K rfl) (bO (de K rfl) (pv 1) bp) bp) (bO (cJ K rfl) (bO (de K rfl) (pv 1) bp) bp)) (bg (bH gC (bO (cJ K rfl) (bO (de K rfl) (pv 1) bp) bp) (bO (cJ K rfl) (bO (de K rfl) (pv 1) bp) bp)) bq))))) cW) (bK (cE (dh (bg (bO (cJ K rfl) (bO (de K rfl) (pv 1) bp) bp) (bg (bO (cJ K rfl) (bO (de K rfl) (pv 1) bp) bp) bq)))))),?_⟩;have z2:2<=sizeLine:=by decide
  rcases h with⟨a,m,rfl,rfl,ha,q⟩|⟨a,b,m,n,rfl,rfl,ha,hb,q⟩|⟨a,b,m,n,rfl,rfl,ha,hb,q⟩
  ·refine⟨_,rfl,rfl,_,rfl,?_⟩;rw[aG rfl];exact eE ⟨_,rfl,pa,_,0,.ref a,rfl,rfl,.of hp,cc (j:=0) rfl,a,_,1,_,rfl,rfl,ha,cc (j:=1) rfl,_,rfl,pa,_,0,.ref a,rfl,rfl,.of hp,cc (j:=0) rfl,a,_,0,_,rfl,rfl,ha,cc (j:=0) rfl,z2,λt ht=>q.new ht⟩
  ·refine⟨_,rfl,rfl,_,rfl,?_⟩;rw[aa (by decide)];refine dE ⟨_,rfl,rfl,_,rfl,?_⟩;rw[aG rfl];rw[Int.natCast_add,Int.natCast_add]at q;exact eE ⟨_,rfl,pa,_,0,.ref a,rfl,rfl,.of hp,cc (j:=0) rfl,a,_,0,.int (m.1:Int),rfl,rfl,ha,cc (j:=0) rfl,_,rfl,pa,_,1,.ref b,rfl,rfl,.of hp,cc (j:=1) rfl,b,_,0,.int (n.1:Int),rfl,rfl,hb,cc (j:=0) rfl,_,_,rfl,rfl,
    _,rfl,pa,_,0,.ref a,rfl,rfl,.of hp,cc (j:=0) rfl,a,_,1,.int (m.2.1:Int),rfl,rfl,ha,cc (j:=1) rfl,_,rfl,pa,_,1,.ref b,rfl,rfl,.of hp,cc (j:=1) rfl,b,_,1,.int (n.2.1:Int),rfl,rfl,hb,cc (j:=1) rfl,_,_,rfl,rfl,z2,λt ht=>q.new ht⟩
  ·refine⟨_,rfl,rfl,_,rfl,?_⟩;rw[aa (by decide)];refine dE ⟨_,rfl,rfl,_,rfl,?_⟩;rw[aa (by decide)];exact dE ⟨_,rfl,pa,_,0,.ref a,rfl,rfl,.of hp,cc (j:=0) rfl,a,_,0,.int (m.1:Int),rfl,rfl,ha,cc (j:=0) rfl,_,rfl,pa,_,1,.ref b,rfl,rfl,.of hp,cc (j:=1) rfl,b,_,1,.int (n.2.1:Int),rfl,rfl,hb,cc (j:=1) rfl,z2,λt ht=>q.new ht⟩
inductive XX(K:Frag)(i:Nat)(x:Str)(ps:List V)(H:Hp)(Q:VK):Prop where
 |box (l r:Nat) (h:(x,l,r)∈Gp) (q:jw K H [.int (l:Int),.int (r:Int),.cC] Q)
 |back (a:Addr) (m:Nat×Nat×Option Nat) (h:x="back") (hp:ps=[.ref a]) (ha:j7 K H a m) (q:jw K H [.int (m.2.1:Int),.int (m.1:Int),uV m.2.2] Q)
 |bt (a b:Addr) (m n:Nat×Nat×Option Nat) (h:x="beside") (hp:ps=[.ref a,.ref b]) (ha:j7 K H a m) (hb:j7 K H b n) (q:jw K H [.int ((m.1+n.1:Nat):Int),.int ((m.2.1+n.2.1:Nat):Int),uV (tD m.2.2 n.2.2)] Q)
 |bj (a b:Addr) (m n:Nat×Nat×Option Nat) (h:x="then") (hp:ps=[.ref a,.ref b]) (ha:j7 K H a m) (hb:j7 K H b n)
  (q:jw K H [.int (m.1:Int),.int (n.2.1:Int),uV (match tD m.2.2 n.2.2 with|some j=>some j|none=>if m.2.1=n.1 then none else some i)] Q)
theorem XY:Str.ofString "back" ∉ vv/\Str.ofString "beside" ∉ vv/\Str.ofString "then" ∉ vv:=by decide +kernel
theorem XZ{j:Nat}:¬uV (some j)=V.cC:=λz=>nomatch z
def Gv(K:Frag):Sp:=λvs H Q _=>∃(i:Nat)(x:Str)(pa:Addr)(ps:List V),vs=[.int (i:Int),.str x,.ref pa]/\H pa=some (.lst ps)/\XX K i x ps H Q
theorem Gw{aS fU fJ:Addr}{yr qS:FuncData}(F:c9 K "measure" "measure" AJ f fd)(B:pq K mg aS)
  (GU:ck P w K mg base cA 1 fU yr ["parts"] (Ny K)) (kU:Kp K fU) (bU:Binds K yr ["parts"] []) (mU:Mg mg "first_unmet" fU)
  (GJ:ck P w K mg base cA 1 fJ qS ["word","parts"] (Gs K)) (kJ:Kp K fJ) (bJ:Binds K qS ["word","parts"] []) (mJ:Mg mg "joined_sides" fJ) :
  ck P w K mg base cA 2 f fd ["place","word","parts"] (Gv K):=by
 refine F.ok Gk (λvs H Q E h=>?_) (λcI A outer s H vs Q E hr h=>?_)
 ·obtain⟨i,x,pa,ps,rfl,_⟩:=h;rfl
 ·obtain⟨i,x,pa,ps,rfl,hp,h⟩:=h;obtain⟨nb,ns,nt⟩:=XY;refine⟨_,bD (cO (Dz (Wu B.tab (pv 1) (jX (v:=.ref _) rfl B.nm rfl)) rfl) (bK (cE (bH (AD K rfl) (Wt B.tab (jX (v:=.ref _) rfl B.nm rfl) (pv 1) (λ_ _=>rfl)) (dh (bg gW bq))))) cW) (bD (cx (i:=3) Gk.nd rfl (.inl rfl) (cZ GU hr rfl mU kU bU .nil cX (bg (pv 2) bq))) (bD (cO (PW.pt (fQ (cj cS (pv 1) bI (cm _)) (fQ (cj zZ (pv 3) gW (cm _)) (iB (cj zY (bO (cJ K rfl) (bO (de K rfl) (pv 2) bp) bp) (bO (cJ K rfl) (bO (de K rfl) (pv 2) bp) bp) (cm _)))))) (bK (cx (i:=3) Gk.nd rfl (.inl rfl) (pv 0))) cW) (bK (cE (bH (AD K rfl) (cZ GJ hr rfl mJ kJ bJ .nil cX (bg (pv 1) (bg (pv 2) bq))) (dh (bg (pv 3) bq))))))),?_⟩;have z1:1<=sizeLine:=by decide
  have qT:PyProof.Rows.KTD.datumAt x (gQ K aS)=none->∀{u:TS}{D:Ends},u D [some (.int (i:Int)),some (.str x),some (.ref pa),none] H->cu (cU (tB (MF aS (gQ K aS) (br 1) (tC (.ref aS)))) (dG (bw (xF K) (ME aS (gQ K aS) (tC (.ref aS)) (br 1)) (eX (bo (tC .cC) bQ)))) eA) u D [some (.int (i:Int)),some (.str x),some (.ref pa),none] H:=λe {u D} h=>by
   refine⟨_,rfl,x,rfl,rfl,_,rfl,?_⟩;rw[e];exact dE h
  cases h with
  |box l r hx q=>
   obtain⟨t,e,ht⟩:=B.at_ hx;refine⟨_,rfl,x,rfl,rfl,_,rfl,?_⟩;rw[e];refine eE ⟨_,rfl,x,_,rfl,rfl,e,z1,λt1 g1=>?_⟩;exact⟨t,t1,_,_,rfl,rfl,ht _,.of bz,(by show 2+1<=sizeLine;decide),λa' H' s' h'=>q a' H' ((bh.upd g1).trans s') h'⟩
  |back a m hx mn ha q=>
   subst hx;subst mn;refine qT (B.none nb) ⟨_,rfl,pa,_,[m],rfl,hp,by simp,.one ha,λH1 s1=>?_⟩;rw[XT];refine⟨_,rfl,rfl,_,rfl,?_⟩;rw[aa (by decide)];refine dE (dE ?_);refine⟨_,rfl,_,rfl,_,pa,_,rfl,s1 _ _ hp,.inl ⟨a,m,rfl,rfl,s1.cV ha,λt H2 s2 ht=>⟨_,rfl,z1,λt1 g1=>?_⟩⟩⟩;exact⟨t,t1,_,_,rfl,rfl,(bh.upd g1).cV ht,.of bz,(by show 2+1<=sizeLine;decide),λa' H' s' h'=>q a' H' ((s1.trans s2).trans ((bh.upd g1).trans s')) h'⟩
  |bt a b m n hx mn ha hb q=>
   subst hx;subst mn;refine qT (B.none ns) ⟨_,rfl,pa,_,[m,n],rfl,hp,by simp,.two ha hb,λH1 s1=>?_⟩;rw[Nx];refine⟨_,rfl,rfl,_,rfl,?_⟩;rw[aa (by decide)];refine dE (dE ?_);refine⟨_,rfl,_,rfl,_,pa,_,rfl,s1 _ _ hp,.inr (.inl ⟨a,b,m,n,rfl,rfl,s1.cV ha,s1.cV hb,λt H2 s2 ht=>⟨_,rfl,z1,λt1 g1=>?_⟩⟩)⟩;exact⟨t,t1,_,_,rfl,rfl,(bh.upd g1).cV ht,.of bz,(by show 2+1<=sizeLine;decide),λa' H' s' h'=>q a' H' ((s1.trans s2).trans ((bh.upd g1).trans s')) h'⟩
  |bj a b m n hx mn ha hb q=>
   subst hx;subst mn;refine qT (B.none nt) ⟨_,rfl,pa,_,[m,n],rfl,hp,by simp,.two ha hb,λH1 s1=>?_⟩;rw[Nx];have cG:∀{u:Option Nat}{D:Ends},D.rt=Q->jw K H [.int (m.1:Int),.int (n.2.1:Int),uV u] Q->dG (bw (xF K) (ij (Gs K) [] E0 (bo (br 1) (bo (br 2) bQ))) (eX (bo (br 3) bQ))) D [some (.int (i:Int)),some (.str (Str.ofString "then")),some (.ref pa),some (uV u)] H1:=λ{u D} hD q=>by
    refine⟨_,rfl,_,rfl,_,pa,_,rfl,s1 _ _ hp,.inr (.inr ⟨a,b,m,n,rfl,rfl,s1.cV ha,s1.cV hb,λt H2 s2 ht=>⟨_,rfl,z1,λt1 g1=>?_⟩⟩)⟩;refine⟨t,t1,_,_,rfl,rfl,(bh.upd g1).cV ht,.of bz,(by show 2+1<=sizeLine;decide),λa' H' s' h'=>?_⟩;show D.rt _ _;rw[hD];exact q a' H' ((s1.trans s2).trans ((bh.upd g1).trans s')) h'
   refine⟨_,rfl,rfl,_,rfl,?_⟩;rw[aG rfl];refine eE ⟨_,rfl,rfl,_,rfl,?_⟩;cases hu:tD m.2.2 n.2.2 with
   |some j=>
    rw[hu]at q;rw[aa XZ];exact dE (dE (cG (u:=some j) rfl q))
   |none=>
    rw[hu]at q;rw[aG (show uV none=V.cC from rfl)]
    refine eE ⟨_,rfl,pa,_,0,.ref a,rfl,rfl,.of (s1 _ _ hp),cc (j:=0) rfl,a,_,1,.int (m.2.1:Int),rfl,rfl,s1.cV ha,cc (j:=1) rfl,_,rfl,pa,_,1,.ref b,rfl,rfl,.of (s1 _ _ hp),cc (j:=1) rfl,b,_,0,.int (n.1:Int),rfl,rfl,s1.cV hb,cc (j:=0) rfl,rfl,_,rfl,MM (λz=>?_) (λz=>?_)⟩
    ·have z':¬m.2.1=n.1:=λe=>z (by rw[e]);rw[show(match(none:Option Nat)with|some j=>some j|none=>if m.2.1=n.1 then none else some i)=some i from af z']at q
     exact⟨_,rfl,cG (u:=some i) rfl q⟩
    ·have z':m.2.1=n.1:=by injection z with z;exact Int.ofNat.inj z
     rw[show(match(none:Option Nat)with|some j=>some j|none=>if m.2.1=n.1 then none else some i)=none from ae z']at q
     exact cG (u:=none) rfl q
def yu(K:Frag)(H:Hp)(i:Nat):It2->V->Prop
 | .num n,v=>v=.int n
 | .bu d,v=>∃a,v=.ref a/\j7 K H a (d.lM,d.lN,d.tE i)
inductive i7(K:Frag)(H:Hp):Nat->List It2->List V->Prop where
 |nil {i:Nat}:i7 K H i [] []
 |cons {i:Nat} {t:It2} {ts:List It2} {v:V} {vs:List V} (h:yu K H i t v) (r:i7 K H (i+t.bb.length) ts vs):i7 K H i (t::ts) (v::vs)
section
variable{K:Frag}{H H':Hp}
theorem yu.tup{t:It2}{v:V}(h:yu K H i t v)(s:df H H'):yu K H' i t v:=by
 cases t with
 |num n=>exact h
 |bu d=>
  obtain⟨a,e,hf⟩:=h;exact⟨a,e,s.cV hf⟩
theorem i7.tup{i:Nat}{ts:List It2}{vs:List V}(h:i7 K H i ts vs)(s:df H H'):i7 K H' i ts vs:=by
 induction h with
 |nil=>exact .nil
 |cons h r ih=>exact .cons (h.tup s) ih
theorem i7.len{vs:List V}(h:i7 K H i ts vs):vs.length=ts.length:=by
 induction h with
 |nil=>rfl
 |cons h r ih=>rw[fj,fj,ih]
theorem i7.split:∀{i:Nat}{ts us:List It2}{vs:List V},i7 K H i (ts++us) vs->∃xs ys,vs=xs++ys/\i7 K H i ts xs/\i7 K H (i+(ts.flatMap It2.bb).length) us ys
 |i,[],us,vs,h=>⟨[],vs,rfl,.nil,h⟩
 |i,t::ts,us,_,.cons h r=>by
  obtain⟨xs,ys,e,h1,h2⟩:=i7.split (ts:=ts) r;refine⟨_::xs,ys,by rw[e];rfl,.cons h h1,?_⟩;rw[iz,cL,<- Nat.add_assoc];exact h2
end
theorem Gx:∀e∈iW,lK e.1=0:=by decide +kernel
theorem NB:lK (Str.ofString "times")=1/\lK (Str.ofString "back")=1/\lK (Str.ofString "beside")=2/\lK (Str.ofString "then")=2:=by decide +kernel
theorem X0:dD ["words"] ["words"] (cN EY):=dU rfl rfl rfl (by decide +kernel) rfl
theorem X1:dD ["words"] ["words"] (cN EV):=dU rfl rfl rfl (by decide +kernel) rfl
def NC(K:Frag):Sp:=λvs H Q _=>∃(p:Int)(aw:Addr)(d:Dw),vs=[.ref aw]/\d.ok p/\d.bb.length<=200/\cg K H aw d.bb/\∀v H',bh H H'->j7 K H' v (d.lM,d.lN,d.tE 0)->Q (.ref v) H'
theorem Gy{fF:Addr}{lO:FuncData}(F:c9 K "measured" "measured" EY f fd)
  (GF:sO P w K mg base 4 fF lO ["words","made"] (Nu 2 P w K mg base)) (kF:Kp K fF) (bF:Binds K lO ["words","made"] []) (mF:Mg mg "folded" fF)
  (GM:ck P w K mg base cA 2 fM i6 ["place","word","parts"] (Gv K)) (FM:c9 K "measure" "measure" AJ fM i6) (bM:Binds K i6 ["place","word","parts"] []) (mM:Mg mg "measure" fM):ck P w K mg base cA 5 f fd ["words"] (NC K):=by
 refine F.ok X0 (λvs H Q E h=>?_) (λcI A outer s H vs Q E hr h=>?_)
 ·obtain⟨p,aw,d,rfl,_⟩:=h;rfl
 ·obtain⟨p,aw,d,rfl,hd,g9,hw,q⟩:=h;obtain⟨Bx,Gz,GD,GH⟩:=NB;have ew:([It2.bu d]).flatMap It2.bb=d.bb:=by simp[It2.bb]
  have og:∀t∈[It2.bu d],t.ok p:=λt ht=>by rw[dP.mp ht];exact hd
  refine⟨_,bK (cE (EN GF hr rfl mF kF bF (bg (pv 0) (bg (jX (v:=.ref _) rfl mM rfl) bq)))),?_⟩;refine⟨_,rfl,λbc s1 I=>⟨aw,fM,d.bb,λvs H' Q=>Gv K vs H' Q E0,λi vs H'=>i7 K H' i (cD [.bu d] i) vs.reverse,rfl,?_⟩⟩;refine⟨hw,g9,nV.MI GM FM bM,?_,λi vs H1 H2 h tp=>h.tup tp,λi vs H1 h=>?_,λi hi=>?_,λi n vs H1 h g=>?_,λi x vs H1 h g=>?_,?_,λtd bf vs v H' s' h1 h2 h3=>?_⟩
  ·show i7 K H d.bb.length (cD [.bu d] d.bb.length) _;have e:=yn (ts:=[.bu d]);rw[ew]at e;rw[e];exact .nil
  ·have e:=h.len;have z:=Nw (ts:=[.bu d]) (i:=i);rw[qt]at e;rw[ew]at z;lia
  ·obtain⟨t,r,e1,e2,e3⟩:=n9 (ts:=[.bu d]) (i:=i) (by rw[ew];exact hi);rw[ew]at e2;rw[e2];cases t with
   |num n=>exact .inr ⟨n,rfl⟩
   |bu d'=>cases d'<;>exact .inl ⟨_,rfl⟩
  ·obtain⟨t,r,e1,e2,e3⟩:=n9 (ts:=[.bu d]) (i:=i) (by rw[ew];exact(fO.mp h).1);rw[ew,h]at e2;cases t with
   |num m=>
    have e2:n=m:=V.int.inj (eF e2);subst e2;have g:i7 K H1 (i+1) (cD [.bu d] (i+1)) vs.reverse:=g;rw[e3]at g;show i7 K H1 i (cD [.bu d] i) (vs++[V.int n]).reverse;rw[e1,uu];exact .cons rfl g
   |bu d'=>cases d'<;>cases e2
  ·obtain⟨t,r,e1,e2,e3⟩:=n9 (ts:=[.bu d]) (i:=i) (by rw[ew];exact(fO.mp h).1);rw[ew,h]at e2;have p9:t.ok p:=Bv i og t (by rw[e1];exact c6);have g:i7 K H1 (i+1) (cD [.bu d] (i+1)) vs.reverse:=g;rw[e3]at g;obtain⟨xs,ys,ev,g1,g2⟩:=g.split;have GI:i+1+(t.kids.flatMap It2.bb).length=i+t.bb.length:=by rw[It2.qR t,fj];lia
   rw[GI]at g2;have By:vs=ys.reverse++xs.reverse:=by rw[<- uu,<- ev,List.reverse_reverse]
   refine⟨ys.reverse,xs,By,?_,?_⟩
   ·have el:=g1.len;rw[el];cases t with
    |num m=>cases e2
    |bu d'=>
     cases d' with
     |box x' l' r'=>
      have e2:x=x':=V.str.inj (eF e2);subst e2;exact(Gx _ p9).symm
     |times n=>have e2:x=_:=V.str.inj (eF e2);subst e2;exact Bx.symm
     |back d'=>have e2:x=_:=V.str.inj (eF e2);subst e2;exact Gz.symm
     |bt a b=>have e2:x=_:=V.str.inj (eF e2);subst e2;exact GD.symm
     |bj a b=>have e2:x=_:=V.str.inj (eF e2);subst e2;exact GH.symm
   ·intro pa H2 Q' tp hp hq;refine⟨i,_,pa,_,rfl,hp,?_⟩;have g1:=g1.tup tp;have g2:=g2.tup tp;have fin:∀v H3,bh H2 H3->yu K H3 i t (.ref v)->Q' (.ref v) H3:=λv H3 s3 hv=>hq (.ref v) H3 s3 (by
     show i7 K H3 i (cD [.bu d] i) _;rw[e1,uu,List.reverse_reverse];exact .cons hv (g2.tup s3.tup))
    cases t with
    |num m=>cases e2
    |bu d'=>
     cases d' with
     |box x' l' r'=>
      have e2:x=x':=V.str.inj (eF e2);subst e2;exact .box _ _ (e9 _ p9) λv H3 s3 hv=>fin v H3 s3 ⟨v,rfl,hv⟩
     |times n=>
      have e2:x=_:=V.str.inj (eF e2);subst e2;exact .box 1 1 c6 λv H3 s3 hv=>fin v H3 s3 ⟨v,rfl,hv⟩
     |back d'=>
      have e2:x=_:=V.str.inj (eF e2);cases g1 with
      |cons h1 r1=>
       cases r1;obtain⟨a,rfl,hf⟩:=h1;exact .back a _ e2 rfl hf λv H3 s3 hv=>fin v H3 s3 ⟨v,rfl,hv⟩
     |bt a b=>
      have e2:x=_:=V.str.inj (eF e2);cases g1 with
      |cons h1 r1=>
       cases r1 with
       |cons h2 r2=>
        cases r2;obtain⟨a1,rfl,hf⟩:=h1;obtain⟨a2,rfl,vx⟩:=h2;exact .bt a1 a2 _ _ e2 rfl hf vx λv H3 s3 hv=>fin v H3 s3 ⟨v,rfl,hv⟩
     |bj a b=>
      have e2:x=_:=V.str.inj (eF e2);cases g1 with
      |cons h1 r1=>
       cases r1 with
       |cons h2 r2=>
        cases r2;obtain⟨a1,rfl,hf⟩:=h1;obtain⟨a2,rfl,vx⟩:=h2;exact .bj a1 a2 _ _ e2 rfl hf vx λv H3 s3 hv=>fin v H3 s3 ⟨v,rfl,hv⟩
  ·cases d<;>exact⟨_,rfl⟩
  ·have h3:i7 K H' 0 [.bu d] (vs++[v]).reverse:=h3;rw[uu]at h3;cases h3 with
   |cons hv r=>
    obtain⟨a,rfl,hf⟩:=hv;exact⟨td,bf,_,rfl,h1,h2,q a H' s' hf⟩
def ND(K:Frag):Sp:=λvs H Q _=>∃(p:Int)(aw:Addr)(d:Dw),vs=[.ref aw]/\d.ok p/\d.bb.length<=200/\cg K H aw d.bb/\∀v H',bh H H'->cg K H' v [.int (d.lM:Int),.int (d.lN:Int)]->Q (.ref v) H'
theorem GK(F:c9 K "wires" "wires" EV f fd)
  (GM:ck P w K mg base cA 5 fM i6 ["words"] (NC K)) (kM:Kp K fM) (bM:Binds K i6 ["words"] []) (mM:Mg mg "measured" fM):ck P w K mg base cA 6 f fd ["words"] (ND K):=by
 refine F.ok X1 (λvs H Q E h=>?_) (λcI A outer s H vs Q E hr h=>?_)
 ·obtain⟨p,aw,d,rfl,_⟩:=h;rfl
 ·obtain⟨p,aw,d,rfl,hd,g9,hw,q⟩:=h;refine⟨_,bK (cE (jJ (xJ K rfl) (cZ GM hr rfl mM kM bM .nil cX (bg (pv 0) bq)) mf (iS bp))),?_⟩;refine⟨_,rfl,p,aw,d,rfl,hd,g9,hw,λv H1 s1 hv=>?_⟩;exact⟨_,rfl,v,_,rfl,hv,λt H2 s2 ht=>q t H2 (s1.trans s2) ht⟩
inductive X2(i:Nat)(x:Str)(ps:List V)(H:Hp)(Q:VK):Prop where
 |times (h:x="times") (q:∀H',bh H H'->Q (.int ((i+2:Nat):Int)) H')
 |box (h:x ≠ "times") (hp:ps=[]) (q:∀H',bh H H'->Q (.int ((i+1:Nat):Int)) H')
 |qT (qs:List V) (e:Nat) (h:x ≠ "times") (hp:ps=qs++[.int (e:Int)]) (q:∀H',bh H H'->Q (.int (e:Int)) H')
def GO:Sp:=λvs H Q _=>∃(i:Nat)(x:Str)(pa:Addr)(ps:List V),vs=[.int (i:Int),.str x,.ref pa]/\H pa=some (.lst ps)/\X2 i x ps H Q
theorem X3:dD ["place","word","parts"] ["place","word","parts"] (cN AI):=dU rfl rfl rfl (by decide +kernel) rfl
theorem NG(F:c9 K "end_of" "end_of" AI f fd):ck P w K mg base cA 1 f fd ["place","word","parts"] GO:=by
 refine F.ok X3 (λvs H Q E h=>?_) (λcI A outer s H vs Q E hr h=>?_)
 ·obtain⟨i,x,pa,ps,rfl,_⟩:=h;rfl
 ·obtain⟨i,x,pa,ps,rfl,hp,h⟩:=h;refine⟨_,bD (cO (cj cS (pv 1) bI (cm _)) (bK (cE (bH gC (pv 0) bp))) cW) (bK (cE (Kw (KW (pv 2) (λ_=>rfl)) (bO (de K rfl) (pv 2) (r8 sf bp)) (bH gC (pv 0) bp)))),?_⟩;cases h with
  |times hx q=>
   subst hx;refine⟨_,rfl,rfl,_,rfl,?_⟩;rw[aG rfl];exact eE ⟨_,rfl,_,_,rfl,rfl,q _ (.refl _)⟩
  |box hx mn q=>
   subst mn;refine⟨_,rfl,rfl,_,rfl,?_⟩;rw[aa (λz=>hx (V.str.inj z))];refine dE ⟨_,rfl,_,.inl ⟨[],.of hp,rfl⟩,dE ⟨_,rfl,_,_,rfl,rfl,q _ (.refl _)⟩⟩
  |qT qs e hx mn q=>
   subst mn;refine⟨_,rfl,rfl,_,rfl,?_⟩;rw[aa (λz=>hx (V.str.inj z))];refine dE ⟨_,rfl,_,.inl ⟨_,.of hp,rfl⟩,?_⟩;have ht:(qs++[V.int (e:Int)]).isEmpty=false:=by cases qs<;>rfl
   rw[ht];exact eE ⟨_,rfl,_,rfl,pa,_,-1,_,rfl,rfl,.of hp,Ld _ _,q _ (.refl _)⟩
noncomputable def jz:Nat->List It2->List V
 |_,[]=>[]
 |i,.num n::ts=>.int n::jz (i+1) ts
 |i,.bu d::ts=>.int ((i+d.bb.length:Nat):Int)::jz (i+d.bb.length) ts
theorem Bz:∀(i:Nat)(ts:List It2),(jz i ts).length=ts.length
 |_,[]=>rfl
 |i,.num n::ts=>by rw[fj,<- Bz (i+1) ts];rfl
 |i,.bu d::ts=>by rw[fj,<- Bz (i+d.bb.length) ts];rfl
theorem GQ:∀(i:Nat)(ts us:List It2),jz i (ts++us)=jz i ts++jz (i+(ts.flatMap It2.bb).length) us
 |_,[],_=>rfl
 |i,.num n::ts,us=>by
  show V.int n::jz (i+1) (ts++us)=V.int n::(jz (i+1) ts++_);rw[GQ (i+1) ts us,iz,cL,show It2.bb (.num n)=[V.int n] from rfl,List.length_singleton,Nat.add_assoc]
 |i,.bu d::ts,us=>by
  show V.int _::jz (i+d.bb.length) (ts++us)=V.int _::(jz (i+d.bb.length) ts++_);rw[GQ (i+d.bb.length) ts us,iz,cL,show It2.bb (.bu d)=d.bb from rfl,Nat.add_assoc]
def NH(d:Dw)(i:Nat)(v:V):Prop:=∀d' r,cD [.bu d] i=.bu d'::r->v=.int ((i+d'.bb.length:Nat):Int)
structure vy(bf:List (Key×V))(d:Dw):Prop where
 keys:bf.map Prod.fst=(g7 d.bb d.bb.length).map (λ(n:Nat)=>(Sum.inl (n:Int):Key))
 at':∀(i:Nat)(x:Str),d.bb[i]?=some (.str x)->∃v,c7 bf (Sum.inl (i:Int))=some v/\NH d i v
def GY(K:Frag):Sp:=λvs H Q _=>∃(p:Int)(aw:Addr)(d:Dw),vs=[.ref aw]/\d.ok p/\d.bb.length<=200/\cg K H aw d.bb/\∀td bf H',bh H H'->H' td=some (.dK bf)->vy bf d->Q (.ref td) H'
theorem X4:dD ["words"] ["words"] (cN EX):=dU rfl rfl rfl (by decide +kernel) rfl
theorem NI{fA:Addr}{lL:FuncData}(F:c9 K "ends" "ends" EX f fd)
  (GA:sO P w K mg base 2 fA lL ["words","made"] (Ga 1 P w K mg base)) (kA:Kp K fA) (bA:Binds K lL ["words","made"] []) (mA:Mg mg "all_folded" fA)
  (GM:ck P w K mg base cA 1 fM i6 ["place","word","parts"] GO) (FM:c9 K "end_of" "end_of" AI fM i6) (bM:Binds K i6 ["place","word","parts"] []) (mM:Mg mg "end_of" fM):ck P w K mg base cA 3 f fd ["words"] (GY K):=by
 refine F.ok X4 (λvs H Q E h=>?_) (λcI A outer s H vs Q E hr h=>?_)
 ·obtain⟨p,aw,d,rfl,_⟩:=h;rfl
 ·obtain⟨p,aw,d,rfl,hd,g9,hw,q⟩:=h;obtain⟨Bx,Gz,GD,GH⟩:=NB;have ew:([It2.bu d]).flatMap It2.bb=d.bb:=by simp[It2.bb]
  have og:∀t∈[It2.bu d],t.ok p:=λt ht=>by rw[dP.mp ht];exact hd
  refine⟨_,bK (cE (EN GA hr rfl mA kA bA (bg (pv 0) (bg (jX (v:=.ref _) rfl mM rfl) bq)))),?_⟩;refine⟨_,rfl,λbc s1 I=>⟨aw,fM,d.bb,λvs H' Q=>GO vs H' Q E0,λi vs _=>vs.reverse=jz i (cD [.bu d] i),λi v _=>NH d i v,rfl,?_⟩⟩;refine⟨hw,g9,nV.MI GM FM bM,?_,λi vs H1 H2 h tp=>h,λi v H1 H2 h tp=>h,λi vs H1 h=>?_,λi hi=>?_,λi n vs H1 h g=>?_,λi x vs H1 h g=>?_,λtd bf vs H' s' h1 h2 h3 _=>q td bf H' s' h1 ⟨h2,h3⟩⟩
  ·have e:=yn (ts:=[.bu d]);rw[ew]at e;show[]=jz _ (cD [.bu d] d.bb.length);rw[e];rfl
  ·have e:=ai List.length h;have z:=Nw (ts:=[.bu d]) (i:=i);rw[qt,Bz]at e;rw[ew]at z;lia
  ·obtain⟨t,r,e1,e2,e3⟩:=n9 (ts:=[.bu d]) (i:=i) (by rw[ew];exact hi);rw[ew]at e2;rw[e2];cases t with
   |num n=>exact .inr ⟨n,rfl⟩
   |bu d'=>cases d'<;>exact .inl ⟨_,rfl⟩
  ·obtain⟨t,r,e1,e2,e3⟩:=n9 (ts:=[.bu d]) (i:=i) (by rw[ew];exact(fO.mp h).1);rw[ew,h]at e2;cases t with
   |num m=>
    have e2:n=m:=V.int.inj (eF e2);subst e2;have g:vs.reverse=jz (i+1) (cD [.bu d] (i+1)):=g;rw[e3]at g;show(vs++[V.int n]).reverse=jz i (cD [.bu d] i);rw[e1,uu,g];rfl
   |bu d'=>cases d'<;>cases e2
  ·obtain⟨t,r,e1,e2,e3⟩:=n9 (ts:=[.bu d]) (i:=i) (by rw[ew];exact(fO.mp h).1);rw[ew,h]at e2;have p9:t.ok p:=Bv i og t (by rw[e1];exact c6);have g:vs.reverse=jz (i+1) (cD [.bu d] (i+1)):=g;rw[e3,GQ]at g;have By:vs=(jz (i+1+(t.kids.flatMap It2.bb).length) r).reverse++(jz (i+1) t.kids).reverse:=by rw[<- uu,<- g,List.reverse_reverse]
   cases t with
   |num m=>cases e2
   |bu d'=>
    have GI:i+1+((It2.bu d').kids.flatMap It2.bb).length=i+d'.bb.length:=by
     have:=ai List.length (It2.qR (.bu d'))
     rw[fj,show It2.bb (.bu d')=d'.bb from rfl]at this
     lia
    rw[GI]at By;refine⟨_,_,By,?_,?_⟩
    ·rw[Bz];have e2:V.str x=(It2.bu d').head:=eF e2;cases d' with
     |box x' l' r'=>cases e2;exact(Gx _ p9).symm
     |times n=>cases e2;exact Bx.symm
     |back d'=>cases e2;exact Gz.symm
     |bt a b=>cases e2;exact GD.symm
     |bj a b=>cases e2;exact GH.symm
    ·intro pa H2 Q' tp hp hq;have fin:∀(e:Nat) H3,bh H2 H3->e=i+d'.bb.length->Q' (.int (e:Int)) H3:=λe H3 s3 he=>hq _ H3 s3 (by
      show(_++[V.int (e:Int)]).reverse=jz i (cD [.bu d] i);rw[e1,uu,List.reverse_reverse,he];rfl) (by
      intro d2 r2 z;rw[e1]at z;cases z;rw[he])
     refine⟨i,x,pa,_,rfl,hp,?_⟩;have e2:V.str x=(It2.bu d').head:=eF e2;cases d' with
     |box y l r=>cases e2;exact .box (λz=>absurd (Gx _ p9) (by rw[z];show ¬lK "times"=0;rw[Bx];decide)) rfl λH3 s3=>fin _ H3 s3 (by simp[Dw.bb])
     |times n=>cases e2;exact .times rfl λH3 s3=>fin _ H3 s3 (by simp[Dw.bb])
     |back a=>cases e2;exact .qT [] _ (by decide) rfl λH3 s3=>fin _ H3 s3 (by simp[Dw.bb];lia)
     |bt a b=>cases e2;exact .qT [_] _ (by decide) rfl λH3 s3=>fin _ H3 s3 (by simp[Dw.bb];lia)
     |bj a b=>cases e2;exact .qT [_] _ (by decide) rfl λH3 s3=>fin _ H3 s3 (by simp[Dw.bb];lia)
theorem GZ:∀(i j:Nat)(ts:List It2),cD ts (i+j)=cD (cD ts i) j
 |0,j,ts=>by rw[Nat.zero_add];cases ts<;>rfl
 |i+1,j,[]=>by rw[ym,ym,ym]
 |i+1,j,t::ts=>by
  rw[Nat.succ_add];show cD (t.kids++ts) (i+j)=cD (cD (t.kids++ts) i) j;exact GZ i j _
theorem NJ:∀(n:Nat)(ts r:List It2),(ts.flatMap It2.bb).length=n->cD (ts++r) n=r
 |0,[],r,_=>by cases r<;>rfl
 |0,t::ts,r,h=>absurd (xP (ts:=t::ts) (by simp)) (by lia)
 |n+1,[],r,h=>by cases h
 |n+1,t::ts,r,h=>by
  show cD (t.kids++(ts++r)) n=r;rw[<- fg];refine NJ n (t.kids++ts) r ?_;rw[iz,It2.qR t,ui,fj,cL]at h;rw[oJ,cL];lia
theorem X5{t:It2}{r:List It2}:cD (t::r) t.bb.length=r:=NJ _ [t] r (by simp)
theorem X6{r:List It2}{t:It2}(h:cD ts i=t::r):cD ts (i+t.bb.length)=r:=by rw[GZ,h,X5]
theorem X7{r:List It2}{t:It2}(h:cD ts i=t::r):((ts.flatMap It2.bb).drop i).take t.bb.length=t.bb:=by
 rw[<- nv,h,iz,List.take_left' rfl]
theorem G0{r:List It2}{t:It2}(h:cD ts i=t::r):i+t.bb.length<=(ts.flatMap It2.bb).length:=by
 have e:=ai List.length (nv i ts);rw[h,iz,cL,nK]at e
 have:=t.pos
 lia
def It2.okN(p:Int):It2->Prop
 | .num n=>0<=n/\n<p
 | .bu d=>d.ok p
theorem X8{p:Int}{t:It2}(h:t.okN p):∀u∈t.kids,u.okN p:=by
 cases t with
 |num n=>intro u hu;cases hu
 |bu d=>
  cases d with
  |box=>intro u hu;cases hu
  |times n=>intro u hu;rw[dP.mp hu];exact h
  |back d=>intro u hu;rw[dP.mp hu];exact h
  |bt a b=>
   intro u hu;rcases(dI.mp hu)with z|z
   ·rw[z];exact h.1
   ·rw[dP.mp z];exact h.2
  |bj a b=>
   intro u hu;rcases(dI.mp hu)with z|z
   ·rw[z];exact h.1
   ·rw[dP.mp z];exact h.2
theorem NK{p:Int}:∀(i:Nat){ts:List It2},(∀t∈ts,t.okN p)->∀t∈cD ts i,t.okN p
 |0,ts,h=>by intro t ht;cases ts<;>exact h t ht
 |i+1,[],h=>by intro t ht;rw[ym]at ht;cases ht
 |i+1,t::ts,h=>NK i (ts:=t.kids++ts) λu hu=>by
  rcases(iG.mp hu)with z|z
  ·exact X8 (h t c6) u z
  ·exact h u (e9 _ z)
theorem vy.get{bf:List (Key×V)}{d d':Dw}{r:List It2}(E:vy bf d)(h:cD [.bu d] i=.bu d'::r):c7 bf (Sum.inl (i:Int))=some (.int ((i+d'.bb.length:Nat):Int)):=by
 have ew:([It2.bu d]).flatMap It2.bb=d.bb:=by simp[It2.bb]
 have hl:=G0 h;have hp:=(It2.bu d').pos;obtain⟨t,r',e1,e2,_⟩:=n9 (ts:=[.bu d]) (i:=i) (by lia);rw[h]at e1;cases e1;rw[ew]at e2;obtain⟨x,hx⟩:∃x,(It2.bu d').head=.str x:=by cases d'<;>exact⟨_,rfl⟩
 rw[hx]at e2;obtain⟨v,h1,h2⟩:=E.at' i x e2;rw[h1,h2 d' r h]
noncomputable def gR:List Str:=["A","B","C","D"]
noncomputable def iK:List Str:=["k","l"]
noncomputable def j8:V->Str
 | .str x=>x
 | .int n=>toString n
 |_=>Str.empty
noncomputable def dF:List Str->List It2->List (Str×List V)->Option (Option (List (Str×List V)))
 | [],_,acc=>some (some acc)
 |_::_,[],_=>none
 |x::xs,t::ts,acc=>
  if x∈gR then match t with
   | .bu d=>if x∈acc.map Prod.fst then none else dF xs ts (acc++[(x,d.bb)])
   | .num _=>none
  else if x∈iK then match t with
   | .num n=>if x∈acc.map Prod.fst then none else dF xs ts (acc++[(x,[.int n])])
   | .bu _=>none
  else if j8 t.head=x then dF xs (t.kids++ts) acc else some none
end S21
namespace L2
open PySem PySem.Spec PyProof.Rows
section
variable{prog:Program}{w:World}{κ:Type} [DecidableEq κ] {kd:KeyKind prog w κ}
variable{s:Shared}{A:Around}{E:QV}
end
end L2
namespace L2
open PySem PySem.Spec PyProof.Rows PySem.W
variable{d:Addr}{ep:Nat}{es:Array DictEntry}
section
variable{w:World}{prog:Program}
def j9(h:Heap)(d:Addr)(es:Array DictEntry)(ep:Nat):Prop:=∃ob,h.get? d=some ob/\ob.ExactDict/\ob.data=.dict es ep
theorem j9.typeIs{s:Shared}(x:j9 s.heap d es ep):s.TypeIs (.ref d) "dict":=let ⟨ob,e,c,_⟩:=x;⟨ob,e,c.1⟩
theorem j9.up{h h':Heap}(x:j9 h d es ep)(k:∀o,h.get? d=some o->h'.get? d=some o):j9 h' d es ep:=let ⟨ob,e,r⟩:=x;⟨ob,k _ e,r⟩
theorem j9.lt{h:Heap}(x:j9 h d es ep):d<h.objs.size:=let ⟨_,e,_⟩:=x;dH e
variable{A:Around}{E:QV}{s:Shared}{it d:Addr}{es:Array DictEntry}{i ep:Nat}
theorem G1{Q:QV}(lo:(d==sysModules)=false)(hm:j9 s.heap d es ep)
  (q:Q (.ref s.heap.objs.size) { s with heap:=s.heap.push { cls:=.type "dict_keyiterator",data:=.fields #[.ref d,.int 0 0,.int es.size 0,.int ep 0] } }):wpAny (model prog w) A (pyIter (.ref d)) Q E s:=by
 have ty:=hm.typeIs;obtain⟨ob,e,c,ed⟩:=hm;refine wpAny_pyIter_slot ty PySem.F.slot_dict_iter (aE PySem.F.slot_dict_iter ty PySem.F.entry_dict_iter ?_ (PySem.F.args_dict_iter_1 _));unfold Builtin.«dict.__iter__» Builtin.Dict.dictSlotNone;refine ak ?_;refine ak (wpAny_notOrdered_dict ty ?_);refine(au (a:=Value.ref d) ?_);show wpAny _ _ ((Builtin.Dict.showsAll d) >>= _) _ _ s;unfold Builtin.Dict.showsAll;rw[af (by rw[lo];decide)];refine ak (au ?_);refine ak (wpAny_dictEntries e ed ?_);refine ak (wpAny_dictEpoch e ed ?_);refine ak (aF (au ⟨_,rfl,"dict_keyiterator",_,⟨_,gT _ rfl,rfl⟩,(Dp).lookup,?_⟩));simpa[rawInt]using q
theorem G2{Q:Option Value->Shared->Prop}(hit:s.heap.IsKeyIter it d i es.size ep)(hm:j9 s.heap d es ep)(cY:i<es.size)
  (q:∀h',h'.IsKeyIter it d (i+1) es.size ep->Heap.SameBut it s.heap h'->Q (some es[i].key) { s with heap:=h' }):wpAny (model prog w) A (pyNext (.ref it)) Q E s:=by
 have ty:=hit.typeIs;obtain⟨oi,ei,ci,di⟩:=id hit;obtain⟨ob,e,c,ed⟩:=id hm;unfold pyNext;refine ak (aH (aC (name:=Str.ofString "__next__") ty Dp (aE Dp ty PySem.F.entry_dict_keyiterator_next ?_ (PySem.F.args_dict_keyiterator_next_1 _))));refine ak (au ?_);refine ak ?_;refine ak ?_;first
  |refine ak (aO ty (au ?_))
  |refine ak (aQ ty (au ?_))
 refine ak (wpAny_fieldsOf ei di ?_);have own:Builtin.Dict_items.ownsTuple "dict_keyiterator"=false:=by decide
 simp only[own,if_false,zD];show wpAny _ _ (if(Value.ref d == .none)=true then _ else _) _ _ s
 rw[af (show ¬(Value.ref d == .none)=true from gN)]
 refine ak (au ?_);refine ak (wpAny_dictEntries e ed ?_);rw[af (by simp)];refine ak (au ?_);refine ak (wpAny_dictEpoch e ed ?_);rw[af (by simp)];refine au ?_;simp only[show ¬((i:Int)<0) from(by lia),if_false,Int.toNat_natCast,pM cY]
 refine ak ?_;first
  |refine ak (aO ty (au ?_))
  |refine ak (aQ ty (au ?_))
 refine ak (wpAny_isOneOf_keyiter ty ?_);show wpAny _ _ ((setField (.ref it) 1 (rawInt ((i:Int)+1))) >>= _) _ _ s;refine ak (aT ei di (by simp) ?_);have BA:(s.heap.update it (Obj.mapFields (·.setIfInBounds 1 (rawInt ((i:Int)+1))))).IsKeyIter it d (i+1) es.size ep:=
  ⟨_,rN _ ei (Obj.isFreed_of_fields (Obj.data_mapFields di _)),((Obj.cls_mapFields ..).trans ci),(by rw[Obj.data_mapFields di];simp[rawInt])⟩
 refine ak (ao (ak ?_));refine(wpAny_isOneOf_keyiter (s:=({ s with heap:=s.heap.update it (Obj.mapFields (·.setIfInBounds 1 (rawInt ((i:Int)+1)))) }:Shared)) BA.typeIs ?_);show wpAny _ _ (pure es[i].key) _ _ (_:Shared);exact au (au ⟨_,rfl,au (q _ BA (Heap.SameBut.update ..))⟩)
theorem G3{Q:Option Value->Shared->Prop}(hh:A.handled=none)(hit:s.heap.IsKeyIter it d i es.size ep)(hm:j9 s.heap d es ep)(NL:es.size<=i)
  (q:∀h',Heap.ExtBut it s.heap h'->Q none { s with heap:=h' }):wpAny (model prog w) A (pyNext (.ref it)) Q E s:=by
 have ty:=hit.typeIs;obtain⟨oi,ei,ci,di⟩:=id hit;obtain⟨ob,e,c,ed⟩:=id hm;unfold pyNext;refine ak (aH (aC (name:=Str.ofString "__next__") ty Dp (aE Dp ty PySem.F.entry_dict_keyiterator_next ?_ (PySem.F.args_dict_keyiterator_next_1 _))));refine ak (au ?_);refine ak ?_;refine ak ?_;first
  |refine ak (aO ty (au ?_))
  |refine ak (aQ ty (au ?_))
 refine ak (wpAny_fieldsOf ei di ?_);have own:Builtin.Dict_items.ownsTuple "dict_keyiterator"=false:=by decide
 simp only[own,if_false,zD];show wpAny _ _ (if(Value.ref d == .none)=true then _ else _) _ _ s
 rw[af (show ¬(Value.ref d == .none)=true from gN)]
 refine ak (au ?_);refine ak (wpAny_dictEntries e ed ?_);rw[af (by simp)];refine ak (au ?_);refine ak (wpAny_dictEpoch e ed ?_);rw[af (by simp)];refine au ?_;simp only[show ¬((i:Int)<0) from(by lia),if_false,Int.toNat_natCast,Array.getElem?_eq_none NL]
 refine ak ?_;first
  |refine ak (aO ty (au ?_))
  |refine ak (aQ ty (au ?_))
 show wpAny _ _ ((setField (.ref it) 0 .none) >>= _) _ _ s;refine ak (aT ei di (by simp) ?_);show wpAny _ _ ((newExc (.type "StopIteration") []) >>= _) _ _ (_:Shared);refine ak ?_;simp only[newExc,newTuple];refine ak (aF (hd:=by size_fits) ?_);refine ak (m:=firstArgMember _ _) (wpAny_of_eq (a:=Value.none) (by first|rfl|(simp only[firstArgMember]<;>rfl)) ?_)
 refine aF (hd:=by size_fits) ?_;simp only[raiseNew];refine ak (wpAny_handled (?_:_));rw[show(A.in1).handled=none from hh]
 refine ak (au (wpAny_throw (ak ?_)));refine(wpAny_isInstance (T := "StopIteration") (b:=true) (⟨_,gT _ rfl,rfl⟩) isSubtype_stop ?_);exact au (q _ ((Heap.SameBut.update ..).extBut.push _ |>.push _))
theorem X9(hh:A.handled=none)(I d:Addr)(dX:d≠I)(es:Array DictEntry)(ep:Nat) :
  Walks prog w A I [I,d] [I] es.size (λi v=>∃e,es[i]?=some e/\v=e.key) (λi h=>h.IsKeyIter I d i es.size ep/\j9 h d es ep) where
 sub:=λb hb=>by rw[dP.mp hb];exact c6
 frame:=λ_ _ _ st hk=>⟨st.1.at (λo e=>hk I (by simp) o e),st.2.up (λo e=>hk d (by simp) o e)⟩
 item:=λi s Q E hi st hQ=>by
  refine G2 st.1 st.2 hi λh' BA sb=>?_;exact hQ _ h' s.toks ⟨_,pM hi,rfl⟩ ⟨BA,st.2.up λo e=>(sb.2 d dX).trans e⟩ λb o hb e=>sb.extBut b o (λz=>hb (by simp[z])) e
 done:=λs Q E st hQ=>(G3 hh st.1 st.2 (cF _)) λh' G4=>hQ h' s.toks λb o hb e=>G4 b o (λz=>hb (by simp[z])) e
 self:=λ_ _ _ _ st hQ=>(wpAny_pyIter_keyiter st.1 hQ)
theorem Ya(lo:(d==sysModules)=false):KdlSrc prog w "dict" d d es.size (λi v=>∃e,es[i]?=some e/\v=e.key) (λh=>j9 h d es ep) where
 type:=λ_ hm=>hm.typeIs
 there:=λ_ hm=>⟨hm.lt,hm.lt⟩
 keep:=λ_ _ hm hk=>hm.up λo e=>hk d (.inl rfl) o e
 notList:=by decide
 notTuple:=by decide
 hint:=λ_ _ _ _ hm hq=>kdl_hint_dict hm.typeIs hq
 iter:=λ_ _ hh hm=>⟨_,_,(λ_ _ hq=>G1 lo hm hq),X9 hh _ d (fK hm.lt) es ep,⟨⟨_,gT _ rfl,rfl,rfl⟩,hm.up λo e=>dJ _ e⟩⟩
end
abbrev NM(κ:Type):=κ×Addr×V
section
variable{P:Program}{w:World}{κ:Type} [DecidableEq κ] {kn:HeapKind P w κ} {H:Hp} {h:Heap} {a:Addr} {xs:List (NM κ)}
end
section
variable{X:Cx}{κ:Type} [DecidableEq κ] {kn:HeapKind X.prog X.w κ} {R:Hp->κ->Addr->Prop} {bc:List (Addr×Obj)} {σ:St} {H:Hp} {s:Shared} {a b:Addr} {xs:List (NM κ)} {k:κ} {v d:V} {u r:Value} {A:Around} {E:QV}
end
section
variable{X:Cx}{κ:Type} [DecidableEq κ] {kn:HeapKind X.prog X.w κ} {R:Hp->κ->Addr->Prop} {o i e f value:Expr} {pos jY gX dW:Pos} {td ty tv tx:TE}
end
abbrev Pr:=List Int×List Int
theorem items_int{P:Program}{w:World}:∀{ks:List Int}{us:List Value},Vals (ks.map V.int) us->ItemsAre (intKind P w) ks us
 | [],_,.nil=>.nil
 |k::ks,_,.cons r t=>by
  obtain⟨tk,rfl⟩:=r;exact .cons (by show Value.isInt k (.int k tk)=true;simp[Value.isInt]) (items_int t)
section
variable{X:Cx}{K:Frag}{P:Program}{w:World}{bc:List (Addr×Obj)}{σ:St}{H:Hp}{s:Shared}
end
section
variable{K:Frag}{H H':Hp}{VS:List V}{ps:List Pr}
end
end L2
namespace S21
open PySem L2 Bw
variable{H:Hp}{a:Addr}{bf:List (Key×V)}
theorem BB(x:Str)(L:List Str):il (.str x) (L.map V.str)=decide (x∈L):=by
 unfold il;rw[List.any_map];induction L with
 |nil=>rfl
 |cons a L ih=>
  rw[List.any_cons,ih];show(a==x||decide (x∈L))=decide (x∈a::L);by_cases e:a=x
  ·rw[e,aU,Bool.true_or,aG c6]
  ·rw[beq_eq_false_iff_ne.mpr e,Bool.false_or];exact decide_eq_decide.mpr ⟨e9 _,λh=>(dI.mp h).resolve_left λz=>e z.symm⟩
def eO(K:Frag)(H:Hp):List (Key×V)->List (Str×List V)->Prop
 | [],[]=>True
 |kv::bf,e::env=>kv.1=Sum.inr e.1/\(∃a,kv.2=.ref a/\cg K H a e.2)/\eO K H bf env
 |_,_=>False
theorem eO.tup{K:Frag}{H H':Hp}(s:df H H'):∀{bf:List (Key×V)}{env:List (Str×List V)},eO K H bf env->eO K H' bf env
 | [],[],_=>trivial
 |_::_,_::_,⟨h1,⟨a,h2,h3⟩,h4⟩=>⟨h1,⟨a,h2,s.cV h3⟩,eO.tup s h4⟩
 | [],_::_,h=>h.elim
 |_::_,[],h=>h.elim
theorem eO.keys{K:Frag}{H:Hp}:∀{bf:List (Key×V)}{env:List (Str×List V)},eO K H bf env->bf.map Prod.fst=env.map λe=>Sum.inr e.1
 | [],[],_=>rfl
 |_::_,_::_,⟨h1,_,h4⟩=>by rw[ee,ee,h1,eO.keys h4]
 | [],_::_,h=>h.elim
 |_::_,[],h=>h.elim
theorem eO.len{K:Frag}{env:List (Str×List V)}(h:eO K H bf env):bf.length=env.length:=by
 have:=ai List.length h.keys
 rwa[cB,cB]at this
theorem Yb{k:Key}{v:V}:c7 ((k,v)::bf) k=some v:=by
 unfold c7;rw[List.find?_cons_of_pos (by simp)];rfl
theorem NO{k k':Key}{v:V}(h:k'≠k):c7 ((k',v)::bf) k=c7 bf k:=by
 unfold c7;rw[List.find?_cons_of_neg (by simpa using h)]
theorem eO.miss{K:Frag}{H:Hp}{x:Str}:∀{bf:List (Key×V)}{env:List (Str×List V)},eO K H bf env->x ∉ env.map Prod.fst->c7 bf (Sum.inr x)=none
 | [],[],_,_=>rfl
 |(k,v)::bf,e::env,⟨h1,_,h4⟩,hx=>by
  rw[ee,dI,not_or]at hx
  have:=eO.miss h4 hx.2
  cases h1;exact(NO λz=>hx.1 (Sum.inr.inj z).symm).trans this
 | [],_::_,h,_=>h.elim
 |_::_,[],h,_=>h.elim
theorem eO.hit{K:Frag}{H:Hp}{x:Str}{ws:List V}:∀{bf:List (Key×V)}{env:List (Str×List V)},eO K H bf env->env.lookup x=some ws->∃a,c7 bf (Sum.inr x)=some (.ref a)/\cg K H a ws
 | [],[],_,h=>by cases h
 |(k,v)::bf,(y,us)::env,⟨h1,⟨a,h2,h3⟩,h4⟩,h=>by
  cases h1;cases h2;rw[pL]at h;by_cases e:x=y
  ·subst e;rw[aU]at h;cases h;exact⟨a,Yb,h3⟩
  ·rw[beq_eq_false_iff_ne.mpr e]at h;obtain⟨b,e1,e2⟩:=eO.hit h4 h;exact⟨b,(NO λz=>e (Sum.inr.inj z).symm).trans e1,e2⟩
 | [],_::_,h,_=>h.elim
 |_::_,[],h,_=>h.elim
theorem eO.snoc{K:Frag}{H:Hp}{x:Str}{ws:List V}{a:Addr}(g:cg K H a ws):∀{bf:List (Key×V)}{env:List (Str×List V)},eO K H bf env->eO K H (bf++[(Sum.inr x,.ref a)]) (env++[(x,ws)])
 | [],[],_=>⟨rfl,⟨a,rfl,g⟩,trivial⟩
 |_::_,_::_,⟨h1,h2,h4⟩=>⟨h1,h2,eO.snoc g h4⟩
 | [],_::_,h=>h.elim
 |_::_,[],h=>h.elim
theorem ka{b:Bool}{A B:Prop}(h:b=true)(q:A):if b=true then A else B:=by rw[ae h];exact q
theorem kc{b:Bool}{A B:Prop}(h:b=false)(q:B):if b=true then A else B:=by rw[af (by rw[h];decide)];exact q
def Yc:List V->Hp->VK->Prop:=λxs H Q=>(∃x,xs=[.str x]/\Q (.str x) H)\/(∃i:Int,xs=[.int i]/\i.natAbs.log2<1920/\Q (.str (toString i)) H)
theorem Yd{X:Cx}:eW X (.type "str") Yc:=Xm
theorem NP{n:Int}(h0:0<=n)(h:n<200):n.natAbs.log2<1920:=by
 obtain⟨m,rfl⟩:∃m:Nat,n=m:=⟨n.toNat,by lia⟩
 have:((m:Int).natAbs).log2<=m:=by
  rw[Int.natAbs_natCast];exact Nat.log2_le_self m
 lia
theorem NQ{ws us:List V}{i n:Nat}(h:i+n<=ws.length)(e:(ws.drop i).take n=us):iJ ws (some (i:Int)) (some ((i+n:Nat):Int))=us:=by
 have e1:HT.cQ ws.length 0 (some (i:Int))=i:=by rw[HT.Ad];lia
 have e2:HT.cQ ws.length ws.length (some ((i+n:Nat):Int))=i+n:=by rw[HT.Ad];lia
 unfold iJ;rw[e1,e2,Nat.add_sub_cancel_left];exact e
structure Lets(K:Frag)(mg:Str->Option Value)(aD aN:Addr):Prop where
 mD:mg "ANY_DRAWING"=some (.ref aD)
 mN:mg "ANY_NUMBER"=some (.ref aN)
 hD:∀H,cg K H aD (gR.map V.str)
 hN:∀H,cg K H aN (iK.map V.str)
theorem yv{H':Hp}{u:HO}(h:Rd H a u)(s:bh H H'):Rd H' a u:=h.elim (λz=>.inl (s _ _ z)) λ⟨o,z⟩=>.inr ⟨o,s _ _ z⟩
theorem Ye{b:Addr}{u o:HO}(n:a≠b)(h:Rd H a u):Rd (upd H b o) a u:=by unfold Rd;rw[cH n];exact h
theorem BC{k:Key}(e:Rd H a (.dK bf)):e7 H a (kV k) (c7 bf k):=.inl ⟨bf,k,e,rfl,rfl⟩
def Found(K:Frag)(H:Hp)(Q:VK):Option (List (Str×List V))->Prop
 |none=>∀H',bh H H'->Q .cC H'
 |some env=>∀td bf H',bh H H'->H' td=some (.dK bf)->eO K H' bf env->Q (.ref td) H'
def BD(K:Frag):Sp:=λvs H Q _=>∃(p:Int)(aw be:Addr)(i:Nat)(x:Str)(ps:List Str)(d:Dw)(kb:List (Key×V))(res:Option (List (Str×List V))),vs=[.ref aw,.ref be,.int (i:Int),.str x]/\d.ok p/\p<=97/\d.bb.length<=200/\cg K H aw d.bb/\Rd H be (.dK kb)/\vy kb d/\
 Txt.split x (Str.ofString " ")=ps/\ps.length<=100/\x.length+2<=sizeLine/\dF ps (cD [.bu d] i) []=some res/\Found K H Q res
theorem tF:dD ["words","behind","at","text","found","place","piece"] ["words","behind","at","text"] (cN E2):=dU rfl rfl rfl (by decide +kernel) rfl
set_option maxRecDepth 100000 in
theorem G5{aD aN f:Addr}{fd:FuncData}(F:c9 K "matched" "matched" E2 f fd)(T:Txt mg)(L:Lets K mg aD aN):ck P w K mg base cA 1 f fd ["words","behind","at","text"] (BD K):=by
 refine F.ok tF (λvs H Q E h=>?_) (λcI A outer s H vs Q E hr h=>?_)
 ·obtain⟨p,aw,be,i,x,ps,d,kb,res,rfl,_⟩:=h;rfl
 ·obtain⟨p,aw,be,i,x,ps,d,kb,res,rfl,hd,hp,g9,hw,hb,hE,es,ik,hx,hm,q⟩:=h;have z:=kq;have eJ:=nh hr;refine⟨_,bD (cx (i:=4) tF.nd rfl (.inl rfl) Ms) (bD (cx (i:=5) tF.nd rfl (.inl rfl) (pv 2)) (bD (lx lq rfl (qM K rfl (jv zE Dl Dm x8 (pv 3) (bg bI bq))) (eL (i:=6) tF.nd rfl (.inl rfl)) (bK (cO (cj (xC K rfl) (pv 6) (jX (v:=.ref _) rfl L.mD rfl) rfl) (bD (xI eJ (pv 4) (pv 6) (jJ (xJ K rfl) (pv 0) (iS (pv 5)) (iS (lF eJ (pv 1) (pv 5)))) rfl) (bK (cx (i:=5) tF.nd rfl (.inl rfl) (lF eJ (pv 1) (pv 5))))) (bK (cO (cj (xC K rfl) (pv 6) (jX (v:=.ref _) rfl L.mN rfl) rfl) (bD (xI eJ (pv 4) (pv 6) (jJ (xJ K rfl) (pv 0) (iS (pv 5)) (iS (bH gC (pv 5) bp))) rfl) (bK (DG (i:=5) tF.nd rfl (.inl rfl) bp Ky))) (bK (cO (cj cS (oX Yd rfl T.str VR (bg (bO (cJ K rfl) (pv 0) (pv 5)) bq)) (pv 6) (cm _)) (bK (DG (i:=5) tF.nd rfl (.inl rfl) bp Ky)) (bK (cE gW))))))))) (bK (cE (pv 4))))),?_⟩;intro td tm;have s0:=bh.upd tm (o:=.dK []);have g0:(upd H td (.dK [])) td=some (.dK []):=bz;generalize upd H td (.dK [])=HA at s0 g0 |-;dsimp only[bY];refine⟨_,rfl,?_⟩;dsimp only[bY];refine⟨_,rfl,rfl,_,_,rfl,rfl,by decide,hx,by rw[es];lia,λls kz=>?_⟩;rw[es];have s1:=bh.upd kz (o:=.lst (ps.map V.str));have gs:(upd HA ls (.lst (ps.map V.str))) ls=some (.lst (ps.map V.str)):=bz;have xO:td≠ls:=gI g0 kz;have g1:=s1 _ _ g0;have yw:=s0.trans s1;generalize upd HA ls (.lst (ps.map V.str))=HB at s1 gs g1 yw |-;have ew:([It2.bu d]).flatMap It2.bb=d.bb:=by simp[It2.bb]
  have bZ:∀j,∀t∈cD [.bu d] j,t.okN p:=λj=>NK j λt ht=>by rw[dP.mp ht];exact hd
  refine⟨ls,rfl,⟨_,.of gs⟩,wZ (xs:=ps.map V.str) (λk σ H'=>bh H H'/\H' ls=some (.lst (ps.map V.str))/\∃(pl:Nat)(acc:List (Str×List V))(bf:List (Key×V))(s6:Option V),σ=[some (.ref aw),some (.ref be),some (.int (i:Int)),some (.str x),some (.ref td),some (.int (pl:Int)),s6]/\H' td=some (.dK bf)/\eO K H' bf acc/\acc.length<=k/\dF (ps.drop k) (cD [.bu d] pl) acc=some res) ⟨yw,gs,i,[],[],none,rfl,g1,trivial,cF _,hm⟩ (λk σ H' _ ⟨_,e,_⟩=>.of e) ?_ ?_⟩
  ·rintro k x' σ H1 jQ ⟨sm,vz,pl,acc,bf,s6,rfl,ir,hv,hk,em⟩;rw[fw]at jQ;cases hi:ps[k]? with
   |none=>rw[hi]at jQ;cases jQ
   |some y=>
    rw[hi]at jQ;cases jQ;have tG:=(fO.mp hi).1;have ed:ps.drop k=y::ps.drop (k+1):=by rw[Dn tG,(fO.mp hi).2]
    rw[ed]at em;cases eT:cD [.bu d] pl with
    |nil=>rw[eT]at em;cases em
    |cons t r=>
     rw[eT]at em;have vA:=yv hb sm;have Bb:=sm.cV hw;have cY:=G0 eT;have MU:=t.pos;rw[ew]at cY;obtain⟨t',r',e1,e2,e3⟩:=n9 (ts:=[.bu d]) (i:=pl) (by rw[ew];lia);rw[eT]at e1;cases e1;rw[ew]at e2;have oO:cD [.bu d] (pl+t.bb.length)=r:=X6 eT;have NR:=X7 eT;rw[ew]at NR;have NS:∀e:Nat,e=pl+t.bb.length->iJ d.bb (some (pl:Int)) (some (e:Int))=t.bb:=λe he=>by
      subst he;exact NQ cY NR
     dsimp only[bY];have yy:be≠td:=λe=>by rcases hb with hb|⟨_,hb⟩<;>(rw[e,tm]at hb;cases hb)
     have Yf:ls≠td:=fe xO;have vB:bf.length<sizeLine:=by rw[hv.len];lia
     refine⟨_,rfl,aD,_,rfl,.inr (L.hD _),rfl,by decide +kernel,_,rfl,?_⟩;have put:∀(c:Addr)(H2:Hp)(ws:List V),bh H1 H2->cg K H2 c ws->y ∉ acc.map Prod.fst->H2 td=some (.dK bf)/\Rd (upd H2 td (.dK (fq bf (Sum.inr y) (.ref c)))) be (.dK kb)/\bh H (upd H2 td (.dK (fq bf (Sum.inr y) (.ref c))))/\(upd H2 td (.dK (fq bf (Sum.inr y) (.ref c)))) ls=some (.lst (ps.map V.str))/\eO K (upd H2 td (.dK (fq bf (Sum.inr y) (.ref c)))) (fq bf (Sum.inr y) (.ref c)) (acc++[(y,ws)]):=λc H2 ws s2 hc hn=>by
      have g2:=s2 _ _ ir;refine⟨g2,Ye yy (yv vA s2),(sm.trans s2).put tm,by rw[cH Yf];exact s2 _ _ vz,?_⟩;have e:=AF (.ref c) (eO.miss (hv.tup s2.tup) hn);rw[e];exact(eO.snoc hc (hv.tup s2.tup)).tup (df.ET g2)
     by_cases h1:y∈gR
     ·refine ka (by show il (.str y) (gR.map V.str)=true;rw[BB,aG h1]) ?_;unfold dF at em;rw[ae h1]at em;cases t with
      |num n=>cases em
      |bu d'=>
       have em:(if y∈acc.map Prod.fst then none else dF (ps.drop (k+1)) r (acc++[(y,d'.bb)]))=some res:=em
       by_cases hn:y∈acc.map Prod.fst
       ·rw[ae hn]at em;cases em
       rw[af hn]at em;have eG:=hE.get eT;have dg:∀{H'},Rd H' be (.dK kb)->e7 H' be (.int (pl:Int)) (some (.int ((pl+d'.bb.length:Nat):Int))):=λ{H'} h=>by
        have:=BC (k:=Sum.inl (pl:Int)) h
        rw[eG]at this;exact this
       refine⟨_,rfl,_,rfl,_,rfl,_,rfl,_,rfl,be,_,rfl,dg vA,_,rfl,aw,_,rfl,Bb,λc H2 s2 hc=>?_⟩;rw[show iJ d.bb (some (pl:Int)) (some ((pl+d'.bb.length:Nat):Int))=d'.bb from NS _ rfl]at hc
       obtain⟨p1,p2,p3,p4,p5⟩:=put c H2 d'.bb s2 hc hn;refine⟨_,rfl,_,rfl,td,_,rfl,nS.k (k:=Sum.inr y) p1 vB,?_⟩;refine⟨_,rfl,_,rfl,be,_,rfl,dg p2,?_⟩;exact⟨p3,p4,pl+d'.bb.length,acc++[(y,d'.bb)],_,_,rfl,bz,p5,by rw[cL];show _+1<=_;lia,by rw[show cD [.bu d] (pl+d'.bb.length)=r from oO];exact em⟩
     refine kc (by show il (.str y) (gR.map V.str)=false;rw[BB,aa h1]) ?_;refine⟨_,rfl,aN,_,rfl,.inr (L.hN _),rfl,by decide +kernel,_,rfl,?_⟩;by_cases h2:y∈iK
     ·refine ka (by show il (.str y) (iK.map V.str)=true;rw[BB,aG h2]) ?_;unfold dF at em;rw[af h1,ae h2]at em;cases t with
      |bu d'=>cases em
      |num n=>
       have em:(if y∈acc.map Prod.fst then none else dF (ps.drop (k+1)) r (acc++[(y,[.int n])]))=some res:=em
       by_cases hn:y∈acc.map Prod.fst
       ·rw[ae hn]at em;cases em
       rw[af hn]at em;refine⟨_,rfl,_,rfl,_,rfl,_,rfl,_,_,rfl,rfl,_,rfl,aw,_,rfl,Bb,λc H2 s2 hc=>?_⟩;have ec:iJ d.bb (some (pl:Int)) (some ((pl+1:Nat):Int))=[.int n]:=NS (pl+1) rfl;rw[show((pl+1:Nat):Int)=(pl:Int)+1 by lia]at ec;rw[ec]at hc;obtain⟨p1,p2,p3,p4,p5⟩:=put c H2 [.int n] s2 hc hn;refine⟨_,rfl,_,rfl,td,_,rfl,nS.k (k:=Sum.inr y) p1 vB,?_⟩;refine⟨_,rfl,_,_,rfl,rfl,?_⟩;exact⟨p3,p4,pl+1,acc++[(y,[.int n])],_,_,rfl,bz,p5,by rw[cL];show _+1<=_;lia,by rw[show cD [.bu d] (pl+1)=r from oO];exact em⟩
     refine kc (by show il (.str y) (iK.map V.str)=false;rw[BB,aa h2]) ?_;unfold dF at em;rw[af h1,af h2]at em;refine⟨_,rfl,_,rfl,aw,_,(pl:Int),_,rfl,rfl,Bb,cc (j:=pl) e2,?_⟩;have vC:=bZ pl t (by rw[eT];exact c6);by_cases h3:j8 t.head=y
     ·rw[ae h3]at em;have fin:∀s6,bh H H1/\H1 ls=some (.lst (ps.map V.str))/\∃(NT:Nat)(acc:List (Str×List V))(bf:List (Key×V))(Yg:Option V),[some (.ref aw),some (.ref be),some (.int (i:Int)),some (.str x),some (.ref td),some (.int ((pl:Int)+1)),s6]=[some (.ref aw),some (.ref be),some (.int (i:Int)),some (.str x),some (.ref td),some (V.int (NT:Int)),Yg]/\H1 td=some (.dK bf)/\eO K H1 bf acc/\acc.length<=k+1/\dF (ps.drop (k+1)) (cD [.bu d] NT) acc=some res:=λs6=>
       ⟨sm,vz,pl+1,acc,bf,s6,rfl,ir,hv,by lia,by rw[e3];exact em⟩
      cases t with
      |num n=>
       refine .inr ⟨n,rfl,NP vC.1 (by have:=vC.2;lia),_,rfl,rfl,_,rfl,ka (aG (ai V.str h3)) ⟨_,rfl,_,_,rfl,rfl,fin _⟩⟩
      |bu d'=>
       cases d' with
       |_=>exact .inl ⟨_,rfl,_,rfl,rfl,_,rfl,ka (aG (ai V.str h3)) ⟨_,rfl,_,_,rfl,rfl,fin _⟩⟩
     ·rw[af h3]at em;cases em;cases t with
      |num n=>exact .inr ⟨n,rfl,NP vC.1 (by have:=vC.2;lia),_,rfl,rfl,_,rfl,kc (aa λz=>h3 (V.str.inj z)) (q _ sm)⟩
      |bu d'=>
       cases d' with
       |_=>exact .inl ⟨_,rfl,_,rfl,rfl,_,rfl,kc (aa λz=>h3 (V.str.inj z)) (q _ sm)⟩
  ·rintro σ H1 ⟨sm,vz,pl,acc,bf,s6,rfl,ir,hv,hk,em⟩;rw[List.drop_eq_nil_of_le (by rw[cB];exact cF _)]at em;cases em;exact⟨_,rfl,q td bf H1 sm ir hv⟩
def NU:Sp:=λvs H Q _=>∃p n:Int,vs=[.int p,.int n]/\2<=p/\p<=97/\Q (.int (jO p n)) H
theorem BE:dD ["p","number","power","step"] ["p","number"] (cN EU):=dU rfl rfl rfl (by decide +kernel) rfl
theorem Yh{f:Addr}{fd:FuncData}(F:c9 K "turned" "turned" EU f fd)(T:Txt mg):ck P w K mg base cA 1 f fd ["p","number"] NU:=by
 refine F.ok BE (λvs H Q E h=>?_) (λcI A outer s H vs Q E hr h=>?_)
 ·obtain⟨p,n,rfl,_⟩:=h;rfl
 ·obtain⟨p,n,rfl,p2,cf,k⟩:=h;refine⟨_,bD (cx (i:=2) BE.nd rfl (.inl rfl) bp) (bD (lx lq rfl (qA rfl T.range (bg (bH jZ (pv 0) bp) bq)) (eL (i:=3) BE.nd rfl (.inl rfl)) (bK (cx (i:=2) BE.nd rfl (.inl rfl) (bH eI (bH qC (pv 2) (pv 1)) (pv 0))))) (bK (cE (pv 2)))),?_⟩;refine⟨_,rfl,_,_,rfl,rfl,p-2,rfl,by lia,by lia,w6 (n:=(p-2).toNat) (λi σ H'=>H'=H/\∃st,σ=[some (.int p),some (.int n),some (.int (sJ p n i)),st]) ⟨rfl,none,rfl⟩ ?_ ?_⟩
  ·rintro i σ H' hi ⟨rfl,st,rfl⟩;have hb:=VZ (n:=n) p2 i;exact⟨_,rfl,_,rfl,_,_,rfl,rfl,.inl ⟨by lia,by lia⟩,_,rfl,_,_,rfl,rfl,by lia,rfl,_,rfl⟩
  ·rintro σ H' ⟨rfl,st,rfl⟩;exact⟨_,rfl,k⟩
end S21
namespace L2
open PySem PySem.Spec PyProof.Rows
theorem Yi:typeLookup (.type "tuple") (dunderI "add")=pure none:=by rw[aV,aW];kernel_rfl
theorem G6{prog:Program}{w:World}{A:Around}{E:QV}{s:Shared}{a b:Value}{S:PySem.Spec}{Q:QV}(ha:s.TypeIs a "tuple")(hb:s.TypeIs b "tuple")(g:Meets (Builtin.«tuple.__add__» ⟨[a,b],[]⟩) S)(h:S A (wants Q E) s):wpAny (model prog w) A (inplaceOp .Add a b) Q E s:=
 wpAny_inplaceOp_concat ha hb Yi noFill_tuple_add seq_tuple_add (call_meets PySem.F.slot_tuple_add ha PySem.F.entry_tuple_add (PySem.F.args_tuple_add_2 _ _) g h)
theorem Yj{X:Cx}(K:Frag)(hK:X.K=K):DF X .Add (xF K):=by
 subst hK;rintro bc s σ H x y v u Q I rx ry ⟨a,b,xs,ys,rfl,rfl,ha,hb,hz,q⟩;cases rx;cases ry;obtain⟨its,r1,⟨⟨c1,d1,t1,s1⟩,o1,e1,n1,f1⟩,_⟩:=I.tuple ha;obtain⟨ju,r2,⟨⟨c2,d2,t2,s2⟩,o2,e2,n2,f2⟩,_⟩:=I.tuple hb;simp only at e1 f1 e2 f2;subst e1 f1 e2 f2;by_cases hx:xs=[]
 ·subst hx;cases r1;refine G6 ⟨_,o1,rfl⟩ ⟨_,o2,rfl⟩ (Me a b _ _ _ _ d1 d2 s1 s2 rfl) ⟨o1,o2,?_⟩;exact⟨.ref b,H,I,rfl,q.old hb⟩
 ·have hi:its≠[]:=λz=>hx (r1.uU.mp z);by_cases hy:ys=[]
  ·subst hy;have vD:ju=[]:=r2.uU.mpr rfl;refine G6 ⟨_,o1,rfl⟩ ⟨_,o2,rfl⟩ (tuple_addW1 a b its.toArray ju.toArray n1 n2 d1 d2 s1 s2 (by simpa using hi) (by simp[vD])) ⟨o1,o2,?_⟩;exact⟨.ref a,H,I,rfl,q.old (by rw[gU];exact ha)⟩
  ·have vD:ju≠[]:=λz=>hy (r2.uU.mp z);refine G6 ⟨_,o1,rfl⟩ ⟨_,o2,rfl⟩ (tuple_addW2 a b its.toArray ju.toArray n1 n2 d1 d2 s1 s2 (by simpa using hi) (by simpa using vD) (by rw[dR,dR,<- r1.length,<- r2.length];exact hz)) ⟨o1,o2,?_⟩;rw[show its.toArray++ju.toArray=(its++ju).toArray by simp];refine⟨.ref s.heap.objs.size,_,I.laid (t':=s.toks) (o:=.tup (xs++ys)) (λb ob q=>dJ _ q) (cF _) ?_,rfl,q.new (I.bZ.fresh (cF _))⟩;exact⟨by rw[cL];exact hz,_,r1.append r2,pN.new _ _⟩
end L2
namespace S21
open PySem L2 Bw
variable{env:List (Str×List V)}{f:Addr}{fd:FuncData}{ws:List V}{x:Str}
noncomputable def lP(p:Int)(env:List (Str×List V))(x:Str):Option (List V):=
 if x=Str.ofString "k*l" then match env.lookup (Str.ofString "k"),env.lookup (Str.ofString "l") with
  |some [.int a],some [.int b]=>some [.int (a*b%p)]
  |_,_=>none
 else if x=Str.ofString "1/k" then match env.lookup (Str.ofString "k") with
  |some [.int a]=>some [.int (jO p a)]
  |_=>none
 else some ((env.lookup x).getD [.str x])
noncomputable def ke(p:Int)(env:List (Str×List V)):List Str->List V->Option (List V)
 | [],acc=>some acc
 |x::xs,acc=>match lP p env x with
  |some ws=>ke p env xs (acc++ws)
  |none=>none
def dz(p:Int)(env:List (Str×List V)):Prop:=∀x ws,env.lookup x=some ws->ws.length<=200/\∀n,V.int n∈ws->0<=n/\n<p
theorem eO.tH{H:Hp}{td:Addr}{bf:List (Key×V)}(g:H td=some (.dK bf))(h:eO K H bf env)(e:env.lookup x=some ws):∃a,e7 H td (.str x) (some (.ref a))/\cg K H a ws:=by
 obtain⟨a,e1,e2⟩:=eO.hit h e
 have:=e7.k (k:=Sum.inr x) g
 rw[e1]at this;exact⟨a,this,e2⟩
theorem eO.Yk{H:Hp}{td:Addr}{bf:List (Key×V)}(g:H td=some (.dK bf))(h:eO K H bf env)(e:env.lookup x=none):e7 H td (.str x) none:=by
 have e1:=eO.miss (x:=x) h (λm=>by
  obtain⟨⟨y,us⟩,hm,rfl⟩:=lh.mp m;rw[List.lookup_eq_none_iff]at e
  have:=e _ hm
  simp at this)
 have:=e7.k (k:=Sum.inr x) g
 rw[e1]at this;exact this
def NV(K:Frag):Sp:=λvs H Q _=>∃(p:Int)(td:Addr)(x:Str)(bf:List (Key×V))(env:List (Str×List V))(ws:List V),vs=[.int p,.ref td,.str x]/\2<=p/\p<=97/\H td=some (.dK bf)/\eO K H bf env/\dz p env/\lP p env x=some ws/\jw K H ws Q
theorem Yl:dD ["p","found","piece"] ["p","found","piece"] (cN E5):=dU rfl rfl rfl (by decide +kernel) rfl
set_option maxRecDepth 100000 in
theorem Ym{fT:Addr}{lJ:FuncData}(F:c9 K "filled_piece" "filled_piece" E5 f fd)
  (GT:ck P w K mg base cA 1 fT lJ ["p","number"] NU) (kT:Kp K fT) (bT:Binds K lJ ["p","number"] []) (mT:Mg mg "turned" fT):ck P w K mg base cA 2 f fd ["p","found","piece"] (NV K):=by
 refine F.ok Yl (λvs H Q E h=>?_) (λcI A outer s H vs Q E hr h=>?_)
 ·obtain⟨p,td,x,bf,env,ws,rfl,_⟩:=h;rfl
 ·obtain⟨p,td,x,bf,env,ws,rfl,p2,cf,ir,hv,hn,hf,q⟩:=h;have z:=kq;have eJ:=nh hr;refine⟨_,bD (cO (cj cS (pv 2) bI (cm _)) (bK (cE (dh (bg (bH eI (bH qC (bO (cJ K rfl) (lF eJ (pv 1) bI) bp) (bO (cJ K rfl) (lF eJ (pv 1) bI) bp)) (pv 0)) bq)))) cW) (bD (cO (cj cS (pv 2) bI (cm _)) (bK (cE (dh (bg (cZ GT hr rfl mT kT bT .nil cX (bg (pv 0) (bg (bO (cJ K rfl) (lF eJ (pv 1) bI) bp) bq))) bq)))) cW) (bK (cE (Wj eJ (pv 1) (pv 2) (dh (bg (pv 2) bq)) ⟨rfl,rfl,rfl,rfl⟩)))),?_⟩;unfold lP at hf;refine⟨_,rfl,rfl,_,rfl,?_⟩;by_cases h1:x=Str.ofString "k*l"
  ·rw[ae h1]at hf;refine ka (aG (ai V.str h1)) ?_;split at hf
   case h_2=>cases hf
   case h_1 a b ea eb=>
    cases hf;obtain⟨ra,da,ta⟩:=hv.tH ir ea;obtain⟨rb,db,tb⟩:=hv.tH ir eb;have na:=(hn _ _ ea).2 a (by simp);have nb:=(hn _ _ eb).2 b (by simp);refine⟨_,rfl,td,_,rfl,da,ra,_,0,_,rfl,rfl,ta,cc (j:=0) rfl,?_⟩;refine⟨_,rfl,td,_,rfl,db,rb,_,0,_,rfl,rfl,tb,cc (j:=0) rfl,a,b,rfl,rfl,.inl ⟨by lia,by lia⟩,_,rfl,_,_,rfl,rfl,by lia,?_⟩;exact⟨by show 1<=sizeLine;lia,λt ht=>q.new ht⟩
  rw[af h1]at hf;refine kc (aa λe=>h1 (V.str.inj e)) ?_;refine⟨_,rfl,rfl,_,rfl,?_⟩;by_cases h2:x=Str.ofString "1/k"
  ·rw[ae h2]at hf;refine ka (aG (ai V.str h2)) ?_;split at hf
   case h_2=>cases hf
   case h_1 a ea=>
    cases hf;obtain⟨ra,da,ta⟩:=hv.tH ir ea;refine⟨_,rfl,_,rfl,td,_,rfl,da,ra,_,0,_,rfl,rfl,ta,cc (j:=0) rfl,p,a,rfl,p2,cf,?_⟩;exact⟨by show 1<=sizeLine;lia,λt ht=>q.new ht⟩
  rw[af h2]at hf;refine kc (aa λe=>h2 (V.str.inj e)) ?_;refine⟨_,rfl,td,rfl,.inl ⟨_,.inl ir⟩,_,rfl,_,rfl,by show 1<=sizeLine;lia,λt ht=>?_⟩;cases hf;have st:=bh.upd ht (o:=.tup [.str x]);cases el:env.lookup x with
  |none=>exact⟨none,(hv.tup st.tup).Yk (st _ _ ir) el,q t _ st (by rw[el];exact .of bz)⟩
  |some us=>
   obtain⟨ra,da,ta⟩:=(hv.tup st.tup).tH (st _ _ ir) el;exact⟨_,da,q ra _ st (by rw[el];exact ta)⟩
theorem Yn{p:Int}(hn:dz p env)(h:lP p env x=some ws):ws.length<=200:=by
 unfold lP at h;split at h
 ·split at h
  ·cases h;show 1<=200;decide
  ·cases h
 ·split at h
  ·split at h
   ·cases h;show 1<=200;decide
   ·cases h
  ·cases h;cases e:env.lookup x with
   |none=>show 1<=200;decide
   |some us=>exact(hn _ _ e).1
def NW(K:Frag):Sp:=λvs H Q _=>∃(p:Int)(td:Addr)(x:Str)(ps:List Str)(bf:List (Key×V))(env:List (Str×List V))(ws:List V),vs=[.int p,.ref td,.str x]/\2<=p/\p<=97/\H td=some (.dK bf)/\eO K H bf env/\dz p env/\
 Txt.split x (Str.ofString " ")=ps/\ps.length<=100/\x.length+2<=sizeLine/\ke p env ps []=some ws/\jw K H ws Q
theorem BF:dD ["p","found","text","words","piece"] ["p","found","text"] (cN E4):=dU rfl rfl rfl (by decide +kernel) rfl
set_option maxRecDepth 100000 in
theorem Yo{fP:Addr}{yz:FuncData}(F:c9 K "filled" "filled" E4 f fd)
  (GP:ck P w K mg base cA 2 fP yz ["p","found","piece"] (NV K)) (kP:Kp K fP) (bP:Binds K yz ["p","found","piece"] []) (mP:Mg mg "filled_piece" fP):ck P w K mg base cA 3 f fd ["p","found","text"] (NW K):=by
 refine F.ok BF (λvs H Q E h=>?_) (λcI A outer s H vs Q E hr h=>?_)
 ·obtain⟨p,td,x,ps,bf,env,ws,rfl,_⟩:=h;rfl
 ·obtain⟨p,td,x,ps,bf,env,ws,rfl,p2,cf,ir,hv,hn,es,ik,hx,hf,q⟩:=h;have z:(100000:Nat)<=sizeLine:=by decide
  refine⟨_,bD (cx (i:=3) BF.nd rfl (.inl rfl) (dh bq)) (bD (lx lq rfl (qM K rfl (jv zE Dl Dm x8 (pv 2) (bg bI bq))) (eL (i:=4) BF.nd rfl (.inl rfl)) (bK (DG (i:=3) BF.nd rfl (.inl rfl) (cZ GP hr rfl mP kP bP .nil cX (bg (pv 0) (bg (pv 1) (bg (pv 4) bq)))) (Yj K rfl)))) (bK (cE (pv 3)))),?_⟩;refine⟨by show 0<=sizeLine;lia,λt0 yB=>?_⟩;have s0:=bh.upd yB (o:=.tup []);have g0:cg K (upd H t0 (.tup [])) t0 []:=.of bz;generalize upd H t0 (.tup [])=HA at s0 g0 |-;dsimp only[bY];refine⟨_,rfl,rfl,_,_,rfl,rfl,by decide,hx,by rw[es];lia,λls kz=>?_⟩;rw[es];have s1:=bh.upd kz (o:=.lst (ps.map V.str));have gs:(upd HA ls (.lst (ps.map V.str))) ls=some (.lst (ps.map V.str)):=bz;have yw:=s0.trans s1;have g1:=s1.cV g0;generalize upd HA ls (.lst (ps.map V.str))=HB at s1 gs g1 yw |-;refine⟨ls,rfl,⟨_,.of gs⟩,wZ (xs:=ps.map V.str) (λk σ H'=>bh H H'/\H' ls=some (.lst (ps.map V.str))/\∃(t:Addr)(acc:List V)(s4:Option V),σ=[some (.int p),some (.ref td),some (.str x),some (.ref t),s4]/\cg K H' t acc/\acc.length<=200*k/\ke p env (ps.drop k) acc=some ws) ⟨yw,gs,t0,[],none,rfl,g1,cF _,hf⟩ (λk σ H' _ ⟨_,e,_⟩=>.of e) ?_ ?_⟩
  ·rintro k x' σ H1 jQ ⟨sm,vz,t,acc,s4,rfl,ht,hk,em⟩;rw[fw]at jQ;cases hi:ps[k]? with
   |none=>rw[hi]at jQ;cases jQ
   |some y=>
    rw[hi]at jQ;cases jQ;have tG:=(fO.mp hi).1;have ed:ps.drop k=y::ps.drop (k+1):=by rw[Dn tG,(fO.mp hi).2]
    rw[ed]at em;unfold ke at em;cases ef:lP p env y with
    |none=>rw[ef]at em;cases em
    |some us=>
     rw[ef]at em;have hul:=Yn hn ef;dsimp only[bY];refine⟨_,rfl,_,rfl,_,rfl,_,rfl,p,td,y,bf,env,us,rfl,p2,cf,sm _ _ ir,hv.tup sm.tup,hn,ef,λc H2 s2 hc=>?_⟩;refine⟨t,c,acc,us,rfl,rfl,s2.cV ht,hc,by lia,λt2 H3 s3 mq=>?_⟩;exact⟨sm.trans (s2.trans s3),(s2.trans s3) _ _ vz,t2,acc++us,_,rfl,mq,by rw[cL];lia,em⟩
  ·rintro σ H1 ⟨sm,vz,t,acc,s4,rfl,ht,hk,em⟩;rw[List.drop_eq_nil_of_le (by rw[cB];exact cF _)]at em;cases em;exact⟨_,rfl,q t H1 sm ht⟩
open Classical in
theorem Yp(n:Int):(if true=true then !decide (o9 [n]=o9 [0])else decide (o9 [n]=o9 [0]))=decide (n≠0):=by
 rw[ae rfl];by_cases h:n=0
 ·subst h;rw[aG rfl,aa (λz=>z rfl)];rfl
 ·rw[aG h,aa λz=>h (by unfold o9 at z;simpa using z)];rfl
inductive mw(p:Int)(env:List (Str×List V)):Str->Bool->Prop where
 |G7 (a c:Dw) (ha:env.lookup (Str.ofString "A")=some a.bb) (hc:env.lookup (Str.ofString "C")=some c.bb) (oa:a.ok p) (oc:c.ok p):mw p env (Str.ofString "cross") (decide (a.lN=c.lM))
 |scale (n:Int) (hk:env.lookup (Str.ofString "k")=some [.int n]):mw p env (Str.ofString "turnscale") (decide (n≠0))
 |any {x:Str} (h1:x≠Str.ofString "cross") (h2:x≠Str.ofString "turnscale"):mw p env x true
def G8(K:Frag):Sp:=λvs H Q _=>∃(p:Int)(x:Str)(td:Addr)(bf:List (Key×V))(env:List (Str×List V))(b:Bool),vs=[.str x,.ref td]/\H td=some (.dK bf)/\eO K H bf env/\dz p env/\mw p env x b/\∀H',bh H H'->Q (.bl b) H'
theorem Yq:dD ["rule","found"] ["rule","found"] (cN E3):=dU rfl rfl rfl (by decide +kernel) rfl
set_option maxRecDepth 100000 in
theorem G9{fW:Addr}{NX:FuncData}(F:c9 K "allowed" "allowed" E3 f fd)
  (GW:ck P w K mg base cA 6 fW NX ["words"] (ND K)) (kW:Kp K fW) (bW:Binds K NX ["words"] []) (mW:Mg mg "wires" fW):ck P w K mg base cA 7 f fd ["rule","found"] (G8 K):=by
 refine F.ok Yq (λvs H Q E h=>?_) (λcI A outer s H vs Q E hr h=>?_)
 ·obtain⟨p,x,td,bf,env,b,rfl,_⟩:=h;rfl
 ·obtain⟨p,x,td,bf,env,b,rfl,ir,hv,hn,ha,q⟩:=h;have z:=kq;have hu:=hr.units;have eJ:=nh hr;refine⟨_,bD (cO (cj cS (pv 0) bI (cm _)) (bK (cE (qD cS (bO (cJ K rfl) (cZ GW hr rfl mW kW bW .nil cX (bg (lF eJ (pv 1) bI) bq)) bp) (bO (cJ K rfl) (cZ GW hr rfl mW kW bW .nil cX (bg (lF eJ (pv 1) bI) bq)) bp) (cm _)))) cW) (bD (cO (cj cS (pv 0) bI (cm _)) (bK (cE (qD (xB K rfl hu) (lF eJ (pv 1) bI) (dh (bg bp bq)) (cm _)))) cW) (bK (cE rZ))),?_⟩;refine⟨_,rfl,rfl,_,rfl,?_⟩;cases ha with
  |G7 a c ea ec oa oc=>
   refine ka (aG rfl) ?_;obtain⟨ra,da,ta⟩:=hv.tH ir ea;refine⟨_,rfl,td,_,rfl,da,p,ra,a,rfl,oa,(hn _ _ ea).1,ta,λv H1 s1 BG=>?_⟩;obtain⟨rc,dc,tc⟩:=(hv.tup s1.tup).tH (s1 _ _ ir) ec;refine⟨v,_,1,_,rfl,rfl,BG,cc (j:=1) rfl,_,rfl,td,_,rfl,dc,p,rc,c,rfl,oc,(hn _ _ ec).1,tc,λv2 H2 s2 tJ=>?_⟩;refine⟨v2,_,0,_,rfl,rfl,tJ,cc (j:=0) rfl,rfl,?_⟩;have e:decide (V.int (a.lN:Int)=V.int (c.lM:Int))=decide (a.lN=c.lM):=decide_eq_decide.mpr ⟨λh=>by have:=V.int.inj h;lia,λh=>by rw[h]⟩;rw[e];exact q _ (s1.trans s2)
  |scale n ek=>
   refine kc (aa (by decide)) ?_;refine⟨_,rfl,rfl,_,rfl,ka (aG rfl) ?_⟩;obtain⟨rk,dk,tk⟩:=hv.tH ir ek;refine⟨_,rfl,td,_,rfl,dk,by show 1<=sizeLine;lia,λt ht=>?_⟩;have st:=bh.upd ht (o:=.tup [.int 0]);refine⟨o9 [n],o9 [0],L5 (r:=[n]) (st.cV tk),L5 (r:=[0]) (.of bz),LY 7 _,LY 7 _,?_⟩;rw[Yp n];exact q _ st
  |any h1 h2=>
   refine kc (aa λe=>h1 (V.str.inj e)) ?_;refine⟨_,rfl,rfl,_,rfl,kc (aa λe=>h2 (V.str.inj e)) ?_⟩;exact q _ (.refl _)
def Yr(K:Frag)(rs:List V)(cM:List (Str×Str)):Prop:=rs.length=cM.length/\∀(i:Nat)(v:V)(ab:Str×Str),rs[i]?=some v->cM[i]?=some ab->∃c,v=.ref c/\∀H,cg K H c [.str ab.1,.str ab.2]
structure yC(K:Frag)(mg:Str->Option Value)(aR:Addr)(D:List (Str×V))(R:Str->Option (List (Str×Str))):Prop where
 nm:mg "RULES"=some (.ref aR)
 tab:∀h,K.In h->j5 h aR D
 row:∀x cM,R x=some cM->∃t rs,PyProof.Rows.KTD.datumAt x D=some (.ref t)/\(∀H,cg K H t rs)/\Yr K rs cM
 gY:∀x cM,R x=some cM->∀ab∈cM,(Txt.split ab.1 (Str.ofString " ")).length<=100/\ab.1.length+2<=sizeLine
inductive kH(p:Int)(x:Str)(ts:List It2):List (Str×Str)->Option (List (Str×List V)×Str)->Prop where
 |nil:kH p x ts [] none
 |miss {a b:Str} {cM:List (Str×Str)} {r:Option (List (Str×List V)×Str)} (h:dF (Txt.split a (Str.ofString " ")) ts []=some none) (g:kH p x ts cM r):kH p x ts ((a,b)::cM) r
 |Hc {a b:Str} {cM:List (Str×Str)} {env:List (Str×List V)} {r:Option (List (Str×List V)×Str)} (h:dF (Txt.split a (Str.ofString " ")) ts []=some (some env)) (hn:dz p env) (ha:mw p env x false) (g:kH p x ts cM r):kH p x ts ((a,b)::cM) r
 |hit {a b:Str} {cM:List (Str×Str)} {env:List (Str×List V)} (h:dF (Txt.split a (Str.ofString " ")) ts []=some (some env)) (hn:dz p env) (ha:mw p env x true):kH p x ts ((a,b)::cM) (some (env,b))
def Fits(K:Frag)(H:Hp)(Q:VK):Option (List (Str×List V)×Str)->Prop
 |none=>∀H',bh H H'->Q .cC H'
 |some (env,b)=>∀t td bf H',bh H H'->H' td=some (.dK bf)->eO K H' bf env->cg K H' t [.ref td,.str b]->Q (.ref t) H'
def yD(K:Frag)(R:Str->Option (List (Str×Str))):Sp:=λvs H Q _=>∃(p:Int)(aw be:Addr)(i:Nat)(x:Str)(d d':Dw)(r:List It2)(kb:List (Key×V))(cM:List (Str×Str))(res:Option (List (Str×List V)×Str)),vs=[.ref aw,.ref be,.int (i:Int),.str x]/\d.ok p/\p<=97/\d.bb.length<=200/\cg K H aw d.bb/\Rd H be (.dK kb)/\vy kb d/\
 cD [.bu d] i=.bu d'::r/\R x=some cM/\kH p x (cD [.bu d] i) cM res/\Fits K H Q res
theorem vE:dD ["words","behind","at","rule","pair","found"] ["words","behind","at","rule"] (cN AM):=dU rfl rfl rfl (by decide +kernel) rfl
set_option maxRecDepth 100000 in
theorem NY{aR fM fA:Addr}{i6 lL:FuncData}{D:List (Str×V)}{R:Str->Option (List (Str×Str))}(F:c9 K "fitting" "fitting" AM f fd)(RT:yC K mg aR D R)
  (GM:ck P w K mg base cA 1 fM i6 ["words","behind","at","text"] (BD K)) (kM:Kp K fM) (bM:Binds K i6 ["words","behind","at","text"] []) (mM:Mg mg "matched" fM)
  (GA:ck P w K mg base cA 7 fA lL ["rule","found"] (G8 K)) (kA:Kp K fA) (bA:Binds K lL ["rule","found"] []) (mA:Mg mg "allowed" fA):ck P w K mg base cA 8 f fd ["words","behind","at","rule"] (yD K R):=by
 refine F.ok vE (λvs H Q E h=>?_) (λcI A outer s H vs Q E hr h=>?_)
 ·obtain⟨p,aw,be,i,x,d,d',r,kb,cM,res,rfl,_⟩:=h;rfl
 ·obtain⟨p,aw,be,i,x,d,d',r,kb,cM,res,rfl,hd,hp,g9,hw,hb,hE,eT,hR,hF,q⟩:=h;have z:=kq;have r1:dS 1 _:=hr.mono (by lia);have eJ:=nh hr;refine⟨_,bD (cO (Dz (Mq eJ (pv 2) (pv 1)) rfl) (bK (cE gW)) cW) (bD (lx lq rfl (Ma K rfl (ES RT.tab (jX (v:=.ref _) rfl RT.nm rfl) (pv 3) (dh bq) ⟨rfl,rfl,rfl,rfl⟩)) (eL (i:=4) vE.nd rfl (.inl rfl)) (bD (cx (i:=5) vE.nd rfl (.inl rfl) (cZ GM r1 rfl mM kM bM .nil cX (bg (pv 0) (bg (pv 1) (bg (pv 2) (bg (bO (cJ K rfl) (pv 4) bp) bq)))))) (bK (cO (PW.pt (fQ (cj uN (pv 5) gW (cm _)) (iB (oS (cZ GA hr rfl mA kA bA .nil cX (bg (pv 3) (bg (pv 5) bq))))))) (bK (cE (dh (bg (pv 5) (bg (bO (cJ K rfl) (pv 4) bp) bq))))) cW)))) (bK (cE gW))),?_⟩;have eG:=hE.get eT;have dg:e7 H be (.int (i:Int)) (some (.int ((i+d'.bb.length:Nat):Int))):=by
   have:=BC (k:=Sum.inl (i:Int)) hb
   rw[eG]at this;exact this
  refine⟨_,rfl,_,rfl,be,_,rfl,dg,_,rfl,kc rfl ?_⟩;obtain⟨t,rs,e1,hs,hP⟩:=RT.row x cM hR;refine⟨rfl,_,rfl,by show 0<=sizeLine;lia,λt0 yB=>⟨x,rfl,?_⟩⟩;rw[e1];have s0:=bh.upd yB (o:=.tup []);generalize upd H t0 (.tup [])=HA at s0 |-;refine⟨t,rfl,⟨_,hs _⟩,KH (xs:=rs) (λk σ H'=>bh H H'/\∃s4 s5,σ=[some (.ref aw),some (.ref be),some (.int (i:Int)),some (.str x),s4,s5]/\kH p x (cD [.bu d] i) (cM.drop k) res) ⟨s0,none,none,rfl,hF⟩ (λ_ _ _ _ _=>hs _) ?_ ?_⟩
  ·rintro k v σ H1 hk ⟨sm,s4,s5,rfl,vF⟩;have tG:k<cM.length:=by rw[<- hP.1];exact(fO.mp hk).1
   have ed:cM.drop k=cM[k]::cM.drop (k+1):=Dn tG;have em:cM[k]∈cM:=List.getElem_mem tG;obtain⟨c,rfl,hc⟩:=hP.2 k v cM[k] hk (gk tG);obtain⟨NZ,vx⟩:=RT.gY x cM hR _ em;rw[ed]at vF;generalize cM[k]=ab at hc NZ vx vF;obtain⟨a,b⟩:=ab;dsimp only[bY];have ask:∀(rm:Option (List (Str×List V)))(Q':VK),dF (Txt.split a (Str.ofString " ")) (cD [.bu d] i) []=some rm->Found K H1 Q' rm->BD K [.ref aw,.ref be,.int (i:Int),.str a] H1 Q' E0:=λrm Q' h hq=>
    ⟨p,aw,be,i,a,_,d,kb,rm,rfl,hd,hp,g9,sm.cV hw,yv hb sm,hE,rfl,NZ,vx,h,hq⟩
   refine⟨_,rfl,_,rfl,_,rfl,_,rfl,c,_,0,_,rfl,rfl,hc _,cc (j:=0) rfl,?_⟩;cases vF with
   |miss h g=>
    refine ask none _ h λH2 s2=>?_;dsimp only[bY];exact⟨_,rfl,rfl,_,rfl,kc (by simp) (dE ⟨sm.trans s2,_,_,rfl,g⟩)⟩
   | @Hc _ _ _ env _ h hn ha g=>
    refine ask (some env) _ h λtd bf H2 s2 ir hv=>?_;dsimp only[bY];refine⟨_,rfl,rfl,_,rfl,ka (by simp) ⟨_,rfl,_,rfl,p,x,td,bf,env,false,rfl,ir,hv,hn,ha,λH3 s3=>?_⟩⟩;exact⟨false,rfl,dE ⟨sm.trans (s2.trans s3),_,_,rfl,g⟩⟩
   | @hit _ _ _ env h hn ha=>
    refine ask (some env) _ h λtd bf H2 s2 ir hv=>?_;dsimp only[bY];refine⟨_,rfl,rfl,_,rfl,ka (by simp) ⟨_,rfl,_,rfl,p,x,td,bf,env,true,rfl,ir,hv,hn,ha,λH3 s3=>?_⟩⟩;refine⟨true,rfl,eE ⟨_,rfl,_,rfl,c,_,1,_,rfl,rfl,hc _,cc (j:=1) rfl,by show 2<=sizeLine;lia,λt2 mq=>?_⟩⟩;have yE:=bh.upd mq (o:=.tup [.ref td,.str b]);have Hd:=s3.trans yE;exact q t2 td bf _ (sm.trans (s2.trans Hd)) (Hd _ _ ir) (hv.tup Hd.tup) (.of bz)
  ·rintro σ H1 ⟨sm,s4,s5,rfl,vF⟩;rw[hP.1,List.drop_length]at vF;cases vF;exact q _ sm
theorem N0{i:Nat}(h:i<=ws.length):iJ ws none (some (i:Int))=ws.take i:=by
 unfold iJ;rw[HT.DY,HT.Ad,Nat.min_eq_left h];simp
theorem N1{i:Nat}(h:i<=ws.length):iJ ws (some (i:Int)) none=ws.drop i:=by
 unfold iJ;rw[HT.DY,HT.Ad,Nat.min_eq_left h,List.take_of_length_le (by rw[nK];exact cF _)]
def N2(K:Frag)(R:Str->Option (List (Str×Str))):Sp:=λvs H Q _=>∃(p:Int)(aw:Addr)(i:Nat)(x b:Str)(d d':Dw)(r:List It2)(cM:List (Str×Str))(env:List (Str×List V))(ws:List V),vs=[.int p,.ref aw,.int (i:Int),.str x]/\d.ok p/\2<=p/\p<=97/\d.bb.length<=200/\cg K H aw d.bb/\
 cD [.bu d] i=.bu d'::r/\R x=some cM/\kH p x (cD [.bu d] i) cM (some (env,b))/\dz p env/\(Txt.split b (Str.ofString " ")).length<=100/\b.length+2<=sizeLine/\ke p env (Txt.split b (Str.ofString " ")) []=some ws/\ws.length<=1000/\jw K H (d.bb.take i++ws++d.bb.drop (i+d'.bb.length)) Q
theorem He:dD ["p","words","at","rule","behind","fit"] ["p","words","at","rule"] (cN E1):=dU rfl rfl rfl (by decide +kernel) rfl
theorem ck.or{P:Program}{w:World}{K:Frag}{mg:Str->Option Value}{base:Heap}{CX:md}{k:Nat}{ps:List Str}{sp N3:Sp}(F:ck P w K mg base CX k f fd ps sp)(G:ck P w K mg base CX k f fd ps N3):ck P w K mg base CX k f fd ps (λvs H Q E=>sp vs H Q E\/N3 vs H Q E):=
 ⟨λvs H Q E q=>q.elim (F.len vs H Q E) (G.len vs H Q E),λA outer s H args us vs Q E hr he hb hv hs=>hs.elim (F.run A outer s H args us vs Q E hr he hb hv) (G.run A outer s H args us vs Q E hr he hb hv)⟩
def Hf(_K:Frag)(D:List (Str×V)):Sp:=λvs H Q _=>∃(aw be:Addr)(i:Int)(x:Str)(kb:List (Key×V)),vs=[.ref aw,.ref be,.int i,.str x]/\Rd H be (.dK kb)/\(c7 kb (Sum.inl i)=none\/((∃v,c7 kb (Sum.inl i)=some v)/\PyProof.Rows.KTD.datumAt x D=none))/\∀H',bh H H'->Q .cC H'
set_option maxRecDepth 100000 in
theorem Ys{aR fM fA:Addr}{i6 lL:FuncData}{D:List (Str×V)}{R:Str->Option (List (Str×Str))}(F:c9 K "fitting" "fitting" AM f fd)(RT:yC K mg aR D R)
  (GM:ck P w K mg base cA 1 fM i6 ["words","behind","at","text"] (BD K)) (kM:Kp K fM) (bM:Binds K i6 ["words","behind","at","text"] []) (mM:Mg mg "matched" fM)
  (GA:ck P w K mg base cA 7 fA lL ["rule","found"] (G8 K)) (kA:Kp K fA) (bA:Binds K lL ["rule","found"] []) (mA:Mg mg "allowed" fA):ck P w K mg base cA 8 f fd ["words","behind","at","rule"] (Hf K D):=by
 refine F.ok vE (λvs H Q E h=>?_) (λcI A outer s H vs Q E hr h=>?_)
 ·obtain⟨aw,be,i,x,kb,rfl,_⟩:=h;rfl
 ·obtain⟨aw,be,i,x,kb,rfl,hb,hk,q⟩:=h;have z:=kq;have r1:dS 1 _:=hr.mono (by lia);have eJ:=nh hr;refine⟨_,bD (cO (Dz (Mq eJ (pv 2) (pv 1)) rfl) (bK (cE gW)) cW) (bD (lx lq rfl (Ma K rfl (ES RT.tab (jX (v:=.ref _) rfl RT.nm rfl) (pv 3) (dh bq) ⟨rfl,rfl,rfl,rfl⟩)) (eL (i:=4) vE.nd rfl (.inl rfl)) (bD (cx (i:=5) vE.nd rfl (.inl rfl) (cZ GM r1 rfl mM kM bM .nil cX (bg (pv 0) (bg (pv 1) (bg (pv 2) (bg (bO (cJ K rfl) (pv 4) bp) bq)))))) (bK (cO (PW.pt (fQ (cj uN (pv 5) gW (cm _)) (iB (oS (cZ GA hr rfl mA kA bA .nil cX (bg (pv 3) (bg (pv 5) bq))))))) (bK (cE (dh (bg (pv 5) (bg (bO (cJ K rfl) (pv 4) bp) bq))))) cW)))) (bK (cE gW))),?_⟩;have dg:=BC (k:=Sum.inl i) hb;rcases hk with e|⟨⟨v,e⟩,ex⟩
  ·rw[e]at dg;exact⟨_,rfl,_,rfl,be,_,rfl,dg,_,rfl,ka rfl (q H (.refl _))⟩
  ·rw[e]at dg;refine⟨_,rfl,_,rfl,be,_,rfl,dg,_,rfl,kc rfl ?_⟩;refine⟨rfl,_,rfl,by show 0<=sizeLine;lia,λt0 yB=>⟨x,rfl,?_⟩⟩;rw[ex];have s0:=bh.upd yB (o:=.tup []);have g0:cg K (upd H t0 (.tup [])) t0 []:=.of bz;generalize upd H t0 (.tup [])=HA at s0 g0 |-;refine⟨t0,rfl,⟨_,g0⟩,KH (xs:=[]) (λk σ H'=>bh HA H') (.refl _) (λ_ _ _ _ sm=>sm.cV g0) (λk v σ H1 hk _=>by cases hk) λσ H1 sm=>q H1 (s0.trans sm)⟩
theorem Yt{v:Value}{x:V}(h:uH v=some x):RelV x v:=by
 cases v<;>cases h<;>first|rfl|exact⟨_,rfl⟩
theorem N4:∀{its:List Value}{xs:List V},its.mapM uH=some xs->Vals xs its
 | [],xs,h=>by cases h;exact .nil
 |v::its,xs,h=>by
  rw[List.mapM_cons]at h;cases e:uH v with
  |none=>rw[e]at h;cases h
  |some x=>
   rw[e]at h;cases e2:its.mapM uH with
   |none=>rw[e2]at h;cases h
   |some ys=>rw[e2]at h;cases h;exact .cons (Yt e) (N4 e2)
noncomputable def qU(K:Frag)(t:Addr):Option (List V):=match K.lookup t with
 |some ⟨.type "tuple",_,.seq its _,_⟩=>if its.size<=1000 then its.toList.mapM uH else none
 |_=>none
theorem BH{K:Frag}{t:Addr}{xs:List V}(h:qU K t=some xs)(H:Hp):cg K H t xs:=by
 unfold qU at h;split at h
 case h_2=>exact nomatch h
 case h_1 d its n sl ho=>
  split at h
  case isFalse=>cases h
  case isTrue hz=>exact .inr ⟨_,its,n,ho,rfl,rfl,dj hz (by decide),N4 h⟩
noncomputable def BI:List (Str×List (Str×Str)):=[ ("twice",[("back back A","A")]),("turnthen",[("back then A B","then back B back A")]),("turnbeside",[("back beside A B","beside back A back B")]),("thread",[("then then A B C","then A then B C")]),("stack",[("beside beside A B C","beside A beside B C")]),("cross",[("then beside A B beside C D","beside then A C then B D")]),("lone",[("then id A","A"),("then A id","A")]),("bare",[("beside empty A","A"),("beside A empty","A")]),("undo",[("then swap swap","beside id id")]),("copyend",[("then copy beside end id","id")]),("copyturn",[("then copy swap","copy")]),("copycopy",[("then copy beside copy id","then copy beside id copy")]),("addnone",[("then beside none id add","id")]),("addturn",[("then swap add","add")]),("addadd",[("then beside add id add","then beside id add add")]),("scale",[("then times k times l","times k*l")]),("one",[("times 1","id")]),("nought",[("times 0","then end none")]),("sumcopy",[("then add copy","then beside copy copy then beside id beside swap id beside add add")]),("sumend",[("then add end","beside end end")]),("nonecopy",[("then none copy","beside none none")]),("noneend",[("then none end","empty")]),("scalecopy",[("then times k copy","then copy beside times k times k")]),("scaleadd",[("then add times k","then beside times k times k add")]),("bend",[("then beside cup id beside id back cup","id")]),("turnscale",[("back times k","times 1/k")]),("meet",[("then copy back copy","id")]),("turnid",[("back id","id"),("back swap","swap"),("back empty","empty")])]
noncomputable def iX(x:Str):Option (List (Str×Str)):=BI.lookup x
theorem N5:(BI.all λe=>e.2.all λab=>decide ((Txt.split ab.1 (Str.ofString " ")).length<=100)&&decide (ab.1.length<=100)&&decide ((Txt.split ab.2 (Str.ofString " ")).length<=100)&&decide (ab.2.length<=100))=true:=by decide +kernel
theorem BJ{x:Str}{cM:List (Str×Str)}:∀{L:List (Str×List (Str×Str))},L.lookup x=some cM->(x,cM)∈L
 | [],h=>by cases h
 |(y,us)::L,h=>by
  rw[pL]at h;by_cases e:x=y
  ·subst e;rw[aU]at h;cases h;exact c6
  ·rw[beq_eq_false_iff_ne.mpr e]at h;exact e9 _ (BJ h)
noncomputable def N6(K:Frag)(v:V)(ab:Str×Str):Bool:=match v with
 | .ref c=>decide (qU K c=some [.str ab.1,.str ab.2])
 |_=>false
noncomputable def Hg(K:Frag)(a:Addr):Bool:=pd K a&&BI.all λe=>(match PyProof.Rows.KTD.datumAt e.1 (gQ K a) with
 |some (.ref t)=>(match qU K t with
  |some rs=>decide (rs.length=e.2.length)&&(rs.zip e.2).all λq=>N6 K q.1 q.2
  |none=>false)
 |_=>false)
theorem Yu{K:Frag}{mg:Str->Option Value}{a:Addr}(nm:Mg mg "RULES" a)(h:Hg K a=true):yC K mg a (gQ K a) iX:=by
 unfold Hg at h;rw[dq]at h;refine⟨nm,λ_ X=>EO X h.1,λx cM hx=>?_,λx cM hx ab Hh=>?_⟩
 ·have:=fh.mp h.2 _ (BJ hx)
  split at this
  case h_2=>cases this
  case h_1 t e=>
   split at this
   case h_2=>cases this
   case h_1 rs er=>
    rw[dq]at this;refine⟨t,rs,e,BH er,aM this.1,λi v ab hv Hh=>?_⟩;have z:=fh.mp this.2 (v,ab) (iO (i:=i) (by rw[List.getElem?_zip_eq_some];exact⟨hv,Hh⟩));unfold N6 at z;split at z
    case h_2=>cases z
    case h_1 c ec=>exact⟨c,ec,BH (aM z)⟩
 ·have:=fh.mp (fh.mp N5 _ (BJ hx)) ab Hh
  simp only[dq,aI]at this;exact⟨this.1.1.1,dj (Nat.add_le_add_right this.1.1.2 2) (by decide)⟩
theorem Yv{K:Frag}{mg:Str->Option Value}{aD aN:Addr}(mD:Mg mg "ANY_DRAWING" aD)(mN:Mg mg "ANY_NUMBER" aN)(hD:qU K aD=some (gR.map V.str))(hN:qU K aN=some (iK.map V.str)):Lets K mg aD aN:=⟨mD,mN,BH hD,BH hN⟩
end S21
namespace L2
open PySem PySem.Spec PyProof.Rows PySem.W
variable{H:Hp}{a:Addr}{es:List DictEntry}{bf:List (Key×V)}{o:Obj}{te:TE}{tg:Expr}{xs:Array Value}
section
variable{X:Cx}{bc:List (Addr×Obj)}{σ:St}{H:Hp}{s:Shared}{a:Addr}{bf:List (Key×V)}
theorem Inv.freeze(I:Inv X bc σ H s)(e:H a=some (.dK bf)):∃o,s.heap.get? a=some o/\Inv X bc σ (upd H a (.dM o (.dK bf))) s:=by
 have ok:=I.bZ a _ e;obtain⟨z,y,vs,r,o,es,ep,g,c⟩:=id ok;exact⟨o,g,I.write (x:=a) (e:=a) (h':=s.heap) (t':=s.toks) (by rw[e];exact True.intro) (.inl rfl) (λ_ _ _ q=>q) ⟨o,g⟩ ⟨g,z,y,vs,r,o,es,ep,g,c⟩⟩
theorem Inv.BK(I:Inv X bc σ H s)(e:H a=some (.dM o (.dK bf)))(n:∀o u,X.H₀ a≠some (.dM o u)):Inv X bc σ (upd H a (.dK bf)) s:=by
 have ne:∀b u,H b=some u->(∀o u',u≠.dM o u')->b≠a:=λb u q hn z=>by
  rw[z,e]at q;exact hn _ _ (eF q).symm
 have nn:∀b,H b=none->b≠a:=λb q z=>by rw[z,e]at q;cases q
 refine⟨I.ok,I.os,I.bare,⟨I.base.keep,I.base.slot,λb ob q hb hx=>?_,I.base.there,λb xs q=>?_,λb ob u q=>?_,λb ps q=>?_⟩,I.loc,I.cell,?_,λx c q=>?_,λp hp=>?_,λb u q=>?_,I.len⟩
 ·have h:=I.base.free b ob q hb hx;rw[cH (nn b h)];exact h
 ·have h:=I.base.jc b xs q;rw[cH (ne b _ h λ_ _ z=>nomatch z)];exact h
 ·have h:=I.base.iQ b ob u q;have hb:b≠a:=λz=>n ob u (z▸q);rw[cH hb];exact h
 ·obtain⟨more,h⟩:=I.base.jG b ps q;exact⟨more,by rw[cH (ne b _ h λ_ _ z=>nomatch z)];exact h⟩
 ·rw[cH (nn _ I.free)];exact I.free
 ·rw[cH (nn _ (I.l6 x c q))];exact I.l6 x c q
 ·obtain⟨h1,h2,h3⟩:=I.pin p hp;exact⟨h1,by rw[cH (nn _ h2)];exact h2,h3⟩
 ·by_cases hb:b=a
  ·subst hb;rw[bz]at q;cases q
   have:=(I.bZ b _ e).2
   exact this
  ·rw[cH hb]at q;refine(I.bZ b u q).mY (λ_ _ _ r=>r) (λc r=>?_) λc xs r=>?_
   ·rw[cH (ne c _ r λ_ _ z=>nomatch z)];exact r
   ·rw[cH (ne c _ r λ_ _ z=>nomatch z)];exact r
theorem Yw{P:Program}{w:World}{k:Key}{u:Value}(h:(gO P w).is k u=true):RelV (kV k) u:=by
 rcases oM h with⟨i,t,rfl,rfl⟩|⟨x,t,rfl,rfl⟩
 ·exact⟨t,rfl⟩
 ·exact⟨t,rfl⟩
theorem pairs_at{P:Program}{w:World}{vs:List (Key×Value)}(h:Pairs (gO P w) es vs):∀{i:Nat}{e:DictEntry},es[i]?=some e->∃kv,vs[i]?=some kv/\(gO P w).is kv.1 e.key=true:=by
 induction h with
 |nil=>intro i e z;cases z
 |cons h1 _ _ ih=>
  intro i e z;cases i with
  |zero=>cases z;exact⟨_,rfl,h1⟩
  |succ i=>exact ih z
noncomputable def vG(o:Obj)(a:Addr)(bf:List (Key×V)):It:=
 ⟨λi H=>H a=some (.dM o (.dK bf))/\i<bf.length,λi H x H'=>H'=H/\∃kv,bf[i]?=some kv/\x=kV kv.1,λi H=>H a=some (.dM o (.dK bf))/\bf.length<=i⟩
theorem N7(I:Inv X bc σ H s)(e:H a=some (.dM o (.dK bf))){es:Array DictEntry}{ep:Nat}(ho:o.data=.dict es ep):j9 s.heap a es ep/\es.size=bf.length/\∀(i:Nat)(h:i<es.size),∃kv,bf[i]?=some kv/\RelV (kV kv.1) es[i].key:=by
 obtain⟨g,z,y,vs,r,o',es',zN,g',c,d,_,hp,_⟩:=I.bZ a _ e;rw[g]at g';cases g';rw[ho]at d;cases d;have hl:es.size=bf.length:=by rw[<- pK,hp.length,<- r.length]
 refine⟨⟨o,g,c,ho⟩,hl,λi h=>?_⟩;obtain⟨Yx,h1,h2⟩:=pairs_at hp (i:=i) (e:=es[i]) (by rw[Dh,pM h]);have hk:=r.keys;have hi:i<bf.length:=by rw[<- hl];exact h
 refine⟨bf[i],gk hi,?_⟩;have e2:(bf.map (·.1))[i]?=(vs.map (·.1))[i]?:=by rw[hk]
 rw[fw,fw,gk hi,h1]at e2;have e3:bf[i].1=Yx.1:=eF e2;rw[e3];exact Yw h2
theorem Yy{P:Program}{w:World}{K:Frag}(o:Obj)(es:Array DictEntry)(ep:Nat)(ho:o.data=.dict es ep)(a it:Addr)(bf:List (Key×V))(dX:a≠it):Turn P w K tg (vG o a bf) [it] it (λi h=>h.IsKeyIter it a i es.size ep) where
 mem:=by simp
 obj:=λi h st b hb=>by
  have e:b=it:=by simpa using hb
  subst e;obtain⟨o,e,c,d⟩:=st;exact⟨o,e,λv z=>by rw[d]at z;cases z⟩
 keep:=λi h h' st k=>st.at λo e=>k it (by simp) o e
 item:=by
  intro X hP hw hK hc i bc s σ H E I hf st hg;subst hP hw hK;obtain⟨hg,hi⟩:=hg;obtain⟨raw,hl,hk⟩:=N7 I hg ho;have pe:i<es.size:=by rw[hl];exact hi
  obtain⟨kv,h1,h2⟩:=hk i pe;obtain⟨f0,f1,f2,f3,f4,f5⟩:=hf it (by simp);refine G2 st raw pe λh' iI sb=>?_;have I1:Inv X bc σ H { s with heap:=h' }:=I.turned (t':=s.toks) (λb o hb e=>(sb.2 b hb).trans e) f0 f1 f3 f4 f5;obtain⟨o',e,c,d⟩:=id iI;exact⟨_,rfl,uK (s:={ s with heap:=h' }) e c d (by decide) ⟨kV kv.1,H,I1,h2,⟨rfl,kv,h1,rfl⟩,iI,λb hb=>(hf b hb).1⟩⟩
 done:=by
  intro X hP hw hK hc i bc s σ H E I hf st hg;subst hP hw hK;obtain⟨hg,hi⟩:=hg;obtain⟨raw,hl,hk⟩:=N7 I hg ho;obtain⟨f0,f1,f2,f3,f4,f5⟩:=hf it (by simp);exact G3 (I.ok.hd hc) st raw (by rw[hl];exact hi) λh' eb=>⟨rfl,I.turned (t':=s.toks) (λb o hb e=>eb b o hb e) f0 f1 f3 f4 f5⟩
 self:=λ_ _ _ _ _ st h=>wpAny_pyIter_keyiter st h
def N8(td:TE):TI:=λσ H R=>td σ H λx H1=>∃a bf,x=.ref a/\H1 a=some (.dK bf)/\∀o,R (vG o a bf) (upd H1 a (.dM o (.dK bf)))
theorem N9{l:Expr}{tl:TE}(hl:PE X l tl):PI X tg l (N8 tl):=by
 intro bc s σ H R I h;refine bj (hl bc s σ H _ I h) λv s1 ⟨x,H1,I1,r1,q1⟩=>?_;obtain⟨a,bf,e,hq,q⟩:=q1;subst e;cases r1;obtain⟨o,g,I2⟩:=I1.freeze hq;obtain⟨z,lo,vs,r,o',es,ep,g',c,d,_⟩:=I1.bZ a _ hq;rw[g]at g';cases g';have dX:a≠s1.heap.objs.size:=fK (dH g);refine G1 lo ⟨o,g,c,d⟩ ?_;refine⟨s1.heap.objs.size,[s1.heap.objs.size],_,_,_,rfl,I2.kept (t':=s1.toks) λb o e=>dJ _ e,Yy o es ep d a _ bf dX,⟨_,gT _ rfl,rfl,rfl⟩,λb hb=>?_,q o⟩;have e:b=s1.heap.objs.size:=by simpa using hb
 subst e;exact I2.l8 (cF _) (I2.bZ.fresh (cF _))
end
noncomputable def Hi(D:List (Str×V)):It:=⟨λi _=>i<D.length,λi H x H'=>H'=H/\∃kv,D[i]?=some kv/\x=.str kv.1,λi _=>D.length<=i⟩
theorem Oa{δ:Type}{R:δ->Value->Prop}{D:List (Str×δ)}(h:KTD.Rows R es D):es.length=D.length:=by
 induction h with
 |nil=>rfl
 |cons _ _ _ ih=>rw[fj,fj,ih]
theorem Yz{δ:Type}{R:δ->Value->Prop}{D:List (Str×δ)}(h:KTD.Rows R es D):∀{i:Nat}{e:DictEntry},es[i]?=some e->∃kv t,D[i]?=some kv/\e.key=.str kv.1 t:=by
 induction h with
 |nil=>intro i e z;cases z
 |cons hk hv _ ih=>
  intro i e z;cases i with
  |zero=>cases z;exact⟨_,_,rfl,hk⟩
  |succ i=>exact ih z
theorem YA{K:Frag}(h:pd K a=true):∃o es ep,K.lookup a=some o/\(a==sysModules)=false/\o.ExactDict/\o.data=.dict es ep/\KTD.Rows (λ(v:V)(u:Value)=>RelV v u) es.toList (gQ K a):=by
 unfold pd KTD.tabLook at h;rw[dq]at h;obtain⟨h0,h1⟩:=h;split at h1
 ·rename_i o ho
  simp only[dq]at h1;obtain⟨⟨⟨e1,e2⟩,e3⟩,e4⟩:=h1;split at e4
  ·rename_i es ep hd
   exact⟨o,es,ep,ho,by simpa using h0,⟨beq_iff_eq.mp e1,by simpa using e2,by simpa using e3⟩,hd,KTD.rows_of_look MD e4⟩
  ·cases e4
 ·cases h1
section
variable{X:Cx}
theorem YB{P:Program}{w:World}{K:Frag}{D:List (Str×V)}(o:Obj)(es:Array DictEntry)(ep:Nat)(a it:Addr)(hk:K.lookup a=some o)(hc:o.ExactDict)(ho:o.data=.dict es ep)(hr:KTD.Rows (λ(v:V)(u:Value)=>RelV v u) es.toList D) :
  Turn P w K tg (Hi D) [it] it (λi h=>h.IsKeyIter it a i es.size ep) where
 mem:=by simp
 obj:=λi h st b hb=>by
  have e:b=it:=by simpa using hb
  subst e;obtain⟨o,e,c,d⟩:=st;exact⟨o,e,λv z=>by rw[d]at z;cases z⟩
 keep:=λi h h' st k=>st.at λo e=>k it (by simp) o e
 item:=by
  intro X hP hw hK Ob i bc s σ H E I hf st hi;subst hP hw hK;have raw:j9 s.heap a es ep:=⟨o,I.eK a o hk,hc,ho⟩;have hl:es.size=D.length:=by rw[<- pK];exact Oa hr
  have pe:i<es.size:=by rw[hl];exact hi
  obtain⟨kv,t,h1,h2⟩:=Yz hr (i:=i) (e:=es[i]) (by rw[Dh,pM pe]);obtain⟨f0,f1,f2,f3,f4,f5⟩:=hf it (by simp);refine G2 st raw pe λh' iI sb=>?_;have I1:Inv X bc σ H { s with heap:=h' }:=I.turned (t':=s.toks) (λb o hb e=>(sb.2 b hb).trans e) f0 f1 f3 f4 f5;obtain⟨o',e,c,d⟩:=id iI;exact⟨_,rfl,uK (s:={ s with heap:=h' }) e c d (by decide) ⟨.str kv.1,H,I1,⟨t,h2⟩,⟨rfl,kv,h1,rfl⟩,iI,λb hb=>(hf b hb).1⟩⟩
 done:=by
  intro X hP hw hK Ob i bc s σ H E I hf st hi;subst hP hw hK;have raw:j9 s.heap a es ep:=⟨o,I.eK a o hk,hc,ho⟩;have hl:es.size=D.length:=by rw[<- pK];exact Oa hr
  obtain⟨f0,f1,f2,f3,f4,f5⟩:=hf it (by simp);exact G3 (I.ok.hd Ob) st raw (by rw[hl];exact hi) λh' eb=>⟨rfl,I.turned (t':=s.toks) (λb o hb e=>eb b o hb e) f0 f1 f3 f4 f5⟩
 self:=λ_ _ _ _ _ st h=>wpAny_pyIter_keyiter st h
def YC(a:Addr)(D:List (Str×V))(td:TE):TI:=λσ H R=>td σ H λx H1=>x=.ref a/\R (Hi D) H1
theorem YD{l:Expr}{tl:TE}(hT:pd X.K a=true)(hl:PE X l tl):PI X tg l (YC a (gQ X.K a) tl):=by
 intro bc s σ H R I h;refine bj (hl bc s σ H _ I h) λv s1 ⟨x,H1,I1,r1,e,q⟩=>?_;subst e;cases r1;obtain⟨o,es,ep,hk,lo,hc,ho,hr⟩:=YA hT;refine G1 lo ⟨o,I1.eK a o hk,hc,ho⟩ ?_;refine⟨s1.heap.objs.size,[s1.heap.objs.size],_,_,_,rfl,I1.kept (t':=s1.toks) λb o e=>dJ _ e,YB o es ep a _ hk hc ho hr,⟨_,gT _ rfl,rfl,rfl⟩,λb hb=>?_,q⟩;have e:b=s1.heap.objs.size:=by simpa using hb
 subst e;exact I1.l8 (cF _) (I1.bZ.fresh (cF _))
theorem YE{D:List (Str×V)}{H1:Hp}{cp:St}{tt:TT}{Q:VK}(Pv:Nat->Hp->List V->Prop)(hz:D.length<=sizeLine)(h0:Pv 0 H1 [])(cT:∀i H zs,Pv i H zs->zs.length<=i)
  (step:∀i kv H zs,D[i]?=some kv->bh H1 H->Pv i H zs->tt (some (.str kv.1)::cp) H λc H4=>if c=true then te (some (.str kv.1)::cp) H4 λv H5=>mi 1 cp H1 (Pv (i+1)) (some (.str kv.1)::cp) H5 (zs++[v])else mi 1 cp H1 (Pv (i+1)) (some (.str kv.1)::cp) H4 zs)
  (done:∀H zs,bh H1 H->Pv D.length H zs->∀p,H p=none->Q (.ref p) (upd H p (.lst zs))) :
  ∃W:Nat->Nat->St->Hp->List V->Prop,(∃m,W 0 m (List.replicate 1 none++cp) H1 [])/\qK (Hi D) (bY 0) tt te Q W:=by
 refine Ay (n:=D.length) Pv hz h0 cT (λi H sm hi=>hi) (λH sm=>cF _) (λi o H zs hi ho sm pv x H2 y=>?_) done;obtain⟨w,rfl⟩:=xy ho;obtain⟨rfl,kv,vB,rfl⟩:=y;exact step i kv H2 zs vB sm pv
end
theorem YF:typeLookup (.type "list") "keys"=pure none:=by rw[aV,aW];kernel_rfl
section
variable{prog:Program}{w:World}{A:Around}{E:QV}{s:Shared}
theorem YG{k:Nat}{Q:Option Value->Shared->Prop}(hx:s.heap.get? a=some { cls:=.type "list",data:=.seq xs k })(hA:A.handled=none)
  (h:∀h' tk,(∀b o,s.heap.get? b=some o->h'.get? b=some o)->Q none { s with heap:=h',toks:=tk }):wpAny (model prog w) A (getAttr? (.ref a) "keys") Q E s:=by
 obtain⟨hp,g,d,tk,os⟩:=s;have ty:∀z,(⟨hp,g,d,z,os⟩:Shared).TypeIs (.ref a) "list":=λ_=>⟨_,hx,rfl⟩;have e1:=sub_AttributeError;have e2:=F.slot_list_getattribute.lookup;have e3:=F.slot_list_getattribute.bind (.ref a);have e4:=am_list_getattr_none;unfold getAttr? getAttrBy? getAttrBy;repeat(any_goals (first|assumption|exact ty _|((with_reducible show wpAny _ _ (call (Value.builtin "list.__getattribute__") _ _) _ _ _);refine call_meets F.slot_list_getattribute (ty _) am_entry_list_getattribute (F.args_list_getattribute_2 _ _) (meets_getattribute_miss_list a xs k #[] "keys" _ YF (by decide +kernel) (by decide +kernel)) ⟨hx,hA,λh' z e hn=>?_⟩)|wp_step))
 obtain⟨t1,t2,he⟩:=hn.there;show wpAny _ _ (getattributeRaised _ _ _ _ _ _ _) _ _ _;unfold getattributeRaised;repeat(any_goals (first|assumption|wp_step))
 exact h _ _ hn.keeps
theorem Oc:entryFor table "dict.update.loop"=some Builtin.«dict.update.loop»:=entryFor_of_tree (by kernel_rfl)
theorem BL:plainId "dict.update.loop"=true:=by decide +kernel
variable{κ:Type} [DecidableEq κ] {knd:KeyKind prog w κ}
def BM(knd:KeyKind prog w κ)(h:Heap)(u:Value)(kv:κ×Value):Prop:=∃t key o n,u=.ref t/\h.get? t=some o/\o.cls=.type "tuple"/\o.data=.seq #[key,kv.2] n/\knd.is kv.1 key=true
theorem YH{d l I:Addr}{nn:Nat}{ps:List (κ×Value)}{R:Result->Shared->Prop}(hh:A.handled=none)(cT:xs.size=ps.length)(Hj:d≠I)(g9:d≠l)(YI:l≠I) :
  ∀(k i:Nat)(s:Shared)(bf:List (κ×Value)),ps.length-i=k->i<=ps.length->s.heap.IsListIter I l i->s.heap.get? l=some { cls:=.type "list",data:=.seq xs nn }->
   (∀(j:Nat)(u:Value)(kv:κ×Value),xs[j]?=some u->ps[j]?=some kv->BM knd s.heap u kv)->s.heap.DictOf knd d bf->bf.length+(ps.length-i)<=sizeLine->
   (∀h' tk,(∀b o,b≠d->b≠I->s.heap.get? b=some o->h'.get? b=some o)->h'.DictOf knd d (merged bf (ps.drop i))->R (.ok (.ret .none)) { s with heap:=h',toks:=tk })->
   codeAny (model prog w) A (.builtin "dict.update.loop" ⟨[.ref d,.ref I,rawInt (i:Int),.none],[]⟩) R s:=by
 have YJ:A.in1.handled=none:=by simp[hh]
 intro k;induction k with
 |zero=>
  intro i s bf hk hi hit hl hp hd hz hR;have e:i=ps.length:=by lia
  subst e;refine aL Oc ?_;rw[Around.under_plainId BL _];show wpAny _ A.in1 (pyNext (.ref I) >>= _) _ _ s;refine ak (wpAny_pyNext_list_end YJ hit ⟨_,hl,rfl,nn,rfl⟩ (by rw[Array.getElem?_eq_none (by rw[cT];exact cF _)]) λh' eb=>?_);show wpAny _ A.in1 (Builtin.Dict.addKeywords d [] >>= _) _ _ _;refine ak (au ?_);refine au (hR h' s.toks (λb o _ hb e=>eb b o hb e) ?_);rw[List.drop_length];exact hd.extBut eb Hj
 |succ k ih=>
  intro i s bf hk hi hit hl hp hd hz hR;have cY:i<ps.length:=by lia
  have hx:xs[i]?=some (xs[i]'(by rw[cT];exact cY)):=pM _;have hq:ps[i]?=some ps[i]:=gk cY;obtain⟨t,key,o,n,eu,ht,hc,YK,YL⟩:=hp i _ _ hx hq;rw[eu]at hx;refine aL Oc ?_;rw[Around.under_plainId BL _];show wpAny _ A.in1 (pyNext (.ref I) >>= _) _ _ s;refine ak (wpAny_pyNext_list_item hit ⟨_,hl,rfl,nn,rfl⟩ hx λh1 YM Hk=>?_);have YN:t≠I:=λz=>by
   obtain⟨oi,gi,ci,_⟩:=hit;rw[z,gi]at ht;cases ht;rw[ci]at hc;exact absurd hc (by decide)
  have tm:t≠d:=λz=>by
   obtain⟨od,es,ep,gd,cd,_⟩:=hd;rw[z,gd]at ht;cases ht;rw[cd.1]at hc;exact absurd hc (by decide)
  have px:h1.get? t=some o:=(Hk.2 t YN).trans ht;refine ak (ao (ak (wpAny_tryCatch ?_)));unfold Builtin.Dict.pairItems;refine ak (wpAny_typeOf (s:={ s with heap:=h1 }) (T := "tuple") ⟨o,px,hc⟩ ?_);rw[ae (by decide)];refine ak (wpAny_seqItems (s:={ s with heap:=h1 }) px YK (au ?_));show wpAny _ _ (holding [key,ps[i].2] (dictSet d key ps[i].2)) _ _ _;have YO:h1.DictOf knd d bf:=hd.sameBut Hk Hj;refine ao (wpAny_dictSet_pairs (s:={ s with heap:=h1 }) (hsz:=by lia) YL YO λh2 oY Od=>?_);have kp:∀b o,b≠d->b≠I->s.heap.get? b=some o->h2.get? b=some o:=λb o pz pA e=>(Od.2 b pz).trans ((Hk.2 b pA).trans e);refine au ⟨aX BL _,?_⟩;have ip:(stored bf ps[i].1 ps[i].2).length<=bf.length+1:=by
   unfold stored;split
   ·rw[cB];lia
   ·rw[cL];exact cF _
  refine ih (i+1) { s with heap:=h2,toks:=s.toks+1 } (stored bf ps[i].1 ps[i].2) (by lia) cY (YM.at λo e=>(Od.2 I Hj.symm).trans e) (kp l _ g9.symm YI hl) (λj u kv pz pA=>?_) oY (by lia) λh' tk k' Dt=>?_
  ·obtain⟨t',YQ,o',n',e1,e2,e3,e4,e5⟩:=hp j u kv pz pA;refine⟨t',YQ,o',n',e1,kp t' o' (λz=>?_) (λz=>?_) e2,e3,e4,e5⟩
   ·obtain⟨od,es,ep,gd,cd,_⟩:=hd;rw[z,gd]at e2;cases e2;rw[cd.1]at e3;exact absurd e3 (by decide)
   ·obtain⟨oi,gi,ci,_⟩:=hit;rw[z,gi]at e2;cases e2;rw[ci]at e3;exact absurd e3 (by decide)
  ·refine hR h' tk (λb o pz pA e=>k' b o pz pA (kp b o pz pA e)) ?_;rw[Dn cY];exact Dt
end
section
variable{prog:Program}{w:World}{A:Around}{E:QV}{s:Shared}
variable{κ:Type} [DecidableEq κ] {knd:KeyKind prog w κ}
theorem YR{l:Addr}{nn:Nat}{ps:List (κ×Value)}{Q:QV}(hh:A.handled=none)(cT:xs.size=ps.length)(hl:s.heap.get? l=some { cls:=.type "list",data:=.seq xs nn })
  (hp:∀(j:Nat)(u:Value)(kv:κ×Value),xs[j]?=some u->ps[j]?=some kv->BM knd s.heap u kv) (hz:ps.length<=sizeLine)
  (h:∀h' tk,(∀b o,s.heap.get? b=some o->h'.get? b=some o)->h'.DictOf knd s.heap.objs.size (merged [] ps)->Q (.ref s.heap.objs.size) { s with heap:=h',toks:=tk }) :
  wpAny (model prog w) A (call (.type "dict") [.ref l]) Q E s:=by
 refine callType_codes (Q₁:=λobj s₁=>obj=.ref s.heap.objs.size/\s₁={ s with heap:=s.heap.push { cls:=.type "dict",data:=.dict #[] } }) F.kt_called_dict (F.kt_typeCall_dict_1 _) F.entry_dict_init (kt_code_dict_new _ ⟨rfl,rfl⟩) ?_;rintro obj s₁ ⟨rfl,rfl⟩;have qF:(s.heap.push { cls:=.type "dict",data:=.dict #[] }).DictOf knd s.heap.objs.size []:=Heap.DictOf.new s.heap;refine⟨qF.typeIs,F.args_dict_init_2 _ _,?_⟩;have lQ:(s.heap.push { cls:=.type "dict",data:=.dict #[] }).get? l=some { cls:=.type "list",data:=.seq xs nn }:=dJ _ hl;have cY:l<s.heap.objs.size:=dH hl;have k1:∀b o,s.heap.get? b=some o->(s.heap.push { cls:=.type "dict",data:=.dict #[] }).get? b=some o:=λb o e=>dJ _ e;have big:s.heap.objs.size<(s.heap.push { cls:=.type "dict",data:=.dict #[] }).objs.size:=by rw[Heap.size_push];exact Nat.lt_succ_self _
 generalize s.heap.push { cls:=.type "dict",data:=.dict #[] }=g1 at qF lQ k1 big |-;unfold Builtin.«dict.__init__»;refine ak ?_;unfold Builtin.Dict.selfAndRest;refine ak (wpAny_notOrdered_dict (s:={ s with heap:=g1 }) qF.typeIs ?_);show wpAny _ _ (pure (s.heap.objs.size,[Value.ref l])) _ _ _;refine au ?_;show wpAny _ _ (Builtin.Dict.updateFrom "dict.__init__" s.heap.objs.size (.ref l) [] .none) _ _ _;unfold Builtin.Dict.updateFrom;refine ak (wpAny_typeOf (s:={ s with heap:=g1 }) (T := "list") ⟨_,lQ,rfl⟩ ?_);rw[ae (by decide)];have YS:A.in1.in1.handled=none:=by simp[hh]
 refine ak (YG (s:={ s with heap:=g1 }) lQ YS λg2 tk k2=>?_);have oY:g2.DictOf knd s.heap.objs.size []:=by
  obtain⟨o,es,ep,e,r⟩:=qF;exact⟨o,es,ep,k2 _ _ e,r⟩
 have ip:=k2 _ _ lQ;have Oe:s.heap.objs.size<g2.objs.size:=by
  obtain⟨o,es,ep,e,_⟩:=oY;exact dH e
 have YT:l<g2.objs.size:=dH ip;rw[ae (by rfl)];refine ak (wpAny_rule ?_);refine ak (wpAny_pyIter_list (s:={ s with heap:=g2,toks:=tk }) (items:=xs) ⟨_,ip,rfl,nn,rfl⟩ ?_);refine au ⟨aX BL _,?_⟩;refine YH (knd:=knd) (ps:=ps) (nn:=nn) (xs:=xs) (l:=l) (by simp[hh]) cT (fK Oe) (Nat.ne_of_gt cY) (fK YT) ps.length 0 _ [] (by lia) (gH _) ⟨_,gT _ rfl,rfl,rfl⟩ (dJ _ ip) (λj u kv e1 e2=>?_) ?_ (by simpa using hz) λh' vH k3 YU=>?_
 ·obtain⟨t,key,o,n,a1,a2,a3⟩:=hp j u kv e1 e2;exact⟨t,key,o,n,a1,dJ _ (k2 _ _ (k1 _ _ a2)),a3⟩
 ·obtain⟨o,es,ep,e,r⟩:=oY;exact⟨o,es,ep,dJ _ e,r⟩
 ·refine⟨rfl,h h' vH (λb o e=>?_) YU⟩;have hb:b<s.heap.objs.size:=dH e;exact k3 b o (fK hb) (fK (Nat.lt_trans hb Oe)) (dJ _ (k2 _ _ (k1 _ _ e)))
end
section
variable{X:Cx}{K:Frag}
def eP(K:Frag)(H:Hp)(zs:List V)(bf:List (Key×V)):Prop:=zs.length=bf.length/\∀(i:Nat)(x:V)(kv:Key×V),zs[i]?=some x->bf[i]?=some kv->∃t,x=.ref t/\cg K H t [kV kv.1,kv.2]
theorem eP.mono{H':Hp}{zs:List V}(h:eP K H zs bf)(s:bh H H'):eP K H' zs bf:=⟨h.1,λi x kv e1 e2=>let ⟨t,e,g⟩:=h.2 i x kv e1 e2;⟨t,e,s.cV g⟩⟩
theorem eP.nil:eP K H [] []:=⟨rfl,λi x kv e=>by cases e⟩
theorem eP.snoc{zs:List V}{t:Addr}{kv:Key×V}(h:eP K H zs bf)(g:cg K H t [kV kv.1,kv.2]):eP K H (zs++[.ref t]) (bf++[kv]):=by
 refine⟨by rw[cL,cL,h.1];rfl,λi x q e1 e2=>?_⟩;by_cases hi:i<zs.length
 ·rw[lg hi]at e1;rw[lg (by rw[<- h.1];exact hi)]at e2;exact h.2 i x q e1 e2
 ·rw[kZ (by lia)]at e1;rw[kZ (by rw[<- h.1];lia),<- h.1]at e2;generalize i-zs.length=j at e1 e2;cases j with
  |zero=>cases e1;cases e2;exact⟨t,rfl,g⟩
  |succ j=>cases e1
theorem Of:∀{a:List (Key×V)}{b:List (Key×Value)}{x:Key×V}{y:Key×Value},KV a b->(x.1=y.1/\RelV x.2 y.2)->KV (a++[x]) (b++[y])
 |_,_,_,_,.nil,h=>.cons h .nil
 |_,_,_,_,.cons r t,h=>.cons r (Of t h)
def Og(K:Frag):List V->Hp->VK->Prop:=λvs H Q=>∃l zs bf,vs=[.ref l]/\H l=some (.lst zs)/\eP K H zs bf/\∀p,H p=none->Q (.ref p) (upd H p (.dK (nU [] bf)))
theorem YV(hK:X.K=K)(hc:X.calm=true):eW X (.type "dict") (Og K):=by
 subst hK;intro bc s σ H vs us Q I r h;obtain⟨l,zs,bf,rfl,g,hP,q⟩:=h;obtain⟨u,rfl,ru⟩:=vals1 r;cases ru;obtain⟨z,its,n,rv,hl⟩:=I.bZ l _ g;have cT:its.length=bf.length:=by rw[<- rv.length,hP.1]
 have Ge:∃ps:List (Key×Value),KV bf ps/\∀(j:Nat)(u:Value)(kv:Key×Value),its.toArray[j]?=some u->ps[j]?=some kv->BM (gO X.prog X.w) s.heap u kv:=by
  have key:∀m,m<=bf.length->∃ps:List (Key×Value),KV (bf.take m) ps/\∀(j:Nat)(u:Value)(kv:Key×Value),its.toArray[j]?=some u->ps[j]?=some kv->BM (gO X.prog X.w) s.heap u kv:=by
   intro m;induction m with
   |zero=>exact λ_=>⟨[],.nil,λj u kv _ e=>by cases e⟩
   |succ m ih=>
    intro hm;obtain⟨ps,h1,h2⟩:=ih (by lia);have hq:bf[m]?=some bf[m]:=gk (by lia);have hx:zs[m]?=some (zs[m]'(by rw[hP.1];lia)):=gk _;obtain⟨t,ex,ht⟩:=hP.2 m _ _ hx hq;obtain⟨u,hu,ru⟩:=rv.get hx;rw[ex]at ru;cases ru;obtain⟨ts,rt,⟨o,ho,pB,nn,hd⟩,_⟩:=I.tuple ht
    match ts,rt with
    |_,.cons r1 (.cons r2 .nil)=>
     rename_i u1 u2
     have pl:ps.length=m:=by rw[<- h1.length,oH];lia
     refine⟨ps++[(bf[m].1,u2)],?_,λj u kv e1 e2=>?_⟩
     ·rw[rP,hq];exact Of h1 ⟨rfl,r2⟩
     ·by_cases hj:j<ps.length
      ·rw[lg hj]at e2;exact h2 j u kv e1 e2
      ·have:j=m:=by
        have:=(fO.mp e2).1
        rw[cL]at this;simp at this;lia
       subst this;rw[kZ (by lia),pl,Nat.sub_self]at e2;cases e2;have Oh:its[j]?=some u:=by simpa using e1
       rw[hu]at Oh;cases Oh;exact⟨t,u1,o,nn,rfl,ho,pB,hd,pY r1⟩
  obtain⟨ps,h1,h2⟩:=key bf.length (cF _);rw[uo]at h1;exact⟨ps,h1,h2⟩
 obtain⟨ps,rel,hp⟩:=Ge;have kl:bf.length<=sizeLine:=by rw[<- hP.1];exact z
 refine YR (knd:=gO X.prog X.w) (ps:=ps) (I.ok.hd hc) (by rw[dR,cT,rel.length]) hl hp (by rw[<- rel.length];exact kl) λh' tk hk hd=>?_;have I1:Inv X bc σ H { s with heap:=h',toks:=tk }:=I.kept hk;have fp:je X bc H s.heap.objs.size:=I.l8 (cF _) I.fresh;have ml:=EK bf [];have I2:=I1.xx (o:=.dK (nU [] bf)) fp (EG (by have:([]:List (Key×V)).length=0:=rfl;lia) (beq_eq_false_iff_ne.mpr (fe (fK I.big))) (KV.merge rel .nil) hd);exact⟨.ref _,_,I2,rfl,q _ fp.1⟩
end
section
variable{X:Cx}{K:Frag}
def YW(t:TS):TS:=λD σ H=>∃a bf,H a=some (.dK bf)/\t { D with nx:=λσ' H'=>(∃o,H' a=some (.dM o (.dK bf)))/\D.nx σ' (upd H' a (.dK bf)) } σ H
theorem Oi{bc:List (Addr×Obj)}{σ:St}{s:Shared}(I:Inv X bc σ H s)(e:H a=some (.dK bf)):∀o u,X.H₀ a≠some (.dM o u):=λo u z=>by
 have:=I.base.iQ a o u z
 rw[e]at this;cases this
theorem YX{st:Stmt}{t:TS}(h:PS X st t):PS X st (YW t):=by
 intro bc s σ H D I q;obtain⟨a,bf,e,q⟩:=q;have n:=Oi I e;refine bj (h bc s σ H _ I q) λf s' q=>?_;cases f with
 |next=>
  obtain⟨σ',H',I',⟨o,g⟩,q⟩:=q;exact⟨σ',_,I'.BK g n,q⟩
 |ret v=>exact q
 |brk=>exact q
 |cont=>exact q
def Oj(te:TE):TE:=λσ H Q=>∃a bf,H a=some (.dK bf)/\te σ H λv H'=>(∃o,H' a=some (.dM o (.dK bf)))/\Q v (upd H' a (.dK bf))
theorem YY{e:Expr}(h:PE X e te):PE X e (Oj te):=by
 intro bc s σ H Q I q;obtain⟨a,bf,e',q⟩:=q;have n:=Oi I e';refine bj (h bc s σ H _ I q) λv s' q=>?_;obtain⟨x,H',I',r,⟨o,g⟩,q⟩:=q;exact⟨x,_,I'.BK g n,r,q⟩
theorem YZ{g:TG}{tb:TS}{D:Ends}{σ:St}(Pv:Nat->St->Hp->Prop)(h0:Pv 0 σ H)(hf:∀i σ H,Pv i σ H->H a=some (.dM o (.dK bf)))
  (hs:∀i kv σ H,bf[i]?=some kv->Pv i σ H->g (kV kv.1) σ H λσ2 H2=>tb { D with nx:=Pv (i+1),ct:=Pv (i+1),bk:=D.nx } σ2 H2) (hd:∀σ H,Pv bf.length σ H->D.nx σ H) :
  ∃W:Nat->Nat->St->Hp->Prop,(∃m,W 0 m σ H)/\∀i m σ H,W i m σ H->
   ((vG o a bf).stop i H/\D.nx σ H)\/((vG o a bf).go i H/\∃N:St->Hp->Prop,(∀σ' H',N σ' H'->∃m',m'<m/\W (i+1) m' σ' H')/\∀x H',(vG o a bf).pS i H x H'->g x σ H' λσ2 H2=>tb { D with nx:=N,ct:=N,bk:=D.nx } σ2 H2):=by
 refine⟨λi m σ H=>m=bf.length-i/\i<=bf.length/\Pv i σ H,⟨bf.length,by simp,gH _,h0⟩,?_⟩;rintro i m σ H ⟨rfl,hi,p⟩;by_cases cY:i<bf.length
 ·refine .inr ⟨⟨hf i σ H p,cY⟩,Pv (i+1),λσ' H' p'=>⟨bf.length-(i+1),by lia,rfl,cY,p'⟩,λx H' y=>?_⟩;obtain⟨rfl,kv,hk,rfl⟩:=y;exact hs i kv σ _ hk p
 ·have e:i=bf.length:=by lia
  subst e;exact .inl ⟨⟨hf _ σ H p,cF _⟩,hd σ H p⟩
theorem Y0{H1:Hp}{cp:St}{tt:TT}{Q:VK}(Pv:Nat->Hp->List V->Prop)(hq:H1 a=some (.dM o (.dK bf)))(hz:bf.length<=sizeLine)(h0:Pv 0 H1 [])(cT:∀i H zs,Pv i H zs->zs.length<=i)
  (step:∀i kv H zs,bf[i]?=some kv->bh H1 H->Pv i H zs->tt (some (kV kv.1)::cp) H λc H4=>if c=true then te (some (kV kv.1)::cp) H4 λv H5=>mi 1 cp H1 (Pv (i+1)) (some (kV kv.1)::cp) H5 (zs++[v])else mi 1 cp H1 (Pv (i+1)) (some (kV kv.1)::cp) H4 zs)
  (done:∀H zs,bh H1 H->Pv bf.length H zs->∀p,H p=none->Q (.ref p) (upd H p (.lst zs))) :
  ∃W:Nat->Nat->St->Hp->List V->Prop,(∃m,W 0 m (List.replicate 1 none++cp) H1 [])/\qK (vG o a bf) (bY 0) tt te Q W:=by
 refine Ay (n:=bf.length) Pv hz h0 cT (λi H sm hi=>⟨sm _ _ hq,hi⟩) (λH sm=>⟨sm _ _ hq,cF _⟩) (λi o' H zs hi ho sm pv x H2 y=>?_) done;obtain⟨w,rfl⟩:=xy ho;obtain⟨rfl,kv,hk,rfl⟩:=y;exact step i kv _ zs hk sm pv
theorem Y1:bootBuiltins "dict"=some (.type "dict"):=by decide +kernel
end
end L2
namespace L2
open PySem PySem.W PyProof.Rows
variable{m:Nat}{p:Array Nat}{s:Shared}
structure BN(n:Nat)(lt:Nat->Nat->Bool):Prop where
 tr:∀i j k,i<n->j<n->k<n->lt i j=true->lt j k=true->lt i k=true
 Hl:∀i j,i<n->j<n->i≠j->lt i j=false->lt j i=true
structure iC(n:Nat)(p:Array Nat):Prop where
 sz:p.size=n
 lt:∀k,k<n->p.getD k 0<n
 inj:∀k l,k<n->l<n->k≠l->p.getD k 0≠p.getD l 0
 pm:p.toList.Perm (List.range n)
theorem iC.of{n:Nat}(h:p.toList.Perm (List.range n)):iC n p:=by
 have hs:p.size=n:=by have:=h.length_eq;simpa using this
 have nd:p.toList.Nodup:=h.nodup_iff.mpr List.nodup_range;refine⟨hs,λk hk=>?_,λk l hk hl dX e=>?_,h⟩
 ·have hm:p.getD k 0∈p.toList:=by
   rw[oK,pM (by lia),Option.getD_some];exact Array.getElem_mem_toList _
  simpa using h.mem_iff.mp hm
 ·rw[oK,oK,pM (show k<p.size by lia),pM (show l<p.size by lia),Option.getD_some,Option.getD_some]at e;have pw:=List.pairwise_iff_getElem.mp nd;rcases Nat.lt_or_gt_of_ne dX with z|z
  ·exact pw k l (by simpa using by lia) (by simpa using by lia) z (by simpa using e)
  ·exact pw l k (by simpa using by lia) (by simpa using by lia) z (by simpa using e.symm)
theorem iC.perm{n:Nat}{q:Array Nat}(h:iC n p)(e:q.Perm p):iC n q:=.of (e.toList.trans h.pm)
def jR(lt:Nat->Nat->Bool)(p:Array Nat)(m:Nat):Prop:=∀i j,i<j->j<m->lt (p.getD i 0) (p.getD j 0)=true
def tK(lt:Nat->Nat->Bool)(p:Array Nat)(m:Nat):Prop:=∀i j,i<j->j<m->lt (p.getD j 0) (p.getD i 0)=true
section
variable{n:Nat}{lt:Nat->Nat->Bool}{cmp:Nat->Nat->(Bool->Shared->Prop)->Shared->Prop}{I:Shared->Prop}{α:Type}
def Hm(n:Nat)(lt:Nat->Nat->Bool)(cmp:Nat->Nat->(Bool->Shared->Prop)->Shared->Prop)(I:Shared->Prop):Prop:=∀i j (C:Bool->Shared->Prop) s,i<n->j<n->i≠j->I s->(∀s',I s'->C (lt i j) s')->cmp i j C s
theorem yF{T₁ T₂:KasT α}{Q:α->Shared->Prop}(h:T₁.kasWp cmp Q s):KasT.kasWp cmp (if true=true then T₁ else T₂) Q s:=by rw[ae rfl];exact h
theorem Hn{T₁ T₂:KasT α}{Q:α->Shared->Prop}(h:T₂.kasWp cmp Q s):KasT.kasWp cmp (if false=true then T₁ else T₂) Q s:=by rw[af (by decide)];exact h
variable(hL:BN n lt)(hc:Hm n lt cmp I)
include hL
theorem jR.snoc(hp:iC n p)(h:jR lt p m)(hm:m<n)(h1:0<m)(e:lt (p.getD (m-1) 0) (p.getD m 0)=true):jR lt p (m+1):=λi j mx hj=>by
 rcases Nat.lt_or_ge j m with z|z
 ·exact h i j mx z
 ·have ej:j=m:=by lia
  subst ej;rcases Nat.lt_or_ge i (j-1)with y|y
  ·exact hL.tr _ (p.getD (j-1) 0) _ (hp.lt _ (by lia)) (hp.lt _ (by lia)) (hp.lt _ hm) (h i (j-1) y (by lia)) e
  ·rw[show i=j-1 by lia];exact e
theorem tK.snoc(hp:iC n p)(h:tK lt p m)(hm:m<n)(h1:0<m)(e:lt (p.getD m 0) (p.getD (m-1) 0)=true):tK lt p (m+1):=λi j mx hj=>by
 rcases Nat.lt_or_ge j m with z|z
 ·exact h i j mx z
 ·have ej:j=m:=by lia
  subst ej;rcases Nat.lt_or_ge i (j-1)with y|y
  ·exact hL.tr _ (p.getD (j-1) 0) _ (hp.lt _ hm) (hp.lt _ (by lia)) (hp.lt _ (by lia)) e (h i (j-1) y (by lia))
  ·rw[show i=j-1 by lia];exact e
include hc
theorem Ho{p:Array Nat}{Q:Nat->Shared->Prop}(hp:iC n p):∀(f k:Nat)(s:Shared),k+f<=n->0<k->jR lt p k->I s->(∀m s',I s'->k<=m->m<=k+f->jR lt p m->(m=k+f\/lt (p.getD m 0) (p.getD (m-1) 0)=true)->Q m s')->(kas_asc p f k).kasWp cmp Q s
 |0,k,s,_,_,hS,hI,q=>q k s hI (cF _) (cF _) hS (.inl rfl)
 |f+1,k,s,hk,h0,hS,hI,q=>by
  refine hc _ _ _ s (hp.lt _ (by lia)) (hp.lt _ (by lia)) (hp.inj _ _ (by lia) (by lia) (by lia)) hI λs' jj=>?_;cases e:lt (p.getD k 0) (p.getD (k-1) 0) with
  |true=>refine yF ?_;exact q k s' jj (cF _) (by lia) hS (.inr e)
  |false=>
   refine Hn ?_;have e2:=hL.Hl _ _ (hp.lt k (by lia)) (hp.lt (k-1) (by lia)) (hp.inj _ _ (by lia) (by lia) (by lia)) e;refine Ho hp f (k+1) s' (by lia) (by lia) (jR.snoc hL hp hS (by lia) h0 e2) jj λm jI qa h1 h2 h3 h4=>q m jI qa (by lia) (by lia) h3 ?_;rcases h4 with h4|h4
   ·exact .inl (by lia)
   ·exact .inr h4
theorem Ol{p:Array Nat}{Q:Array Nat×Nat×Nat->Shared->Prop}(hp:iC n p):∀(f k:Nat)(s:Shared),k+f<=n->0<k->tK lt p k->I s->(∀m s',I s'->k<=m->m<=k+f->tK lt p m->Q (p,m,0) s')->(kas_desc f p k 0).kasWp cmp Q s
 |0,k,s,_,_,hS,hI,q=>q k s hI (cF _) (cF _) hS
 |f+1,k,s,hk,h0,hS,hI,q=>by
  refine hc _ _ _ s (hp.lt _ (by lia)) (hp.lt _ (by lia)) (hp.inj _ _ (by lia) (by lia) (by lia)) hI λs' jj=>?_;cases e:lt (p.getD k 0) (p.getD (k-1) 0) with
  |true=>
   refine yF ?_;rw[af (by decide)];exact Ol hp f (k+1) s' (by lia) (by lia) (tK.snoc hL hp hS (by lia) h0 e) jj λm jI qa h1 h2 h3=>q m jI qa (by lia) (by lia) h3
  |false=>
   refine Hn ?_;have e2:=hL.Hl _ _ (hp.lt k (by lia)) (hp.lt (k-1) (by lia)) (hp.inj _ _ (by lia) (by lia) (by lia)) e;refine hc _ _ _ s' (hp.lt _ (by lia)) (hp.lt _ (by lia)) (hp.inj _ _ (by lia) (by lia) (by lia)) jj λjI qa=>?_;rw[e2];refine yF ?_;exact q k jI qa (cF _) (by lia) hS
omit hL hc in
theorem Om{k:Nat}(hm:m<=p.size):(kas_rev p 0 m).getD k 0=if k<m then p.getD (m-1-k) 0 else p.getD k 0:=by
 unfold kas_rev;rw[oK,getElem?_mirror_all hm];by_cases h:k<m
 ·rw[ae ⟨gH _,h⟩,ae h,oK,Nat.zero_add]
 ·rw[af (λz=>h z.2),af h,oK]
theorem Y2{Q:Nat×Array Nat->Shared->Prop}(hp:iC n p)(hm:m<=n)(h1:0<m)(hS:tK lt p m)(hI:I s)(q:∀k p' s',I s'->iC n p'->m<=k->k<=n->jR lt p' k->Q (k,p') s'):(kas_tail3 m n p).kasWp cmp Q s:=by
 have sx:iC n (kas_rev p 0 m):=hp.perm (mirror_perm _ _ _ _);have Y3:jR lt (kas_rev p 0 m) m:=λi j mx hj=>by
  rw[Om (by rw[hp.sz];exact hm),Om (by rw[hp.sz];exact hm),ae (by lia),ae hj];exact hS (m-1-j) (m-1-i) (by lia) (by lia)
 unfold kas_tail3;rw[KasT.kasWp_bind];exact Ho hL hc sx (n-m) m s (by lia) h1 Y3 hI λk s' jj h2 h3 h4 _=>q k _ s' jj sx h2 (by lia) h4
theorem Y4{Q:Nat×Array Nat->Shared->Prop}(hn:2<=n)(hp:iC n p)(hI:I s)(q:∀k p' s',I s'->iC n p'->1<=k->k<=n->jR lt p' k->Q (k,p') s'):(kas_count n p).kasWp cmp Q s:=by
 unfold kas_count;rw[KasT.kasWp_bind];refine Ho hL hc hp (n-1) 1 s (by lia) (by decide) (λi j mx hj=>absurd mx (by lia)) hI λm s' jj h1 h2 h3 h4=>?_;by_cases e:m=n
 ·rw[ae (by rw[e];exact aU n)];exact q m p s' jj hp h1 (by lia) h3
 rw[af (by rw[beq_iff_eq];exact e)];have Y5:lt (p.getD m 0) (p.getD (m-1) 0)=true:=by
  rcases h4 with z|z
  ·exact absurd z (by lia)
  ·exact z
 by_cases e1:m>1
 ·rw[ae e1];refine hc _ _ _ s' (hp.lt _ (by lia)) (hp.lt _ (by lia)) (hp.inj _ _ (by lia) (by lia) (by lia)) jj λjI qa=>?_;rw[h3 0 (m-1) (by lia) (by lia)];refine yF ?_;exact q m p jI qa hp h1 (by lia) h3
 ·rw[af e1];have em:m=1:=by lia
  subst em;unfold kas_descPart;rw[KasT.kasWp_bind];refine Ol hL hc hp (n-(1+1)) (1+1) s' (by lia) (by decide) (λi j mx hj=>?_) jj λk jI qa g1 g2 g3=>?_
  ·rw[show i=0 by lia,show j=1 by lia];exact Y5
  ·rw[af (show ¬0>0 by decide)];exact Y2 hL hc hp (by lia) (by lia) g3 qa λk' p' s3 Y6 sx z1 z2 z3=>q k' p' s3 Y6 sx (by lia) z2 z3
theorem Hq{p:Array Nat}{k:Nat}{Q:Nat->Shared->Prop}(hp:iC n p)(hk:k<n)(hS:jR lt p k):∀(f l r:Nat)(s:Shared),r-l<=f->l<=r->r<=k->(∀i,i<l->lt (p.getD i 0) (p.getD k 0)=true)->(∀i,r<=i->i<k->lt (p.getD k 0) (p.getD i 0)=true)->I s->
  (∀m s',I s'->m<=k->(∀i,i<m->lt (p.getD i 0) (p.getD k 0)=true)->(∀i,m<=i->i<k->lt (p.getD k 0) (p.getD i 0)=true)->Q m s')->(kas_place p k f l r).kasWp cmp Q s
 |0,l,r,s,hf,Y7,hr,h1,h2,hI,q=>by
  have e:l=r:=by lia
  subst e;exact q l s hI hr h1 h2
 |f+1,l,r,s,hf,Y7,hr,h1,h2,hI,q=>by
  unfold kas_place;by_cases e:l>=r
  ·rw[ae e];have e':l=r:=by lia
   subst e';exact q l s hI hr h1 h2
  rw[af e];have hm:(l+r)/2<k:=by lia
  refine hc _ _ _ s (hp.lt _ hk) (hp.lt _ (by lia)) (hp.inj _ _ hk (by lia) (by lia)) hI λs' jj=>?_;cases ec:lt (p.getD k 0) (p.getD ((l+r)/2) 0) with
  |true=>
   refine yF ?_;refine Hq hp hk hS f l ((l+r)/2) s' (by lia) (by lia) (by lia) h1 (λi hi Y8=>?_) jj q;rcases Nat.lt_or_ge ((l+r)/2) i with z|z
   ·exact hL.tr _ (p.getD ((l+r)/2) 0) _ (hp.lt _ hk) (hp.lt _ (by lia)) (hp.lt _ (by lia)) ec (hS _ _ z Y8)
   ·rw[show i=(l+r)/2 by lia];exact ec
  |false=>
   refine Hn ?_;have e2:=hL.Hl _ _ (hp.lt k hk) (hp.lt ((l+r)/2) (by lia)) (hp.inj _ _ hk (by lia) (by lia)) ec;refine Hq hp hk hS f ((l+r)/2+1) r s' (by lia) (by lia) hr (λi hi=>?_) h2 jj q;rcases Nat.lt_or_ge i ((l+r)/2)with z|z
   ·exact hL.tr _ (p.getD ((l+r)/2) 0) _ (hp.lt _ (by lia)) (hp.lt _ (by lia)) (hp.lt _ hk) (hS _ _ z hm) e2
   ·rw[show i=(l+r)/2 by lia];exact e2
omit hL hc in
theorem Oo{k l i:Nat}(hk:k<p.size)(hl:l<=k):(bubble p k (k-l)).getD i 0=if i=l then p.getD k 0 else if l<i/\i<=k then p.getD (i-1) 0 else p.getD i 0:=by
 rw[oK,getElem?_bubble hk (k-l) (by lia),show k-(k-l)=l by lia];by_cases h:i=l
 ·rw[ae h,ae h,oK]
 ·rw[af h,af h];by_cases h2:l<i/\i<=k
  ·rw[ae h2,ae h2,oK]
  ·rw[af h2,af h2,oK]
theorem Oq{Q:Array Nat->Shared->Prop}:∀(f:Nat)(p:Array Nat)(k:Nat)(s:Shared),iC n p->k+f=n->jR lt p k->I s->(∀p' s',I s'->iC n p'->jR lt p' n->Q p' s')->(kas_bin f p k).kasWp cmp Q s
 |0,p,k,s,hp,hk,hS,hI,q=>q p s hI hp (by rw[<- hk];exact hS)
 |f+1,p,k,s,hp,hk,hS,hI,q=>by
  unfold kas_bin;rw[KasT.kasWp_bind];have Ot:k<n:=by lia
  refine Hq hL hc hp Ot hS k 0 k s (by lia) (by lia) (cF _) (λi hi=>absurd hi (by lia)) (λi h1 h2=>absurd h1 (by lia)) hI λl s' jj hl h1 h2=>?_;have mn:k<p.size:=by rw[hp.sz];exact Ot
  refine Oq f (bubble p k (k-l)) (k+1) s' (hp.perm (bubble_perm _ _ _)) (by lia) (λi j mx hj=>?_) jj q;rw[Oo mn hl,Oo mn hl];by_cases e1:i=l
  ·rw[ae e1,af (by lia),ae ⟨by lia,by lia⟩];exact h2 (j-1) (by lia) (by lia)
  ·rw[af e1];by_cases e2:j=l
   ·rw[ae e2,af (by lia)];exact h1 i (by lia)
   ·rw[af e2];by_cases e3:l<i/\i<=k
    ·rw[ae e3,ae ⟨by lia,by lia⟩];exact hS (i-1) (j-1) (by lia) (by lia)
    ·rw[af e3];by_cases e4:l<j/\j<=k
     ·rw[ae e4];rcases Nat.lt_or_ge i (j-1)with z|z
      ·exact hS i (j-1) z (by lia)
      ·exact absurd z (by lia)
     ·rw[af e4];exact hS i j mx (by lia)
theorem Y9{Q:Array Nat->Shared->Prop}(hn:2<=n)(hI:I s)(q:∀p s',I s'->iC n p->jR lt p n->Q p s'):(kas_sort n).kasWp cmp Q s:=by
 unfold kas_sort;rw[KasT.kasWp_bind];refine Y4 hL hc hn (.of (by simp)) hI λk p' s' jj hp h1 h2 h3=>?_;by_cases e:k<n
 ·rw[ae e];refine Oq hL hc _ _ _ s' hp (by lia) ?_ jj q;rw[show max k 1=k by lia];exact h3
 ·rw[af e]
  have:k=n:=by lia
  subst this;exact q p' s' jj hp h3
end
end L2
namespace PySem
open Sem (wp)
section
variable{prog:Program}{w:World}{A:Around}{E:QV}{s:Shared}
end
section
variable{prog:Program}{w:World}{A:Around}{E:QV}{s:Shared}
end
end PySem
namespace L2
open PySem PySem.Spec PyProof.Rows PySem.W
section
variable{X:Cx}
end
end L2
namespace PySem
open Sem (wp)
section
variable{prog:Program}{w:World}{A:Around}{E:QV}{s:Shared}
variable{κ:Type} [DecidableEq κ] {knd:KeyKind prog w κ}
end
end PySem
namespace PyProof.Rows
open PySem
section
variable{prog:Program}{w:World}{A:Around}{E:QV}{s:Shared}
variable{κ:Type} [DecidableEq κ] {knd:PySem.KeyKind prog w κ}
end
end PyProof.Rows
namespace L2
open PySem PySem.Spec PyProof.Rows PySem.W
section
variable{X:Cx}
theorem Paired.of_get:∀{xs:List V}{us:List Value},xs.length=us.length->(∀(i:Nat)(x:V)(u:Value),xs[i]?=some x->us[i]?=some u->RelV x u)->Vals xs us
 | [],[],_,_=>.nil
 |x::xs,u::us,hl,h=>.cons (h 0 x u rfl rfl) (Paired.of_get (by simpa using hl) λi y v e1 e2=>h (i+1) y v e1 e2)
theorem Hr:bootBuiltins "sorted"=some (.builtin "sorted"):=by decide +kernel
end
end L2
namespace PyProof.Rows
open PySem PySem.W L2
section
variable{prog:Program}{w:World}{A:Around}{E:QV}{s:Shared}
theorem Za{a:Addr}{vs:List Value}{n:Nat}{P:PySem.Fin->Shared->Prop}{lt:Nat->Nat->Bool}{κ:SortKind}(ho:s.heap.get? a=some (seqObj "list" vs.toArray n))(kI:vs.length<64)(hL:BN vs.length lt)
  (hk:2<=vs.length->∀(h':Heap)(Q:SortKind->Shared->Prop),(∀b o,b≠a->s.heap.get? b=some o->h'.get? b=some o)->Q κ { s with heap:=h' }->wpAny (model prog w) A (keyKind' vs.toArray) Q (λ_ _=>False) { s with heap:=h' })
  (hc:∀h':Heap,(∀b o,b≠a->s.heap.get? b=some o->h'.get? b=some o)->Hm vs.length lt (kas_ask prog w A κ vs) (· = { s with heap:=h' }))
  (q:∀(p:Array Nat)(h':Heap)(e:Nat),iC vs.length p->jR lt p vs.length->(∀b o,b≠a->s.heap.get? b=some o->h'.get? b=some o)->h'.get? a=some (seqObj "list" (List.toArray (p.toList.map λi=>vs.getD i Value.none)) e)->P (.done (.ret .none)) { s with heap:=h' }) :
  wpAny (model prog w) A (Builtin.«list.sort» ⟨[.ref a],[]⟩) P E s:=by
 have ha:a<s.heap.objs.size:=dH ho;rw[list_sort_plain];refine ak (listItems_at ho rfl ?_);refine ak (listUpdate_at ho rfl ?_ (by rw[dR,av];lia) (gH _));obtain⟨e1,Ou⟩:∃e1,(s.heap.update a (Obj.mapSeq λ_=>(#[]:Array Value))).get? a=some (seqObj "list" #[] e1):=⟨_,get?_update_seq ho λ_=>#[]⟩;refine ak (seqEpoch_at Ou rfl ?_);refine ak (wpAny_newTuple ?_ (by show vs.length<=_;rw[av];lia));refine ak (wpAny_newList ?_ (gH _));refine ao ?_;have vI:(((s.heap.update a (Obj.mapSeq λ_=>(#[]:Array Value))).push (seqObj "tuple" vs.toArray 0)).push (seqObj "list" #[] 0)).get? a=some (seqObj "list" #[] e1):=dJ _ (dJ _ Ou);have old:∀b o,b≠a->s.heap.get? b=some o->(((s.heap.update a (Obj.mapSeq λ_=>(#[]:Array Value))).push (seqObj "tuple" vs.toArray 0)).push (seqObj "list" #[] 0)).get? b=some o:=λb o hb e=>
  dJ _ (dJ _ ((nL _ _ (fe hb)).trans e))
 show wpAny (model prog w) A _ P E { s with heap:=((s.heap.update a (Obj.mapSeq λ_=>(#[]:Array Value))).push (seqObj "tuple" vs.toArray 0)).push (seqObj "list" #[] 0) };generalize ((s.heap.update a (Obj.mapSeq λ_=>(#[]:Array Value))).push (seqObj "tuple" vs.toArray 0)).push (seqObj "list" #[] 0)=h1 at vI old |-;dsimp only;have upd:∀(oh:List Value),∃e,(h1.update a (Obj.mapSeq λ_=>List.toArray oh)).get? a=some (seqObj "list" (List.toArray oh) e):=λoh=>⟨_,get?_update_seq vI λ_=>List.toArray oh⟩;have Ov:∀(oh:List Value) b o,b≠a->s.heap.get? b=some o->(h1.update a (Obj.mapSeq λ_=>List.toArray oh)).get? b=some o:=λoh b o hb e=>(nL _ _ (fe hb)).trans (old b o hb e);by_cases hs:vs.toArray.size<2
 ·rw[ae hs,ae hs];refine ak (au ?_);rw[StateT.run_pure];refine ak (au ?_);dsimp only;have hl:vs.length<2:=by simpa using hs
  have eo:Array.map (·.2) (vs.toArray.zip vs.toArray)=List.toArray ((List.toArray (List.range vs.length)).toList.map λi=>vs.getD i Value.none):=by
   match vs,hl with
   | [],_=>simp
   | [v],_=>simp[wI]
  refine ak (seqEpoch_at vI rfl ?_);refine ak (listUpdate_at vI rfl ?_ (gH _) (by rw[Array.size_map,Array.size_zip,dR,Nat.min_self,av];lia));simp only[bne_self_eq_false,zD,if_false];refine au ?_;show P (.done (.ret .none)) { s with heap:=h1.update a (Obj.mapSeq λ_=>Array.map (·.2) (vs.toArray.zip vs.toArray)) };rw[eo];obtain⟨e,he⟩:=upd ((List.toArray (List.range vs.length)).toList.map λi=>vs.getD i Value.none);exact q _ _ e (.of (by simp)) (λi j mx hj=>absurd mx (by lia)) (Ov _) he
 ·rw[af hs,af hs];have tL:¬vs.length<2:=by simpa using hs
  have hl:2<=vs.length:=by lia
  refine ak (ag (hk hl h1 (λκ' s0=>κ'=κ/\s0={ s with heap:=h1 }) old ⟨rfl,rfl⟩) (λκ' s0 iT=>?_) λ_ _ x=>x.elim);obtain⟨rfl,rfl⟩:=iT;have tree:(kas_sort vs.length).kasWp (kas_ask prog w A κ' vs) (λp s'=>s'={ s with heap:=h1 }/\iC vs.length p/\jR lt p vs.length) { s with heap:=h1 }:=
   Y9 hL (hc h1 old) hl rfl λp s' hI hp hS=>⟨hI,hp,hS⟩
  refine ak (ag (kat_run (Q:=λiI s'=>∃p:Array Nat,p.size=vs.length/\arrOf iI=p.map (kas_item (vs.toArray.zip vs.toArray))/\failedOf iI=none/\s'={ s with heap:=h1 }/\iC vs.length p/\jR lt p vs.length)
   rfl hl kI (λp' iI s' a1 a2 a3 a4=>⟨p',a1,a2,a3,a4⟩) tree) ?_ λ_ _ e=>e)
  rintro⟨⟨⟩,iI⟩ s' ⟨p,hp,Zb,hf,rfl,hP,hS⟩;dsimp only;have Zc:=kat_snds rfl Zb;have hsz:(List.toArray (p.toList.map λi=>vs.getD i Value.none)).size=vs.length:=by rw[dR,cB,pK,hp]
  rw[Zc];refine ak (seqEpoch_at vI rfl ?_);refine ak (listUpdate_at vI rfl ?_ (gH _) (dj (Nat.le_of_eq hsz) (by rw[av];lia)));rw[hf];simp only[bne_self_eq_false,zD,if_false];obtain⟨e,he⟩:=upd (p.toList.map λi=>vs.getD i Value.none);exact au (q p _ e hP hS (Ov _) he)
theorem Zd{x:Value}{vs:List Value}{Q:QV}{lt:Nat->Nat->Bool}{κ:SortKind}(kI:vs.length<64)(hL:BN vs.length lt)
  (Hs:∀Q':List Value->Shared->Prop,(∀(h0:Heap)(tk:Nat),(∀b o,s.heap.get? b=some o->h0.get? b=some o)->s.heap.objs.size<=h0.objs.size->Q' vs { s with heap:=h0,toks:=tk })->wpAny (model prog w) A.in1 (collect x) Q' E s)
  (hk:2<=vs.length->∀(h':Heap)(tk:Nat)(Q:SortKind->Shared->Prop),(∀b o,s.heap.get? b=some o->h'.get? b=some o)->Q κ { s with heap:=h',toks:=tk }->wpAny (model prog w) A.in1.in1 (keyKind' vs.toArray) Q (λ_ _=>False) { s with heap:=h',toks:=tk })
  (hc:∀(h':Heap)(tk:Nat),(∀b o,s.heap.get? b=some o->h'.get? b=some o)->Hm vs.length lt (kas_ask prog w A.in1.in1 κ vs) (· = { s with heap:=h',toks:=tk }))
  (q:∀(p:Array Nat)(h':Heap)(tk e:Nat)(D:Addr),iC vs.length p->jR lt p vs.length->s.heap.objs.size<=D->(∀b o,s.heap.get? b=some o->h'.get? b=some o)->h'.get? D=some (seqObj "list" (List.toArray (p.toList.map λi=>vs.getD i Value.none)) e)->Q (.ref D) { s with heap:=h',toks:=tk }) :
  wpAny (model prog w) A (call (.builtin "sorted") [x]) Q E s:=by
 refine Calls.call_function_entry kind_sorted plain_sorted entry_sorted (args_sorted1 _) ?_;unfold Builtin.«sorted»;refine ak (m:=checkCount "sorted" 1 1 _) (au ?_);refine ak (Hs _ λh0 tk k0 z0=>?_);refine ak (wpAny_newList ?_ (by rw[av];lia));have uE:(h0.push (seqObj "list" vs.toArray 0)).get? h0.objs.size=some (seqObj "list" vs.toArray 0):=gT _ rfl;have keep:∀b o,s.heap.get? b=some o->(h0.push (seqObj "list" vs.toArray 0)).get? b=some o:=λb o q=>dJ _ (k0 b o q);show wpAny _ _ _ _ _ { s with heap:=h0.push (seqObj "list" vs.toArray 0),toks:=tk };have ne:∀b o,s.heap.get? b=some o->b≠h0.objs.size:=λb o e=>fK (dH (k0 b o e));generalize h0.push (seqObj "list" vs.toArray 0)=h1 at uE keep |-;refine ak (ao (aE slot_list_sort ⟨_,uE,rfl⟩ entry_list_sort ?body (args_list_sort _)))
 case body=>
  refine Za (s:={ s with heap:=h1,toks:=tk }) uE kI hL (λh2 h' Q' k hq=>hk h2 h' tk Q' (λb o e=>k b o (ne b o e) (keep b o e)) hq) (λh' k=>hc h' tk λb o e=>k b o (ne b o e) (keep b o e)) λp h' e hp hS k he=>⟨_,rfl,?_⟩;exact au ⟨_,rfl,q p h' tk e _ hp hS z0 (λb o eb=>k b o (ne b o eb) (keep b o eb)) he⟩
end
end PyProof.Rows
namespace L2
open PySem PySem.Spec PyProof.Rows PySem.W
variable{a b:KP}{ks:List KP}
theorem eP.cons{K:Frag}{H:Hp}{zs:List V}{bf:List (Key×V)}{t:Addr}{kv:Key×V}(g:cg K H t [kV kv.1,kv.2])(h:eP K H zs bf):eP K H (.ref t::zs) (kv::bf):=
 ⟨by rw[fj,fj,h.1],λi x q e1 e2=>by
  cases i with
  |zero=>cases e1;cases e2;exact⟨t,rfl,g⟩
  |succ i=>exact h.2 i x q e1 e2⟩
section
variable{X:Cx}{bc:List (Addr×Obj)}{σ:St}{s:Shared}
end
abbrev KP:=Int×Str
noncomputable def iD(a b:KP):Bool:=decide (a.1<b.1)||(decide (a.1=b.1)&&decide (a.2.cps.toList<b.2.cps.toList))
noncomputable def hZ(k:KP):Key×V:=(.inl k.1,.str k.2)
theorem Ze{x y:Str}(h:x.cps.toList=y.cps.toList):x=y:=by
 cases x;cases y;simpa using h
theorem BO:iD a b=true↔a.1<b.1\/(a.1=b.1/\a.2.cps.toList<b.2.cps.toList):=by
 unfold iD;rw[Bool.or_eq_true,dq,aI,aI,aI]
theorem Ow{c:KP}(h1:iD a b=true)(h2:iD b c=true):iD a c=true:=by
 rw[BO]at *;rcases h1 with h1|⟨h1,g1⟩
 ·rcases h2 with h2|⟨h2,g2⟩
  ·exact .inl (by lia)
  ·exact .inl (by lia)
 ·rcases h2 with h2|⟨h2,g2⟩
  ·exact .inl (by lia)
  ·exact .inr ⟨by lia,List.lt_trans g1 g2⟩
theorem Zf(dX:a≠b)(h:iD a b=false):iD b a=true:=by
 have h':¬(a.1<b.1\/(a.1=b.1/\a.2.cps.toList<b.2.cps.toList)):=λz=>by rw[BO.mpr z]at h;cases h
 rw[BO];rcases Int.lt_trichotomy a.1 b.1 with z|z|z
 ·exact absurd (.inl z) h'
 ·refine .inr ⟨z.symm,?_⟩;have g:¬a.2.cps.toList<b.2.cps.toList:=λy=>h' (.inr ⟨z,y⟩);rcases(List.le_iff_lt_or_eq.mp (List.not_lt.mp g))with y|y
  ·exact y
  ·exact absurd (Prod.ext z (Ze y.symm)) dX
 ·exact .inl z
theorem Ht(a:KP):iD a a=false:=by
 cases h:iD a a with
 |false=>rfl
 |true=>
  rcases BO.mp h with z|⟨_,z⟩
  ·exact absurd z (Int.lt_irrefl _)
  ·exact absurd z (List.lt_irrefl _)
noncomputable def BP(ks:List KP)(i j:Nat):Bool:=iD (ks.getD i (0,"")) (ks.getD j (0,""))
theorem Zg(nd:ks.Nodup){i j:Nat}(hi:i<ks.length)(hj:j<ks.length)(h:i≠j):ks.getD i (0,"")≠ks.getD j (0,""):=by
 rw[Kd,Kd,gk hi,gk hj,Option.getD_some,Option.getD_some];have pw:=List.pairwise_iff_getElem.mp nd;rcases Nat.lt_or_gt_of_ne h with z|z
 ·exact pw i j hi hj z
 ·exact(pw j i hj hi z).symm
theorem Zh(nd:ks.Nodup):BN ks.length (BP ks):=⟨λ_ _ _ _ _ _ h1 h2=>Ow h1 h2,λi j hi hj dX h=>Zf (Zg nd hi hj dX) h⟩
section
variable{prog:Program}{w:World}{A:Around}{E:QV}{s:Shared}
def tM(h:Heap)(v:Value)(k:KP):Prop:=∃a t u,v=.ref a/\IsTup h a #[.int k.1 t,.str k.2 u]
theorem Zi{x y:Value}{Q:Bool->Shared->Prop}(hx:tM s.heap x a)(hy:tM s.heap y b)(q:Q (iD a b) s):wpAny (model prog w) A (keyLt' (tuples' true) x y) Q E s:=by
 obtain⟨ax,t1,u1,rfl,ox,gx,_,nx,dx⟩:=hx;obtain⟨ay,t2,u2,rfl,oy,gy,_,ny,dy⟩:=hy;refine kat_lt gx dx gy dy ?_;show KatLex prog w A true _ Q [(Value.int a.1 t1,Value.int b.1 t2),(Value.str a.2 u1,Value.str b.2 u2)] 0 s;refine kat_cons (wpAny_eqBool_int ?_);by_cases e:a.1=b.1
 ·rw[show(a.1==b.1)=true from beq_iff_eq.mpr e]
  refine kat_yes (kat_cons (wpAny_eqBool_str ?_));have k0:iD a b=decide (a.2.cps.toList<b.2.cps.toList):=by
   unfold iD;rw[aa (show ¬a.1<b.1 by lia),aG e,Bool.false_or,Bool.true_and]
  by_cases e2:a.2=b.2
  ·rw[aG e2];refine kat_yes (kat_nil ?_)
   have:iD a b=false:=by rw[k0,e2];exact aa (List.lt_irrefl _)
   rw[this]at q;exact q
  ·rw[aa e2];refine kat_no (kat_one _ _ (lt_str ?_));rw[k0]at q;exact q
 ·rw[show(a.1==b.1)=false from beq_eq_false_iff_ne.mpr e]
  refine kat_no (oneLt_int ?_);have k0:iD a b=decide (a.1<b.1):=by
   unfold iD;rw[aa e,Bool.false_and,Bool.or_false]
  rw[k0]at q;exact q
theorem Ox{h:Heap}:∀(vs:List Value)(ks:List KP),vs.length=ks.length->(∀(i:Nat) v k,vs[i]?=some v->ks[i]?=some k->tM h v k)->∃fs,fs.length=vs.length/\KatTups h vs fs/\∀f∈fs,∃n t,f=Value.int n t
 | [],[],_,_=>⟨[],rfl,trivial,λf h=>by cases h⟩
 | [],_::_,h,_=>nomatch h
 |_::_,[],h,_=>nomatch h
 |v::vs,k::ks,hl,h=>by
  obtain⟨fs,h1,h2,h3⟩:=Ox vs ks (Nat.succ.inj hl) λi v k e1 e2=>h (i+1) v k e1 e2;obtain⟨a,t,u,rfl,o,g,c,n,d⟩:=h 0 v k rfl rfl;refine⟨.int k.1 t::fs,by rw[fj,fj,h1],KatTups.cons g c d rfl h2,λf hf=>?_⟩;rcases(dI.mp hf)with(rfl|hf)
  ·exact⟨_,_,rfl⟩
  ·exact h3 f hf
theorem Zj{vs:List Value}{Q:SortKind->Shared->Prop}(hl:vs.length=ks.length)(h:∀(i:Nat) v k,vs[i]?=some v->ks[i]?=some k->tM s.heap v k)(h0:0<vs.length)(q:Q (tuples' true) s):wpAny (model prog w) A (keyKind' vs.toArray) Q E s:=by
 obtain⟨fs,h1,h2,h3⟩:=Ox vs ks hl h;refine kat_kind (T:=.type "int") h2 (by lia) (λv hv=>?_) (by decide) q;obtain⟨n,t,rfl⟩:=h3 v hv;exact .now
end
def Zk(K:Frag):List V->Hp->VK->Prop:=λvs H Q=>∃(l:Addr)(zs:List V)(ks:List KP),vs=[.ref l]/\H l=some (.lst zs)/\eP K H zs (ks.map hZ)/\ks.Nodup/\ks.length<64/\∀(l':Addr)(lR:List V)(iY:List KP),H l'=none->eP K H lR (iY.map hZ)->iY.Perm ks->iY.Pairwise (λa b=>iD a b=true)->Q (.ref l') (upd H l' (.lst lR))
section
variable{X:Cx}
theorem Zl{p:Array Nat}(hp:iC ks.length p):(p.toList.map λi=>ks.getD i (0,"")).Perm ks:=by
 have h:=hp.pm.map λi=>ks.getD i (0,"");refine h.trans ?_;rw[show(List.range ks.length).map (λi=>ks.getD i (0,""))=ks from ?_]
 refine List.ext_getElem? λi=>?_;rw[fw];by_cases hi:i<ks.length
 ·rw[List.getElem?_range hi,gk hi];simp[hi]
 ·rw[zF (by simpa using by lia),zF (by lia)];rfl
theorem Oy{bc:List (Addr×Obj)}{s:Shared}{σ:St}{H:Hp}{x:Value}{zs:List V}{its:List Value}{Q:QV}{E:QV}(I:Inv X bc σ H s)(rv:Vals zs its)(hP:eP X.K H zs (ks.map hZ))(nd:ks.Nodup)(kI:ks.length<64)
  (Hs:∀Q':List Value->Shared->Prop,(∀(h0:Heap)(tk:Nat),(∀b o,s.heap.get? b=some o->h0.get? b=some o)->s.heap.objs.size<=h0.objs.size->Q' its { s with heap:=h0,toks:=tk })->wpAny (model X.prog X.w) X.A.in1 (collect x) Q' E s)
  (q:∀(D:Addr)(s':Shared)(lR:List V)(iY:List KP),H D=none->Inv X bc σ (upd H D (.lst lR)) s'->eP X.K H lR (iY.map hZ)->iY.Perm ks->iY.Pairwise (λa b=>iD a b=true)->Q (.ref D) s'):wpAny (model X.prog X.w) X.A (call (.builtin "sorted") [x]) Q E s:=by
 have Oz:zs.length=ks.length:=by rw[hP.1,cB]
 have Hu:its.length=ks.length:=by rw[<- rv.length];exact Oz
 have kp:∀(i:Nat) v k,its[i]?=some v->ks[i]?=some k->tM s.heap v k:=λi v k e1 e2=>by
  obtain⟨x,ex⟩:∃x,zs[i]?=some x:=⟨_,gk (by rw[Oz];exact(fO.mp e2).1)⟩;obtain⟨t,et,ht⟩:=hP.2 i x (hZ k) ex (by rw[fw,e2];rfl);obtain⟨v',ev,OA⟩:=rv.get ex;rw[e1]at ev;cases ev;rw[et]at OA;have Zm:v=Value.ref t:=OA;subst Zm;obtain⟨ts,rt,pt,_⟩:=I.tuple ht;obtain⟨u1,u2,rfl,r1,r2⟩:=Vals.two rt;obtain⟨t1,e1⟩:∃t1,u1=Value.int k.1 t1:=r1;obtain⟨t2,e2⟩:∃t2,u2=Value.str k.2 t2:=r2;rw[e1,e2]at pt;exact⟨t,t1,t2,rfl,pt⟩
 have up:∀{h':Heap}{v:Value}{k:KP},(∀b o,s.heap.get? b=some o->h'.get? b=some o)->tM s.heap v k->tM h' v k:=λk ⟨a,t,u,e,o,g,r⟩=>⟨a,t,u,e,o,k _ _ g,r⟩;have at':∀i,i<its.length->∃v k,its[i]?=some v/\ks[i]?=some k/\its.getD i Value.none=v/\ks.getD i (0,"")=k:=λi hi=>⟨its[i],ks[i]'(by lia),gk hi,gk (by lia),by simp[hi],by simp[show i<ks.length by lia]⟩;refine Zd (lt:=BP ks) (κ:=tuples' true) (by lia) (by rw[Hu];exact Zh nd) Hs (λh2 h' tk Q' k hq=>Zj (s:={ s with heap:=h',toks:=tk }) Hu (λi v kk e1 e2=>up k (kp i v kk e1 e2)) (by lia) hq)
  (λh' tk k i j C s' hi hj dX hs hC=>?_) λp h' tk e D hp hS hD k hd=>?_
 ·obtain⟨v1,k1,a1,a2,a3,a4⟩:=at' i hi;obtain⟨v2,k2,b1,b2,b3,b4⟩:=at' j hj;subst hs;unfold kas_ask;rw[a3,b3];refine Zi (s:={ s with heap:=h',toks:=tk }) (up k (kp i v1 k1 a1 a2)) (up k (kp j v2 k2 b1 b2)) ?_
  have:=hC _ rfl
  unfold BP at this;rw[a4,b4]at this;exact this
 ·rw[Hu]at hp hS;have I1:Inv X bc σ H { s with heap:=h',toks:=tk }:=I.kept k;have fp:je X bc H D:=I.l8 hD (I.bZ.fresh hD);have ik:p.toList.length=ks.length:=by rw[pK,hp.sz]
  have zl:∀i,i<ks.length->∃x,zs[i]?=some x/\zs.getD i .cC=x:=λi hi=>⟨zs[i]'(by lia),gk (by lia),by simp[show i<zs.length by lia]⟩;have hv:Vals (p.toList.map λi=>zs.getD i .cC) (p.toList.map λi=>its.getD i Value.none):=by
   refine Paired.of_get (by rw[cB,cB]) λi x u e1 e2=>?_;rw[fw]at e1 e2;obtain⟨m,em,rfl⟩:=lj.mp e1;rw[em]at e2;cases e2;have hm:m<ks.length:=by
    have:=qq.mp (hp.pm.mem_iff.mp (iO em))
    exact this
   obtain⟨y,ey,Hv⟩:=zl m hm;obtain⟨u,eu,ru⟩:=rv.get ey;have Zn:its.getD m Value.none=u:=by rw[Kd,eu];rfl
   show RelV (zs.getD m .cC) (its.getD m Value.none);rw[Hv,Zn];exact ru
  have I2:=I1.xx (o:=.lst (p.toList.map λi=>zs.getD i .cC)) fp ⟨by rw[cB,ik];exact dj (Nat.le_of_lt kI) (by decide),_,e,hv,hd⟩;refine q D _ _ (p.toList.map λi=>ks.getD i (0,"")) fp.1 I2 ⟨by rw[cB,cB,cB],λi x kv e1 e2=>?_⟩ (Zl hp) ?_
  ·rw[fw]at e1;rw[fw,fw]at e2;obtain⟨m,em,rfl⟩:=lj.mp e1;rw[em]at e2;cases e2;have hm:m<ks.length:=qq.mp (hp.pm.mem_iff.mp (iO em));obtain⟨y,ey,Hv⟩:=zl m hm;rw[Hv];obtain⟨t,et,ht⟩:=hP.2 m y (hZ (ks.getD m (0,""))) ey (by rw[fw];simp[hm]);exact⟨t,et,ht⟩
  ·rw[List.pairwise_map,List.pairwise_iff_getElem];intro i j hi hj mx
   have:=hS i j mx (by lia)
   unfold BP at this;have gi:p.getD i 0=p.toList[i]:=by rw[oK,pM (by rw[hp.sz];lia)];simp
   have gj:p.getD j 0=p.toList[j]:=by rw[oK,pM (by rw[hp.sz];lia)];simp
   rw[gi,gj]at this;exact this
theorem Zo(K:Frag)(hK:X.K=K):eW X (.builtin "sorted") (Zk K):=by
 subst hK;intro bc s σ H vs us Q I r h;obtain⟨l,zs,ks,rfl,g,hP,nd,kI,q⟩:=h;obtain⟨u,rfl,ru⟩:=vals1 r;cases ru;obtain⟨its,rv,pl,hz⟩:=I.list (.of g);have hl:its.length<=sizeLine:=by rw[<- rv.length];exact hz
 refine Oy I rv hP nd kI (λQ' k=>collect_list pl.isList (k _ s.toks (λb o e=>?_) ?_) hl) λD s' lR iY hD I' Hw pm pw=>⟨.ref D,_,I',rfl,q D lR iY hD Hw pm pw⟩
 ·have cY:b<s.heap.objs.size:=dH e;rw[Heap.get?_update_ne _ _ _ _ (fK cY),Heap.get?_push_ne _ _ _ (fK cY)];exact e
 ·rw[Heap.size_update,size_push'];exact Nat.le_succ _
end
end L2
namespace S21
open PySem L2 Bw
theorem yG{ws:List V}:∀{j:Nat},j<=ws.length->∀{i:Nat},i∈g7 ws j->i<ws.length/\∃x,ws[i]?=some (.str x)
 |0,_,i,h=>by cases h
 |j+1,hj,i,h=>by
  rw[Bq]at h;by_cases e:tf ws[ws.length-(j+1)]?=true
  ·rw[ae e]at h;rcases(iG.mp h)with(z|z)
   ·exact yG (by lia) z
   ·rw[dP.mp z];refine⟨by lia,?_⟩;cases e2:ws[ws.length-(j+1)]? with
    |none=>rw[e2]at e;cases e
    |some v=>
     rw[e2]at e;cases v with
     |str x=>exact⟨x,rfl⟩
     |_=>cases e
  ·rw[af e]at h;exact yG (by lia) h
theorem Hy{d:Dw}{i:Nat}{x:Str}(h:d.bb[i]?=some (.str x)):∃d' r,cD [.bu d] i=.bu d'::r:=by
 have ew:([It2.bu d]).flatMap It2.bb=d.bb:=by simp[It2.bb]
 obtain⟨t,r,e1,e2,_⟩:=n9 (ts:=[.bu d]) (i:=i) (by rw[ew];exact(fO.mp h).1);rw[ew,h]at e2;cases t with
 |num n=>cases e2
 |bu d'=>exact⟨d',r,e1⟩
structure OB(p:Int)(d:Dw)(names:List Str)(fits:Nat->Str->Bool):Prop where
 is:∀(i:Nat)(d':Dw)(r:List It2)(x:Str),cD [.bu d] i=.bu d'::r->x∈names->∃cM res,iX x=some cM/\kH p x (cD [.bu d] i) cM res/\res.isSome=fits i x
noncomputable def jk(names:List Str)(fits:Nat->Str->Bool)(i:Nat):List KP:=(names.filter (fits i)).map λx=>((i:Int),x)
noncomputable def oj(d:Dw)(names:List Str)(fits:Nat->Str->Bool):List KP:=(g7 d.bb d.bb.length).flatMap (jk names fits)
theorem OC{K:Frag}{H:Hp}{a t:Addr}{xs:List V}{o:Obj}{bf:List (Key×V)}{u:HO}(g:H a=some (.dM o (.dK bf)))(h:cg K H t xs):cg K (upd H a u) t xs:=by
 rcases h with(h|⟨o',h⟩)|h
 ·exact .inl (.inl (by rw[cH (λz=>by rw[z,g]at h;cases h)];exact h))
 ·exact .inl (.inr ⟨o',by rw[cH (λz=>by rw[z,g]at h;cases h)];exact h⟩)
 ·exact .inr h
theorem Zp{K:Frag}{H:Hp}{zs ys:List V}{bf ya:List (Key×V)}(h:eP K H zs bf)(k:eP K H ys ya):eP K H (zs++ys) (bf++ya):=by
 refine⟨by rw[cL,cL,h.1,k.1],λi x q e1 e2=>?_⟩;by_cases hi:i<zs.length
 ·rw[lg hi]at e1;rw[lg (by rw[<- h.1];exact hi)]at e2;exact h.2 i x q e1 e2
 ·rw[kZ (by lia)]at e1;rw[kZ (by rw[<- h.1];lia),<- h.1]at e2;exact k.2 _ x q e1 e2
theorem OD(a b:List KP):(a++b).map hZ=a.map hZ++b.map hZ:=ig
noncomputable abbrev Zq:List Str:=["p","words","behind","told","at"]
theorem BQ:dD ["p","words","behind","told","at"] ["p","words"] (cN AL):=dU rfl rfl rfl (by decide +kernel) rfl
theorem Zr:(["rule","at","behind","words"]:List Str).Nodup:=by decide +kernel
def OE(K:Frag)(names:List Str):Sp:=λvs H Q _=>∃(p:Int)(aw:Addr)(d:Dw)(fits:Nat->Str->Bool),vs=[.int p,.ref aw]/\d.ok p/\p<=97/\d.bb.length<=200/\cg K H aw d.bb/\OB p d names fits/\(oj d names fits).Nodup/\(oj d names fits).length<64/\
 ∀(l:Addr)(zs:List V)(ks:List KP)(H':Hp),H l=none->bh H H'->H' l=some (.lst zs)->eP K H' zs (ks.map hZ)->ks.Perm (oj d names fits)->ks.Pairwise (λa b=>iD a b=true)->Q (.ref l) H'
set_option maxRecDepth 100000 in
theorem Zs{aR f fE fF:Addr}{fd qV lO:FuncData}{names:List Str}(F:c9 K "moves" "moves" AL f fd)(RT:yC K mg aR (gQ K aR) iX)(oR:pd K aR=true)(hN:(gQ K aR).map Prod.fst=names)(HH:names.length<=100)(hS:mg "sorted"=none)
  (GE:ck P w K mg base cA 3 fE qV ["words"] (GY K)) (kE:Kp K fE) (bE:Binds K qV ["words"] []) (mE:Mg mg "ends" fE)
  (GF:ck P w K mg base cA 8 fF lO ["words","behind","at","rule"] (yD K iX)) (kF:Kp K fF) (bF:Binds K lO ["words","behind","at","rule"] []) (mF:Mg mg "fitting" fF):ck P w K mg base cA 9 f fd ["p","words"] (OE K names):=by
 refine F.ok BQ (λvs H Q E h=>?_) (λcI A outer s H vs Q E hr h=>?_)
 ·obtain⟨p,aw,d,fits,rfl,_⟩:=h;rfl
 ·obtain⟨p,aw,d,fits,rfl,hd,cf,g9,hw,hF,nd,kI,q⟩:=h;have z:(10000:Nat)<=sizeLine:=by decide
  have r3:dS 3 _:=hr.mono (by lia);refine⟨_,bD (cx (i:=2) BQ.nd rfl (Or.inr rfl) (cZ GE r3 rfl mE kE bE .nil cX (bg (pv 1) bq))) (bD (cx (i:=3) BQ.nd rfl (.inl rfl) (cK bq)) (bD (YX (lx lq rfl (N9 (pv 2)) (eL (i:=4) BQ.nd rfl (Or.inr rfl)) (bK (l7 (jv ll PySem.F.slot_list_extend PySem.F.type_list_extend Lk (pv 3) (bg (As (N:=["rule","at","behind","words"]) (own:=1) (caps:=[4,2,1]) rfl (YD oR (jX (v:=.ref _) rfl RT.nm rfl)) (show j0 Zq (cN AL) ["rule","at","behind","words"] 1 [4,2,1] _ from .mk' (by decide +kernel)) (λ_ _ _ _ _=>eL (i:=0) Zr rfl (.inl rfl)) (λ_ _ _ _ _=>En (cj uN (cZ GF hr rfl mF kF bF .nil cX (bg (pv 3) (bg (pv 2) (bg (pv 1) (bg (pv 0) bq))))) gW (cm _))) (λ_ _ _ _ _=>dh (bg (pv 1) (bg (pv 0) bq)))) bq)))))) (bK (cE (gu (Zo K rfl) rfl hS Hr (bg (pv 3) bq)))))),?_⟩
  refine⟨_,rfl,p,aw,d,rfl,hd,g9,hw,λbe kb H1 s1 gb hE=>?_⟩;dsimp only[bY];refine⟨by decide,λtl sZ=>?_⟩;have yy:be≠tl:=λe=>by rw[<- e,gb]at sZ;cases sZ
  have Zt:kb.length=(g7 d.bb d.bb.length).length:=by have:=ai List.length hE.keys;rwa[cB,cB]at this
  refine⟨be,kb,bh.upd sZ _ _ gb,_,rfl,be,_,rfl,bh.upd sZ _ _ gb,λo=>?_⟩;have nB:(upd H1 be (.dM o (.dK kb))) tl=none:=by rw[cH (fe yy)];exact sZ
  have OF:cg K (upd H1 be (.dM o (.dK kb))) aw d.bb:=(df.ET gb).cV (s1.cV hw);have gB:(upd H1 be (.dM o (.dK kb))) be=some (.dM o (.dK kb)):=bz;have start:bh (upd H1 be (.dM o (.dK kb))) (upd (upd H1 tl (.lst [])) be (.dM o (.dK kb))):=λb u e=>by
   by_cases hb:b=be
   ·subst hb;rw[bz]at e |-;exact e
   ·rw[cH hb]at e |-;exact bh.upd sZ _ _ e
  have back:∀H',bh (upd H1 be (.dM o (.dK kb))) H'->bh H (upd H' be (.dK kb)):=λH' sm b u e=>by
   have e1:=s1 _ _ e;by_cases hb:b=be
   ·subst hb;rw[bz];rw[gb]at e1;exact e1
   ·rw[cH hb];exact sm _ _ (by rw[cH hb];exact e1)
  generalize upd H1 be (.dM o (.dK kb))=B at nB OF gB start back |-;refine YZ (λi σ H'=>bh B H'/\∃s4 zs,σ=[some (.int p),some (.ref aw),some (.ref be),some (.ref tl),s4]/\H' tl=some (.lst zs)/\eP K H' zs ((((g7 d.bb d.bb.length).take i).flatMap (jk names fits)).map hZ))
   ⟨start,none,[],rfl,by rw[cH (fe yy)];exact bz,.nil⟩ (λi σ H' hP=>hP.1 _ _ gB) ?_ ?_
  ·rintro i kv σ H' hk ⟨sm,s4,zs,rfl,gt,hz⟩;obtain⟨n,hn,HI⟩:∃n,(g7 d.bb d.bb.length)[i]?=some n/\kv.1=Sum.inl (n:Int):=by
    have e1:(kb.map Prod.fst)[i]?=some kv.1:=by rw[fw,hk];rfl
    rw[hE.keys,fw]at e1;obtain⟨n,h1,h2⟩:=lj.mp e1;exact⟨n,h1,h2.symm⟩
   obtain⟨hnl,xw,yH⟩:=yG (cF _) (iO hn);obtain⟨d',r,eT⟩:=Hy yH;have ik:(g7 d.bb d.bb.length).length<=200:=dj (FY _ _) g9;rw[HI];dsimp only[bY];refine⟨_,rfl,.inl ⟨rfl,_,.of gt⟩,rfl,?_⟩;refine YE (cp:=[some (.int (n:Int)),some (.ref be),some (.ref aw)]) (λj H2 jN=>eP K H2 jN ((((names.take j).filter (fits n)).map λx=>((n:Int),x)).map hZ)) (by show(gQ K aR).length<=sizeLine;have:=ai List.length hN;rw[cB]at this;lia) .nil (λj H2 jN h=>by rw[h.1,cB,cB];exact dj (List.length_filter_le _ _) (List.length_take_le _ _)) ?_ ?_
   ·rintro j nz H2 jN Zu lH pv;have Zv:(gQ K aR)[j]?=some nz:=Zu;have hx:names[j]?=some nz.1:=by rw[<- hN,fw,Zv];rfl
    obtain⟨cM,res,hR,HJ,OG⟩:=hF.is n d' r nz.1 eT (iO hx);have OH:=sm.trans lH;have fin:∀(Q':VK),Fits K H2 Q' res->yD K iX [.ref aw,.ref be,.int (n:Int),.str nz.1] H2 Q' E0:=λQ' hq=>⟨p,aw,be,n,nz.1,d,d',r,kb,cM,res,rfl,hd,cf,g9,OH.cV OF,.inr ⟨o,OH _ _ gB⟩,hE,eT,hR,HJ,hq⟩;refine⟨_,rfl,_,rfl,_,rfl,_,rfl,fin _ ?_⟩;have et:(names.take (j+1)).filter (fits n)=(names.take j).filter (fits n)++[nz.1].filter (fits n):=by rw[rP,hx,List.filter_append];rfl
    cases res with
    |none=>
     intro H3 s3;have ef:fits n nz.1=false:=OG.symm;refine⟨rfl,_,rfl,kc (by simp) ⟨⟨[_],rfl,rfl⟩,lH.trans s3,?_⟩⟩;show eP K H3 jN _;rw[et,show([nz.1].filter (fits n))=[] by simp[ef],gU];exact pv.mono s3
    |some eb=>
     obtain⟨env,b⟩:=eb;intro t td bf H3 s3 _ _ _;have ef:fits n nz.1=true:=OG.symm;refine⟨rfl,_,rfl,ka (by simp) ⟨_,rfl,_,rfl,by show 2<=sizeLine;lia,λt2 mq=>⟨⟨[_],rfl,rfl⟩,(lH.trans s3).trans (.upd mq),?_⟩⟩⟩;show eP K _ (jN++[.ref t2]) _;rw[et,show([nz.1].filter (fits n))=[nz.1] by simp[ef],ig,OD];exact(pv.mono (s3.trans (.upd mq))).snoc (kv:=hZ ((n:Int),nz.1)) (.of bz)
   ·rintro H2 jN lH pv l2 ip;have eN:(gQ K aR).length=names.length:=by rw[<- hN,cB]
    have HK:eP K H2 jN ((jk names fits n).map hZ):=by
     have this:eP K H2 jN ((((names.take (gQ K aR).length).filter (fits n)).map λx=>((n:Int),x)).map hZ):=pv;rw[show names.take (gQ K aR).length=names by rw[eN,uo]]at this;exact this
    have s3:=lH.trans (bh.upd (o:=.lst jN) ip);have ez:zs.length<=64:=by
     rw[hz.1,cB];have h1:oj d names fits=((g7 d.bb d.bb.length).take i).flatMap (jk names fits)++((g7 d.bb d.bb.length).drop i).flatMap (jk names fits):=by
      rw[<- oJ,List.take_append_drop];rfl
     have h2:=ai List.length h1;rw[cL]at h2;lia
    have ez2:jN.length<=100:=by
     rw[HK.1,cB];unfold jk;rw[cB];exact dj (List.length_filter_le _ _) HH
    refine⟨tl,l2,zs,jN,rfl,rfl,s3 _ _ gt,bz,by lia,?_⟩;refine⟨(sm.trans s3).put nB,_,zs++jN,rfl,bz,?_⟩;rw[rP,hn,oJ,OD];have t3:=df.lst (o:=.lst (zs++jN)) (s3 _ _ gt);refine⟨?_,?_⟩
    ·rw[cL,cL,hz.1,HK.1];simp
    ·have all:=Zp (hz.mono s3) (HK.mono (bh.upd (o:=.lst jN) ip));intro k x Zw e1 e2;obtain⟨t,e,g⟩:=all.2 k x Zw e1 (by simpa using e2);exact⟨t,e,t3.cV g⟩
  ·rintro σ H' ⟨sm,s4,zs,rfl,gt,hz⟩;rw[Zt,uo]at hz;refine⟨⟨o,sm _ _ gB⟩,?_⟩;have Zx:(upd H' be (.dK kb)) tl=some (.lst zs):=by rw[cH (fe yy)];exact gt
   have HL:eP K (upd H' be (.dK kb)) zs ((oj d names fits).map hZ):=⟨hz.1,λi x kv e1 e2=>let ⟨t,e,g⟩:=hz.2 i x kv e1 e2;⟨t,e,OC (sm _ _ gB) g⟩⟩;refine⟨_,rfl,tl,zs,oj d names fits,rfl,Zx,HL,nd,kI,λl' lR iY tL Zy hp hs=>?_⟩;exact q l' lR iY _ (ph (back H' sm) tL) ((back H' sm).trans (.upd tL)) bz (Zy.mono (.upd tL)) hp hs
end S21
namespace L2
open PySem PySem.Spec PyProof.Rows
def my(e:Addr)(dx:Option Addr)(h:Heap):Prop:=∃o,h.get? e=some o/\o.dict=dx
theorem Zz{o:Obj}{vs:Array Value}(hd:o.data=.fields vs)(f:Array Value->Array Value):(Obj.mapFields f o).dict=o.dict:=by
 obtain⟨c,d,dt,sl⟩:=o;cases hd;rfl
section
variable{M:Model}{A:Around}{E:QV}{s:Shared}{base:Heap}{env:Env}{outer l:List Env}{L e:Addr}{oe:Obj}{vs:Array Value}{head a0 cls fl:Value}{ZA:Bool}{Q:Unit->Shared->Prop}{dx:Option Addr}
theorem OI(nR:A.frames=some (env::outer))(hl:s.heap.FunFrames base (env::outer))(hf:env.frame=some L)(he:s.heap.get? e=some oe)(HM:base.StaysIn s.heap)(BR:base.get? e=none)(hd:oe.data=.fields vs)(hsz:1<vs.size)
  (h0:vs[0]?=some a0) (h:∀h',Heap.NotedW base (env::outer) e oe.cls a0 (rawInt L) s.heap h'->my e oe.dict h'->Q () { s with heap:=h' }):wpAny M A (do let a <- frameOf env;let pl <- entryPlaceOf L ZA;let b <- EntryCells.newEntry head a .none (rawInt L) .none pl;setField (.ref e) 1 b) Q E s:=by
 have ZC:e ∉ (env::outer).filterMap (·.frame):=λz=>by
  obtain⟨_,o,q,nf⟩:=hl.mem z;rw[he]at q;cases q;exact nf vs hd
 refine ak (wpAny_frameOf_fun nR hl hf λh1 k1=>ak (wpAny_entryPlaceOf λpl ik=>?_));unfold EntryCells.newEntry newFields;generalize ho:([head,.ref L,.none,rawInt L,.none]++(if pl.isEmpty then List.replicate 6 Value.none else pl)).toArray=ar
 have ZD:ar[3]?=some (rawInt L):=by rw[<- ho];rfl
 have e1:h1.get? e=some oe:=(k1.2.1 e ZC).trans he;have b1:base.StaysIn h1:=λb o q=>(k1.2.1 b λz=>by rw[(hl.mem z).1]at q;cases q).trans (HM b o q);refine ak (aF ?_ (ho▸ik.sizeOk5 _ _ _ _ _));show wpAny M A (setField (Value.ref e) 1 (.ref h1.objs.size)) Q E { s with heap:=h1.push { cls:=.type "traceback",data:=.fields ar } };generalize hT:({ cls:=.type "traceback",data:=.fields ar }:Obj)=oT;have dT:oT.data=.fields ar:=by rw[<- hT]
 have e2:=dJ oT e1;refine aT e2 hd hsz ?_;have d3:=Obj.data_mapFields hd (·.setIfInBounds 1 (Value.ref h1.objs.size));have e3:=rN (Obj.mapFields (·.setIfInBounds 1 (Value.ref h1.objs.size))) e2 (Obj.isFreed_of_fields d3);have ne:h1.objs.size≠e:=Nat.ne_of_gt (dH e1);have t3:=(nL (h1.push oT) (Obj.mapFields (·.setIfInBounds 1 (Value.ref h1.objs.size))) ne.symm).trans (gT h1 (by rw[<- hT];rfl));have kp:∀b o,b≠e->h1.get? b=some o->((h1.push oT).update e (Obj.mapFields (·.setIfInBounds 1 (Value.ref h1.objs.size)))).get? b=some o:=λb o n q=>by
  rw[nL _ _ n.symm];exact dJ _ q
 have nr:∀b o,s.heap.get? b=some o->(∀ws,o.data≠.fields ws)->b≠e:=λb o q nf z=>by
  subst z;rw[he]at q;cases q;exact nf vs hd
 refine h _ ⟨λb o q=>kp b o (λz=>by rw[z,BR]at q;cases q) (b1 b o q),hl.of_keeps λb o q nf=>?_,?_,λb o q nf=>?_⟩ ⟨_,e3,Zz hd _⟩
 ·exact let ⟨_,z⟩:=k1.2.2 b o q;⟨_,kp b _ (nr b o q nf) z,rfl⟩
 ·exact⟨_,_,h1.objs.size,_,_,e3,⟨Obj.cls_mapFields _ _,by rw[Array.getElem?_setIfInBounds_ne (by decide)];exact h0⟩,d3,by simp[hsz],b1.fresh,ne,t3,dT,ZD⟩
 ·exact let ⟨sl,z⟩:=k1.2.2 b o q;⟨sl,kp b _ (nr b o q nf) z⟩
theorem ZE(nR:A.frames=some (env::outer))(hf:env.frame=some L)(fl:Heap.FlyingW base (env::outer) e cls a0 s.heap)(hx:my e dx s.heap)
  (h:∀h',Heap.HeldW base (env::outer) e cls a0 L h'->s.heap.UpToSlots h'->my e dx h'->Q () { s with heap:=h' }):wpAny M A (noteFrame (.ref e) env) Q E s:=by
 obtain⟨f1,f2,f3,oe,vs,T,oT,ts,he,⟨rfl,h0⟩,hd,h1,nT,ne,hT,dT,h3⟩:=fl;obtain⟨o2,q2,rfl⟩:=hx;rw[he]at q2;cases q2;unfold noteFrame;simp only[hf];refine ak (aB he hd h1 ?_);rw[ae (by simp:(Value.ref T != Value.none)=true)];refine ak (aB hT dT h3 ?_);rw[af (by simp[rawInt]:¬((Value.none==rawInt L)=true))];refine ak (aT hT dT (Dq.mp h3).1 ?_);have ot:∀b,b≠T->(s.heap.update T (Obj.mapFields (·.setIfInBounds 3 Value.none))).get? b=s.heap.get? b:=λb n=>nL _ _ n.symm;have nr:∀b o,s.heap.get? b=some o->(∀ws,o.data≠.fields ws)->b≠T:=λb o q nf z=>by
  subst z;rw[hT]at q;cases q;exact nf ts dT
 refine OI nR (f3.of_keeps λb o q nf=>⟨o,(ot b (nr b o q nf)).trans q,rfl⟩) hf ((ot e ne.symm).trans he) (λb o q=>(ot b λz=>by rw[z,nT]at q;cases q).trans (f1 b o q)) f2 hd (Dq.mp h1).1 h0
  λh' ⟨x1,x2,x3,x4⟩ dd=>h h' ⟨x1,f2,x2,x3⟩ (λb o q nf=>x4 b o ((ot b (nr b o q nf)).trans q) nf) dd
theorem OJ(f1:base.StaysIn s.heap)(f2:base.get? e=none)(f3:s.heap.FunFrames base l)(tr:s.heap.TracedAtW base e cls a0 fl)(hx:my e dx s.heap)(h:∀h',Heap.FlyingW base l e cls a0 h'->s.heap.UpToSlots h'->my e dx h'->Q () { s with heap:=h' }):wpAny M A (setFlight (.ref e) none) Q E s:=by
 obtain⟨oe,vs,T,oT,ts,he,hc,hd,h1,nT,ne,hT,dT,h3⟩:=tr;obtain⟨o2,q2,rfl⟩:=hx;rw[he]at q2;cases q2;have ot:∀b,b≠T->(s.heap.update T (Obj.mapFields (·.setIfInBounds 3 ((none:Option Addr).elim Value.none λf=>rawInt f)))).get? b=s.heap.get? b:=λb n=>nL _ _ n.symm;have nr:∀b o,s.heap.get? b=some o->(∀ws,o.data≠.fields ws)->b≠T:=λb o q nf z=>by
  subst z;rw[hT]at q;cases q;exact nf ts dT
 have z3:=(Dq.mp h3).1;unfold setFlight;refine ak (aB he hd h1 ?_);rw[ae (by simp:(Value.ref T != Value.none)=true)];have e5:=(ot e ne.symm).trans he;refine aT hT dT z3 (h _ ⟨λb o q=>(ot b λz=>by rw[z,nT]at q;cases q).trans (f1 b o q),f2,f3.of_keeps λb o q nf=>⟨o,(ot b (nr b o q nf)).trans q,rfl⟩,?_⟩ (λb o q nf=>⟨o.slots,(ot b (nr b o q nf)).trans q⟩) ⟨_,e5,rfl⟩);exact⟨oe,vs,T,_,_,e5,hc,hd,h1,nT,ne,rN _ hT (Obj.isFreed_of_fields (Obj.data_mapFields dT _)),Obj.data_mapFields dT _,by simp[z3]⟩
theorem OK(fl:Heap.HeldW base l e cls a0 L s.heap)(hx:my e dx s.heap)(h:∀h',Heap.FlyingW base l e cls a0 h'->s.heap.UpToSlots h'->my e dx h'->Q () { s with heap:=h' }):wpAny M A (setFlight (.ref e) none) Q E s:=OJ fl.1 fl.2.1 fl.2.2.1 fl.2.2.2 hx h
theorem ZF(fl:Heap.FlyingW base l e cls a0 s.heap)(hx:my e dx s.heap)(h:∀h',Heap.FlyingW base l e cls a0 h'->s.heap.UpToSlots h'->my e dx h'->Q () { s with heap:=h' }):wpAny M A (setFlight (.ref e) none) Q E s:=OJ fl.1 fl.2.1 fl.2.2.1 fl.2.2.2.at hx h
theorem ZG(nR:A.frames=some (env::outer))(hf:env.frame=some L)(hl:s.heap.FunFrames base (env::outer))(he:s.heap.get? e=some oe)(HM:base.StaysIn s.heap)(BR:base.get? e=none)(hd:oe.data=.fields vs)(h1:vs[1]?=some .none)(h0:vs[0]?=some a0)
  (h:∀h',Heap.FlyingW base outer e oe.cls a0 h'->s.heap.UpToSlots h'->my e oe.dict h'->Q () { s with heap:=h' }):wpAny M A (leaving env (.ref e)) Q E s:=by
 unfold leaving noteFrame;simp only[hf];refine ak (ak (aB he hd h1 ?_));rw[af (by decide)];refine OI nR hl hf he HM BR hd (Dq.mp h1).1 h0 λh2 ⟨x1,x2,x3,x4⟩ d2=>OK (s:={ s with heap:=h2 }) ⟨x1,BR,x2,x3⟩ d2 λh3 q3 u3 d3=>?_;obtain⟨k1,k2,⟨_,_,k3⟩,k4⟩:=q3;exact h h3 ⟨k1,k2,k3,k4⟩ (Heap.UpToSlots.trans x4 u3) d3
end
end L2
namespace L2
open PySem PySem.Spec PyProof.Rows PySem.W Builtin Builtin.ObjectAttr
section
variable{K:Frag}{prog:Program}{w:World}{A:Around}{E:QV}{s:Shared}{e C W:Addr}{o:Obj}{vs:Array Value}{cd:ClassData}{name:Str}{v:Value}{Q:Unit->Shared->Prop}
end
noncomputable abbrev OL(C t:Addr)(dx:Option Addr):Obj:={ cls:=.ref C,dict:=dx,data:=.fields #[.ref t,.none,.none,.none,.bool false,.none] }
section
variable{K:Frag}{prog:Program}{w:World}{A:Around}{E:QV}{s:Shared}{e C W t:Addr}{cd:ClassData}{m:Value}{dx:Option Addr}{Q:QV}
end
section
variable{prog:Program}{w:World}{A:Around}{E:QV}{s:Shared}{W:Addr}
end
end L2
namespace L2
open PySem PySem.Spec PyProof.Rows PySem.W
noncomputable def BS(C a:Addr)(dx:Option Addr):HO:=.ext λh=>∃t,h.get? a=some (OL C t dx)
theorem ZH{P:Program}{w:World}{H:Hp}{h:Heap}{C a t:Addr}{dx:Option Addr}(e:h.get? a=some (OL C t dx)):eQ P w H h a (BS C a dx):=⟨⟨t,e⟩,⟨_,e⟩,λ_ _ ⟨t,z⟩ k=>⟨t,k _ z⟩⟩
section
variable{X:Cx}{a b:Str}{e:Expr}{te:TE}{ja jb:Nat}{pa pb pf pos:Pos}
theorem ZI{x y:Str}{n:Nat}(h:(x++y).length<=n):x.length<=n:=by rw[aY]at h;lia
end
section
variable{X:Cx}{C W a:Addr}{name wn:Str}{o value e:Expr}{es:List Expr}{ta tv:TE}{t:TA}{pos jY np gX dW:Pos}
end
theorem OM{P:Program}{w:World}{H:Hp}{h:Heap}{a:Addr}{u:HO}(x:dN P w H h)(hn:H a=none)(new:eQ P w (upd H a u) h a u):dN P w (upd H a u) h:=λb v q=>by
 by_cases hb:b=a
 ·subst hb;rw[bz]at q;cases q;exact new
 ·rw[cH hb]at q;exact(x b v q).mY (λ_ _ _ z=>z) (λc z=>by rw[cH (gI z hn)];exact z) λc xs z=>by rw[cH (gI z hn)];exact z
section
variable{X:Cx}{name:Str}{o value:Expr}{ta tv:TE}{pos jY:Pos}
end
section
variable{h:Heap}{prog:Program}{w:World}{A:Around}{E:QV}{d:Drawn}{g:Array GenState}{os:OsState}{t:Nat}
variable{nm q:Str}{C N fI:Addr}{bs bm sQ cG:List Value}{hdct ab:Bool}{sn:List Str}{sub:List Value}{col:Option Bool}{dd:Option Addr}{k0 k1 k2 k3 k5:Option Value}{B newId Fu:String}{mN:Str->Option Value}{oI:Obj}
end
end L2
namespace L2
open PySem PySem.Spec PyProof.Rows
variable{H:Hp}{a:Addr}
noncomputable def qb(a:Addr)(H:Hp):Hp:=λb=>if b=a then none else H b
theorem tN{b:Addr}(h:b≠a):qb a H b=H b:=af h
theorem ON{b:Addr}{o:HO}(h:qb a H b=some o):b≠a/\H b=some o:=by
 unfold qb at h;split at h
 ·cases h
 ·exact⟨by assumption,h⟩
theorem dN.rm{P:Program}{w:World}{h:Heap}{φ:Heap->Prop}(x:dN P w H h)(e:H a=some (.ext φ)):dN P w (qb a H) h:=λb u q=>by
 obtain⟨_,q⟩:=ON q;exact(x b u q).mY (λ_ _ _ z=>z) (λc z=>(tN λy=>by rw[y,e]at z;cases z).trans z) λc xs z=>(tN λy=>by rw[y,e]at z;cases z).trans z
theorem Un.rm{fs:List Addr}{H1:Hp}{h h1:Heap}{φ:Heap->Prop}(x:Un fs [] H H1 h h1)(e:H1 a=some (.ext φ)):Un fs [] H (qb a H1) h h1 where
 keep:=x.keep
 slot:=x.slot
 free:=λb o q m z=>by
  by_cases hb:b=a
  ·exact ae hb
  ·exact(tN hb).trans (x.free b o q m z)
 there:=x.there
 jc:=λb xs q=>(tN λy=>by have z:=x.jc b xs q;rw[y,e]at z;cases z).trans (x.jc b xs q)
 iQ:=λb o u q=>(tN λy=>by have z:=x.iQ b o u q;rw[y,e]at z;cases z).trans (x.iQ b o u q)
 jG:=λb ps q=>let ⟨m,z⟩:=x.jG b ps q;⟨m,(tN λy=>by rw[y,e]at z;cases z).trans z⟩
inductive qW(P:Program)(w:World)(outer:List Env)(H:Hp)(s:Shared)(E:XK)(e:Value)(s':Shared):Prop where
 |mk (C ea:Addr) (dx:Option Addr) (B:Heap) (a0:Value) (H':Hp) (q0:e=.ref ea) (q1:s'.os=s.os) (q2:AllBare s'.gens) (q3:Un (gq outer) [] H H' s.heap s'.heap) (q4:dN P w H' s'.heap)
   (q5:Heap.FlyingW B outer ea (.ref C) a0 s'.heap) (q6:∀b u,H' b=some u->∃o,B.get? b=some o)
   (q7:∀b o,s.heap.get? b=some o->b ∉ gq outer->∃o',B.get? b=some o'/\(H b=none->o'=o)) (q9:my ea dx s'.heap) (q8:E (.ref C) dx H'):qW P w outer H s E e s'
section
variable{P:Program}{w:World}{K:Frag}{mg:Str->Option Value}{base:Heap}{N:List Str}{qual:Str}{scope:Scope}{f C:Addr}{cd:Value}{A:Around}{outer:List Env}{s:Shared}{H:Hp}{E:XK}
theorem ZJ{bc:List (Addr×Obj)}{σ:St}{H1:Hp}{s1:Shared}{ea:Addr}{dx:Option Addr}(I:Inv (jH (qW P w) P w K mg base N qual scope f cd A outer s H E) bc σ H1 s1)(ex:H1 ea=some (BS C ea dx))(new:∀b o,s.heap.get? b=some o->b≠ea)
  (hE:E (.ref C) dx (qb ea H1)):(jH (qW P w) P w K mg base N qual scope f cd A outer s H E).xe (.ref ea) s1:=by
 have uC:s1.heap.FunFrames base (envOfC qual scope s.heap.objs.size f cd::outer):=I.stack;have ZK:∀b∈gq (envOfC qual scope s.heap.objs.size f cd::outer),H1 b=none:=I.zL;have vJ:Un (gq outer) [] H H1 s.heap s1.heap:=I.base;have ZL:s1.heap.FunFrames base outer:=I.mZ;have HN:dN P w H1 s1.heap:=I.bZ;have ZM:s1.os=s.os:=I.os;have HP:(A.deeper (envOfC qual scope s.heap.objs.size f cd)).frames=some (envOfC qual scope s.heap.objs.size f cd::outer):=I.ok.frames;obtain⟨⟨t,e0⟩,_,_⟩:=HN ea _ ex;have sR:∀b,b∈gq (envOfC qual scope s.heap.objs.size f cd::outer)->b=s.heap.objs.size\/b∈gq outer:=λb hb=>dI.mp hb;generalize hB:PySem.W.hideAll s1.heap (ea::gq (envOfC qual scope s.heap.objs.size f cd::outer))=B;have OO:∀b o,B.get? b=some o->s1.heap.get? b=some o:=λb o q=>PySem.W.of_hideAll _ (hB▸q);have OP:∀b o,s1.heap.get? b=some o->b≠ea->b ∉ gq (envOfC qual scope s.heap.objs.size f cd::outer)->B.get? b=some o:=λb o q n m=>hB▸PySem.W.hideAll_get _ q λz=>(dI.mp z).elim n m;refine ZG (base:=B) HP rfl (hB▸PySem.W.funFrames_hide uC λenv he a ha=>e9 _ (WH env he a ha)) e0 OO (hB▸PySem.W.hideAll_none _ c6) rfl rfl rfl λh2 jh up dc=>?_;have q7:∀b o,s.heap.get? b=some o->b ∉ gq outer->∃o',B.get? b=some o'/\(H b=none->o'=o):=λb o q hb=>by
  obtain⟨o1,e1⟩:=vJ.there b o q (by simp);have lt:=dH q;refine⟨o1,OP b o1 e1 (new b o q) λz=>(sR b z).elim (fK lt) hb,λn=>?_⟩;have e2:=vJ.keep b o q n hb (by simp);rw[e1]at e2;exact eF e2
 have q6:∀b u,qb ea H1 b=some u->∃o,B.get? b=some o:=λb u e=>by
  obtain⟨n,e⟩:=ON e;obtain⟨o,q⟩:=(HN b u e).obj;exact⟨o,OP b o q n λz=>by rw[ZK b z]at e;cases e⟩
 refine⟨C,ea,dx,B,_,qb ea H1,rfl,ZM,I.bare,Un.jh (vJ.rm ex) jh.1 q7 (λb o hb q=>?_),dN.jh (HN.rm ex) q6 OO jh.1,jh,q6,q7,dc,hE⟩;obtain⟨_,o2,sk,nf⟩:=ZL.mem hb;obtain⟨z,e1⟩:=vJ.any q (I.ok.rV b hb) (by simp);rw[sk]at e1;cases e1;exact let ⟨z2,e3⟩:=up b _ sk nf;⟨z2,e3⟩
end
end L2
namespace L2
open PySem PySem.Spec PyProof.Rows PySem.W
section
variable{M:Model}{A:Around}{E:QV}{env:Env}{nm q:Str}{C N:Addr}{bs bm:List Value}{hdct ab:Bool}{sn:List Str}{sub:List Value}{col:Option Bool}{dd:Option Addr}{k0 k1 k2 k3 k5:Option Value}{newId:String}
end
section
variable{X:Cx}{x:Str}{np dW pos:Pos}{C fI:Addr}{fd:FuncData}{ps:List Str}{k:Nat}{sp:Sp}{e₀:Expr}{es:List Expr}{t:TA}{E:XK}
end
end L2
namespace L2
open PySem PySem.Spec PyProof.Rows
open PySem.W (Looks)
open PySem.Builtin PySem.Builtin.ObjectAttr PySem.Builtin.Getset_descriptor
variable{C a:Addr}{b:Bool}
section
variable{prog:Program}{w:World}{A:Around}{E:QV}{K:Frag}{C a dx:Addr}{o:Obj}{vs:Array Value}{cd:ClassData}{name:Str}{v:Value}{mA:Str->Option Value}
end
open PySem.W (Looks)
noncomputable def qX(C a:Addr)(dx:Option Addr):HO:=.ext λh=>∃o vs,h.get? a=some o/\o.cls=.ref C/\o.data=.fields vs/\o.dict=dx
theorem ZN{P:Program}{w:World}{H:Hp}{h:Heap}{dx:Option Addr}{l:List Env}{B:Heap}{a0:Value}(fl:Heap.FlyingW B l a (.ref C) a0 h)(d:my a dx h):eQ P w H h a (qX C a dx):=by
 obtain⟨o,h1,h2⟩:=d;obtain⟨o2,vs,e1,e2,e3,_⟩:=fl.first;rw[h1]at e1;cases e1;exact⟨⟨o,vs,h1,e2,e3,h2⟩,⟨_,h1⟩,λ_ _ ⟨o,vs,z,r⟩ k=>⟨o,vs,k _ z,r⟩⟩
section
variable{X:Cx}{C ea:Addr}{bc:List (Addr×Obj)}{σ:St}{H1 H':Hp}{s1 s':Shared}{B:Heap}{a0:Value}{dx:Option Addr}
theorem Inv.OQ{h2:Heap}{tk:Nat}(I:Inv X bc σ H1 s1)(os:s'.os=s1.os)(bare:AllBare s'.gens)(un:Un (gq X.stack) [] H1 H' s1.heap s'.heap)(bZ:dN X.prog X.w H' s'.heap)(jh:Heap.FlyingW B X.stack ea (.ref C) a0 s'.heap)
  (q6:∀b u,H' b=some u->∃o,B.get? b=some o) (q7:∀b o,s1.heap.get? b=some o->b ∉ gq X.stack->∃o',B.get? b=some o'/\(H1 b=none->o'=o))
  (HQ:Heap.FlyingW B X.stack ea (.ref C) a0 h2) (up:s'.heap.UpToSlots h2) (dc:my ea dx h2):H' ea=none/\Inv X bc σ (upd H' ea (qX C ea dx)) { s' with heap:=h2,toks:=tk }:=by
 have hB:B.get? ea=none:=jh.2.1;have hn:H' ea=none:=by
  cases e:H' ea with
  |none=>rfl
  |some u=>
   obtain⟨o,z⟩:=q6 _ _ e;rw[hB]at z;cases z
 refine⟨hn,?_⟩;have dX:∀b o,s1.heap.get? b=some o->H1 b=none->b≠ea:=λb o q _ z=>by
  subst z;by_cases hb:b∈gq X.stack
  ·obtain⟨_,o1,e1,nf⟩:=jh.2.2.1.mem hb;obtain⟨oe,vs,_,_,_,e2,_,hd,_⟩:=jh.2.2.2;rw[e1]at e2;cases e2;exact nf vs hd
  ·obtain⟨o',e,_⟩:=q7 b o q hb;rw[hB]at e;cases e
 have u2:Un (gq X.stack) [] H1 H' s1.heap h2:=Un.jh un HQ.1 q7 λb o hb q=>by
  obtain⟨z1,e1⟩:=un.any q (I.zL b hb) (by simp);obtain⟨_,o3,OR,nf⟩:=jh.2.2.1.mem hb;rw[OR]at e1;cases e1;exact let ⟨z3,e3⟩:=up b _ OR nf;⟨z3,e3⟩
 have no:∀b∈([]:List Addr),(b∈X.ex\/X.s₀.heap.objs.size<=b)/\b≠X.env.locals/\(∀x c,X.env.cells.lookup x=some c->c≠b)/\∀p∈X.pn++bc,p.1≠b:=λb z=>nomatch z;exact I.Kq (s':={ s' with heap:=h2,toks:=tk }) os (u2.more hn dX) (OM (dN.jh bZ q6 jh.1 HQ.1) hn (ZN HQ dc)) bare no
end
section
variable{X:Cx}{bc:List (Addr×Obj)}{σ:St}{H:Hp}{s:Shared}{C a dx:Addr}{name:Str}{n:Int}{A:Around}{E:QV}{Q:QV}
end
section
variable{X:Cx}{W f:Addr}{k:Nat}{fd:FuncData}{ps:List Str}{sp:Sp}{x wn n y fld:Str}{p cp ep wp np yp ap fp hp pos:Pos}{e:Expr}{es:List Expr}{t:TA}{ix ie:Nat}
end
open PySem.W (Looks)
def tO(C a:Addr)(o:Option HO):Prop:=∃φ,o=some (.ext φ)/\∀h,φ h->ExcAt C a h
theorem ZO{dx:Option Addr}{o:Option HO}(h:o=some (qX C a dx)):tO C a o:=⟨_,h,λ_ ⟨o,_,h1,h2,_⟩=>⟨o,h1,h2⟩⟩
theorem tO.at{X:Cx}{bc:List (Addr×Obj)}{σ:St}{H:Hp}{s:Shared}(I:Inv X bc σ H s)(x:tO C a (H a)):ExcAt C a s.heap:=let ⟨_,e,f⟩:=x;f _ (I.bZ a _ e).1
theorem OS{X:Cx}{c:Value}{cv:V}(Z:nW X.K C)(hc:∀u,RelV cv u->u=c)(e:kitOne X.K (.ref C) c=some b) :
  eW X (.builtin "isinstance") (λxs H Q=>∃a,xs=[.ref a,cv]/\tO C a (H a)/\Q (.bl b) H):=by
 intro bc s σ H vs us Q I r h;obtain⟨a,rfl,ha,q⟩:=h;obtain⟨u,v,rfl,ru,rv⟩:=vals2 r;cases(show u=Value.ref a from ru)
 cases hc v rv;exact nJ (MT Z) I.eK (ha.at I) e (λz=>nomatch z) λtk=>⟨.bl b,H,I.tok tk,rfl,q⟩
theorem OT:∀{cs:List Addr}{its:List Value},Vals (cs.map V.ref) its->its=cs.map Value.ref
 | [],_,.nil=>rfl
 |c::cs,_,.cons r rr=>by
  have e:=OT rr;cases(show _=Value.ref c from r)
  rw[e];rfl
section
variable{X:Cx}(K:Frag)(hK:X.K=K)
include hK
theorem ZP{D:Addr}(Z:nW K C)(e:kitOne K (.ref C) (.ref D)=some b):eW X (.builtin "isinstance") (λxs H Q=>∃a,xs=[.ref a,.ref D]/\tO C a (H a)/\Q (.bl b) H):=by
 subst hK;exact OS (cv:=.ref D) Z (λu z=>z) e
theorem ZQ{T:String}(Z:nW K C)(e:kitOne K (.ref C) (.type T)=some b):eW X (.builtin "isinstance") (λxs H Q=>∃a,xs=[.ref a,.ty T]/\tO C a (H a)/\Q (.bl b) H):=by
 subst hK;exact OS (cv:=.ty T) Z (λu z=>z) e
theorem ZR{cs:List Addr}(Z:nW K C)(e:PySem.W.kitAny K (.ref C) (cs.map Value.ref)=some b) :
  eW X (.builtin "isinstance") (λxs H Q=>∃a t,xs=[.ref a,.ref t]/\tO C a (H a)/\H t=some (.tup (cs.map V.ref))/\Q (.bl b) H):=by
 subst hK;intro bc s σ H vs us Q I r h;obtain⟨a,t,rfl,ha,ht,q⟩:=h;obtain⟨u,v,rfl,ru,rv⟩:=vals2 r;cases(show u=Value.ref a from ru)
 cases(show v=Value.ref t from rv)
 obtain⟨_,its,rr,o,h1,h2,_,n,h3⟩:=(show eQ X.prog X.w H s.heap t (.tup (cs.map V.ref)) from I.bZ t _ ht)
 have ei:=OT rr;subst ei;obtain⟨oc,od,ZS,me⟩:=o;have h2:oc=.type "tuple":=h2;have h3:ZS=.seq (cs.map Value.ref).toArray n:=h3;subst h2 h3;exact PySem.W.kia_tup (MT Z) I.eK (ha.at I) h1 e (λz=>nomatch z) λtk=>⟨.bl b,H,I.tok tk,rfl,q⟩
end
section
variable{X:Cx}{e:Expr}{f:Str}{pos:Pos}{ta:TE}
end
section
variable{X:Cx}{W f:Addr}{k:Nat}{fd:FuncData}{ps:List Str}{sp:Sp}{x wn n y vn:Str}{p cp ep wp np yp ap vp hp pos:Pos}{e:Expr}{es:List Expr}{t:TA}{ix ie iv:Nat}
theorem ZT(sr:∀u s,X.xe u s->False)(BU:X.stack=X.env::X.outer)(nR:X.env.frame=some X.env.locals)
  (F:ck X.prog X.w X.K X.mg X.base (qW X.prog X.w) k f fd ps sp) (hr:dS k X.A) (hg:Gl X x) (hm:X.mg x=some (.ref f)) (hk:Kp X.K f) (hb:Binds X.K fd ps []) (ha:PA X (e::es) t)
  (ZU:Gl X wn) (ZV:X.mg wn=some (.ref W)) (hN:X.N.Nodup) (hv:X.N[iv]?=some vn) (lv:X.env.scope.names.lookup vn=some .local) (hy:X.N[ix]?=some y) (ly:X.env.scope.names.lookup y=some .local) (hn:X.N[ie]?=some n) (ln:X.env.scope.names.lookup n=some .local) (ZW:ix≠ie)
  (nQ:(x==("__debug__":Str))=false:=by decide) (ZX:(wn==("__debug__":Str))=false:=by decide) (ZY:(n==("__debug__":Str))=false:=by decide)
  (he:starEach (e::es) X.env=(false,eval e X.env)::starEach es X.env:=by rfl) (ik:(backTo cp (starEach es X.env)).any (·.1)=false:=by rfl)
  (hs:swapsWith (.Call (.Name x p) (e::es) [] cp) (some (.Name vn vp)) ep.line X.env=pure false:=by rfl) (lG:swapsWith (.Name n np) (some (.Name y yp)) ap.line X.env=pure false:=by rfl) :
  PS X (.Try [.Assign [.Name vn vp] (.Call (.Name x p) (e::es) [] cp) ep] [.ExceptHandler (some (.Name wn wp)) (some n) [.Assign [.Name y yp] (.Name n np) ap] hp] [] [] pos)
   (λD σ H=>t σ H λvs H1=>sp vs H1 (λv H'=>D.nx (σ.set iv (some v)) H') λc OU H'=>∃C,c=.ref C/\PySem.W.exmOne X.K (.ref C) (.ref W)=some true/\
    ∀ea,H' ea=none->D.nx ((σ.set ix (some (.ref ea))).set ie none) (upd H' ea (qX C ea OU))):=by
 intro bc s σ H D I h;refine wpAny_Try_except (wpAny_execs_cons (wpAny_Assign_Name (az (uG I hg hm ?_ nQ)) hs));refine PySem.W.callWith_K (h₀:=X.base) I.ok.mod.pP hk (ag (ha cp bc s σ H _ I h) (λus s1 ⟨vs,H1,I1,r,q⟩=>⟨I1.eK,?_⟩) λ_ _ z=>(sr _ _ z).elim) he ik;have hl:us.length=ps.length:=by rw[<- r.length];exact F.len _ _ _ _ q
 have o6:=hb s1 us I1.eK (by rw[gU];exact hl);rw[gU]at o6;refine wpAny_call (codeAny_mono (F.run X.A X.stack s1 H1 ⟨us,[]⟩ us vs _ _ hr I1.Ab o6 r q) λr s' hq=>?_);cases r with
 |ok fl=>
  cases fl with
  |ret u=>
   obtain⟨v,H',I',rv,q'⟩:=I1.after hq;exact uF I' hN hv (.inl lv) rv (λs8 I8=>aj (aj ⟨_,H',I8,q'⟩)) (.inr lv)
  |next=>exact False.elim hq
  |brk=>exact False.elim hq
  |cont=>exact False.elim hq
 |error e=>
  obtain⟨C,ea,OU,B,a0,H',rfl,os,bare,un,bZ,jh,q6,q7,dc,C',hc,hex,q8⟩:=hq;cases hc;have ZZ:Heap.FlyingW B (X.env::X.outer) ea (.ref C) a0 s'.heap:=BU▸jh;have HP:X.A.frames=some (X.env::X.outer):=BU▸I1.ok.frames;refine ZE HP nR ZZ dc λh4 Z0 Ao Z1=>OK Z0 Z1 λh5 OV Z2 OW=>?_;have OX:=Ao.trans Z2;have OY:Heap.FlyingW B X.stack ea (.ref C) a0 h5:=by rw[BU];exact OV
  obtain⟨_,I5⟩:=I1.OQ (tk:=s'.toks) os bare un bZ jh q6 q7 OY OX OW;refine wpAny_handleBy_cons (codeAny_handlers_test ?_) (by intro q;cases q);refine Calls.Name_function_global I.ok.kind ZU (Calls.loadGlobal_global (by rw[I.ok.glob];exact I5.mod.glob.keeps I5.bk) ZV ?_) ZX;obtain⟨oe,Z3,Z4⟩:=OY.there;have LT:Looks (model X.prog X.w) h5 (typeOf (.ref ea)) (.ref C):=Z4▸(Looks.ld Z3).andThen .now;refine(PySem.W.exm_one (M:=model X.prog X.w) I5.eK LT hex).here ?_;refine codeAny_handlers_suite_as (ZF OV OW λh6 Z5 Z6 Z7=>?_);have Z8:Heap.FlyingW B X.stack ea (.ref C) a0 h6:=by rw[BU];exact Z5
  obtain⟨Z9,I6⟩:=I1.OQ (tk:=s'.toks) os bare un bZ jh q6 q7 Z8 (OX.trans Z6) Z7;refine uF I6 hN hn (.inl ln) (v:=.ref ea) rfl (λs7 I7=>?_) (.inr ln);have cT:ie<σ.length:=by rw[I1.len];exact(fO.mp hn).1
  obtain⟨m7,hn7,hl7⟩:=I7.loc;obtain⟨u7,r7,lk7⟩:=hl7 ie n (.ref ea) hn (List.getElem?_set_self cT) (.inl ln);have OZ:X.env.kindOf n=some .local/\m7 n=some u7:=by
   rcases lk7 with z|⟨z,_⟩
   ·exact z
   ·have ln':X.env.kindOf n=some .local:=ln;rcases z with z|z<;>(rw[ln']at z;cases z)
  refine wpAny_execs_cons (wpAny_Assign_Name (wpAny_Name (wpAny_loadName_local I.ok.kind OZ.1 hn7 OZ.2 ?_) ZY) lG);refine uF I7 hN hy (.inl ly) (v:=.ref ea) r7 (λs8 I8=>?_) (.inr ly);refine aj ?_;obtain⟨m8,O0,hl8⟩:=id I8.loc;have Dy:(X.env.scope.kind == .class||(X.env.scope.kind == .module&&X.env.locals != X.env.globals))=false:=by rw[I.ok.kind];rfl
  refine wpAny_nameGoes_keeps ln O0 Dy λh9 v9 hn9 hs9=>?_;refine⟨_,_,I8.WQ hN hn hl8 O0 hn9 hs9,?_⟩;have es:((σ.set ie (some (V.ref ea))).set ix (some (V.ref ea))).set ie none=(σ.set ix (some (V.ref ea))).set ie none:=by
   rw[List.set_comm _ _ ZW.symm,List.set_set]
  rw[es];exact q8 ea Z9
end
section
variable{X:Cx}{x:Str}{np dW:Pos}{C fI:Addr}{fd:FuncData}{ps:List Str}{k:Nat}{sp:Sp}{e₀:Expr}{es:List Expr}{t:TA}{sQ:List Value}{B newId Fu:String}
end
section
variable{M:Model}{A:Around}{E:QV}{s:Shared}{base:Heap}{env:Env}{outer l:List Env}{L e:Addr}{a0 cls fl:Value}{Q:Unit->Shared->Prop}{dx:Option Addr}
end
section
variable{P:Program}{w:World}{K:Frag}{mg:Str->Option Value}{base:Heap}{N:List Str}{qual:Str}{scope:Scope}{f C:Addr}{cd:Value}{A:Around}{outer:List Env}{s:Shared}{H:Hp}{E:XK}
end
section
variable{Y:Cx}{E:XK}{bc:List (Addr×Obj)}{σ:St}{H:Hp}{s:Shared}
end
section
variable{X:Cx}{tg jL iter:Expr}{jg:List Expr}{scope:Scope}{pos:Pos}{N:List Str}{own:Nat}{caps:List Nat}{wi:TI}{g:TG}{tt:TT}{te:TE}
end
section
variable{X:Cx}{b:Str}{e:Expr}{te:TE}{jb:Nat}{pb pf pos:Pos}
end
section
variable{P:Program}{w:World}{K:Frag}{mg:Str->Option Value}{base:Heap}{N:List Str}{qual:Str}{scope:Scope}{f C:Addr}{cd:Value}{A:Around}{outer:List Env}{s:Shared}{H:Hp}{E:XK}
theorem aaa{bc:List (Addr×Obj)}{σ:St}{H1:Hp}{s1:Shared}{h':Heap}{ea:Addr}{us:List Value}(I:Inv (jH (qW P w) P w K mg base N qual scope f cd A outer s H E) bc σ H1 s1)
  (hm:Heap.MadeExcOf s1.heap h' ea (.ref C) us) (hE:E (.ref C) none H1):(jH (qW P w) P w K mg base N qual scope f cd A outer s H E).xe (.ref ea) { s1 with heap:=h' }:=by
 obtain⟨t0,e0,_,_⟩:=hm.there;have hn:H1 ea=none:=by
  cases z:H1 ea with
  |none=>rfl
  |some u=>
   obtain⟨o,w⟩:=(I.bZ ea u z).obj;rw[hm.new]at w;cases w
 have J:=I.un (h':=h') (t':=s1.toks) ((Un.kept hm.keeps).more (u:=BS C ea none) hn λb o w _ z=>by rw[z,hm.new]at w;cases w) (OM (I.bZ.kept hm.keeps) hn (ZH e0));have vJ:Un (gq outer) [] H H1 s.heap s1.heap:=I.base;refine ZJ J bz (λb o q z=>?_) ?_
 ·obtain⟨o1,e1⟩:=vJ.there b o q (by simp);rw[z,hm.new]at e1;cases e1
 ·have e:qb ea (upd H1 ea (BS C ea none))=H1:=by
   funext b
   by_cases hb:b=ea
   ·subst hb;rw[hn];exact ae rfl
   ·rw[tN hb,cH hb]
  rw[e];exact hE
end
section
variable{X:Cx}{a b:Str}{e e2:Expr}{te BV:TE}{ja jb:Nat}{pa pb pf pf2 pos:Pos}
def tRn(a b:Str)(te BV:TE):TE:=λσ H Q=>te σ H λv H'=>∃x:Str,v=.str x/\(Str.empty++a++reprText x++b).length<=sizeLine/\BV σ H' λv2 H2=>∃n:Int,v2=.int n/\n.natAbs.log2<1920/\(Str.empty++a++reprText x++b++(toString n:Str)).length<=sizeLine/\Q (.str (Str.empty++a++reprText x++b++(toString n:Str))) H2
theorem aab(he:PE X e te)(he2:PE X e2 BV)(hz:a.length<=sizeLine):PE X (.JoinedStr [.Constant (.str a) ja pa,.FormattedValue e 114 none pf,.Constant (.str b) jb pb,.FormattedValue e2 (-1) none pf2] pos) (tRn a b te BV):=by
 intro bc s σ H Q I h;refine JoinedStr_many (joinParts_cons (Calls.Constant_str ⟨?_,joinParts_cons (wpAny_FormattedValue_repr (bj (he bc _ σ H _ (I.tok _) h) λv s1 ⟨y,H1,I1,r,x,hx,hs,q⟩=>?_))⟩))
 ·rw[aY];exact dj (by show 0+a.length<=a.length;lia) hz
 subst hx;obtain⟨u,rfl⟩:∃u,v=.str x u:=r;have h1:(Str.empty++a++reprText x).length<=sizeLine:=ZI hs;have h2:(reprText x).length<=sizeLine:=by
  rw[aY]at h1;exact dj (Nat.le_add_left _ _) h1
 refine wpAny_pyReprObj_str (formatField_str (λt' tk=>⟨h1,joinParts_cons (Calls.Constant_str ⟨hs,joinParts_cons (FormattedValue_plain (bj (he2 bc _ σ H1 _ (I1.tok _) q) λv2 s2 ⟨y2,H2,I2,r2,n,hx2,hl,lG,q2⟩=>?_))⟩)⟩) h2) h2;subst hx2;obtain⟨u2,rfl⟩:∃u,v2=.int n u:=r2;exact formatField_int_small hl ⟨lG,joinParts_nil ⟨.str _,H2,(I2.tok _),⟨_,rfl⟩,q2⟩ lG⟩
end
end L2
namespace S21
open PySem L2 Bw
variable{d:Dw}{i:Nat}
noncomputable abbrev HR:List Value:=[.type "ValueError",.type "Exception",.type "BaseException",.type "object"]
noncomputable def HS:Str:=Str.ofString "the rule "
noncomputable def HU:Str:=Str.ofString " fits no drawing that begins at word "
def O1(p:Int)(d:Dw)(D:List (Str×V))(i:Int)(x:Str):Prop:=
 (∀n∈g7 d.bb d.bb.length,(n:Int)≠i)\/∃n:Nat,i=(n:Int)/\n∈g7 d.bb d.bb.length/\(PyProof.Rows.KTD.datumAt x D=none\/∃cM,iX x=some cM/\kH p x (cD [.bu d] n) cM none)
def O2(K:Frag)(D:List (Str×V))(CM:Addr):Sp:=λvs H Q E=>N2 K iX vs H Q E \/
 ∃(p:Int)(aw:Addr)(i:Int)(x:Str)(d:Dw),vs=[.int p,.ref aw,.int i,.str x]/\d.ok p/\p<=97/\d.bb.length<=200/\cg K H aw d.bb/\O1 p d D i x/\(reprText x).length<=1000/\i.natAbs.log2<1920/\(toString i:Str).length<=1000/\∀H',bh H H'->E (.ref CM) none H'
theorem aac{kb:List (Key×V)}{i:Int}(hE:vy kb d)(h:∀n∈g7 d.bb d.bb.length,(n:Int)≠i):c7 kb (Sum.inl i)=none:=by
 unfold c7;rw[Option.map_eq_none_iff,List.find?_eq_none];intro q hq z;rw[aI]at z;have hm:q.1∈kb.map Prod.fst:=List.mem_map_of_mem hq;rw[hE.keys]at hm;obtain⟨n,hn,e⟩:=lh.mp hm;rw[z]at e;exact h n hn (Sum.inl.inj e)
set_option maxRecDepth 100000 in
theorem aad{f fE fF fL CM:Addr}{fd qV lO yI:FuncData}{D:List (Str×V)}(F:c9 K "moved" "moved" E1 f fd)
  (GE:ck P w K mg base cA 3 fE qV ["words"] (GY K)) (kE:Kp K fE) (bE:Binds K qV ["words"] []) (mE:Mg mg "ends" fE)
  (GF:ck P w K mg base cA 8 fF lO ["words","behind","at","rule"] (λvs H Q E=>yD K iX vs H Q E\/Hf K D vs H Q E)) (kF:Kp K fF) (bF:Binds K lO ["words","behind","at","rule"] []) (mF:Mg mg "fitting" fF)
  (GL:ck P w K mg base cA 3 fL yI ["p","found","text"] (NW K)) (kL:Kp K fL) (bL:Binds K yI ["p","found","text"] []) (mL:Mg mg "filled" fL)
  (mM:Mg mg "NoMove" CM) (sR:PySem.W.excIn K CM HR "ValueError.__new__"=true):ck P w K mg base (qW P w) 9 f fd ["p","words","at","rule"] (O2 K D CM):=by
 refine F.WI He (λvs H Q E h=>?_) (λcI A outer s H vs Q E hr h=>?_)
 ·rcases h with⟨p,aw,i,x,b,d,d',r,cM,env,ws,rfl,_⟩|⟨p,aw,i,x,d,rfl,_⟩
  ·rfl
  ·rfl
 ·have z:(10000:Nat)<=sizeLine:=by decide
  have r3:dS 3 _:=hr.mono (by lia);have eJ:=nh hr;have FB:=PySem.F.excBase_ValueError;refine⟨_,bD (cx (i:=4) He.nd rfl (.inl rfl) (cZ GE r3 rfl mE kE bE .nil cX (bg (pv 1) bq))) (bD (cx (i:=5) He.nd rfl (.inl rfl) (cZ GF hr rfl mF kF bF .nil cX (bg (pv 1) (bg (pv 4) (bg (pv 2) (bg (pv 3) bq)))))) (bD (cO (cj zZ (pv 5) gW (cm _)) (bK (WK (E:=E) rfl rfl mM sR FB (bg (aab (a:=HS) (b:=HU) (pv 3) (pv 2) (by decide)) bq) aaa)) cW) (bK (cE (bH (AD K rfl) (bH (AD K rfl) (jJ (xJ K rfl) (pv 1) mf (iS (pv 2))) (cZ GL r3 rfl mL kL bL .nil cX (bg (pv 0) (bg (bO (cJ K rfl) (pv 5) bp) (bg (bO (cJ K rfl) (pv 5) bp) bq))))) (jJ (xJ K rfl) (pv 1) (iS (lF eJ (pv 4) (pv 2))) mf)))))),?_⟩;rcases h with⟨p,aw,i,x,b,d,d',r,cM,env,ws,rfl,hd,p2,cf,g9,hw,eT,hR,hF,hn,vA,n5,hf,qG,q⟩|⟨p,aw,i,x,d,rfl,hd,cf,g9,hw,sr,hrx,HV,p9,q⟩
  ·have ew:([It2.bu d]).flatMap It2.bb=d.bb:=by simp[It2.bb]
   have cY:=G0 eT;rw[ew,show It2.bb (.bu d')=d'.bb from rfl]at cY
   refine⟨_,rfl,p,aw,d,rfl,hd,g9,hw,λbe kb H1 s1 gb hE=>?_⟩;dsimp only[bY];refine⟨_,rfl,_,rfl,_,rfl,_,rfl,.inl ⟨p,aw,be,i,x,d,d',r,kb,cM,_,rfl,hd,cf,g9,s1.cV hw,.inl gb,hE,eT,hR,hF,λt td bf H2 s2 ir hv ht=>?_⟩⟩;dsimp only[bY];refine⟨_,rfl,rfl,_,rfl,kc (by simp) ?_⟩;have s12:=s1.trans s2;refine⟨_,rfl,_,rfl,_,rfl,aw,_,rfl,s12.cV hw,λc1 H3 s3 An=>?_⟩;rw[N0 (by lia)]at An;refine⟨_,rfl,_,rfl,t,_,0,_,rfl,rfl,s3.cV ht,cc (j:=0) rfl,_,rfl,t,_,1,_,rfl,rfl,s3.cV ht,cc (j:=1) rfl,?_⟩;refine⟨p,td,b,_,bf,env,ws,rfl,p2,cf,s3 _ _ ir,hv.tup s3.tup,hn,rfl,vA,n5,hf,λc2 H4 s4 uQ=>?_⟩;refine⟨c1,c2,_,_,rfl,rfl,s4.cV An,uQ,by rw[oH];lia,λc3 H5 s5 hc3=>?_⟩;have eG:=hE.get eT;have HW:=s2.trans (s3.trans (s4.trans s5));have dg:e7 H5 be (.int (i:Int)) (some (.int ((i+d'.bb.length:Nat):Int))):=by
    have:=e7.k (k:=Sum.inl (i:Int)) (HW _ _ gb)
    rw[eG]at this;exact this
   refine⟨_,rfl,_,rfl,_,rfl,be,_,rfl,dg,_,rfl,aw,_,rfl,(s1.trans HW).cV hw,λc4 H6 s6 O3=>?_⟩;rw[N1 (by lia)]at O3;refine⟨c3,c4,_,_,rfl,rfl,s6.cV hc3,O3,by rw[cL,oH,nK];lia,λc5 H7 s7 hc5=>?_⟩;exact q c5 H7 (s1.trans (HW.trans (s6.trans s7))) hc5
  ·refine⟨_,rfl,p,aw,d,rfl,hd,g9,hw,λbe kb H1 s1 gb hE=>?_⟩;dsimp only[bY];have go:∀Q':VK,(∀H2,bh H1 H2->Q' .cC H2)->(yD K iX [.ref aw,.ref be,.int i,.str x] H1 Q' E0\/Hf K D [.ref aw,.ref be,.int i,.str x] H1 Q' E0):=λQ' hq=>by
    rcases sr with hA|⟨n,rfl,hm,hB⟩
    ·exact .inr ⟨aw,be,i,x,kb,rfl,.inl gb,.inl (aac hE hA),hq⟩
    ·obtain⟨_,xw,yH⟩:=yG (cF _) hm;obtain⟨d',r,eT⟩:=Hy yH;rcases hB with ex|⟨cM,hR,HJ⟩
     ·exact .inr ⟨aw,be,n,x,kb,rfl,.inl gb,.inr ⟨⟨_,hE.get eT⟩,ex⟩,hq⟩
     ·exact .inl ⟨p,aw,be,n,x,d,d',r,kb,cM,none,rfl,hd,cf,g9,s1.cV hw,.inl gb,hE,eT,hR,HJ,hq⟩
   refine⟨_,rfl,_,rfl,_,rfl,_,rfl,go _ λH2 s2=>?_⟩;dsimp only[bY];have l1:(Str.empty++HS++reprText x++HU).length<=2000:=by
    rw[aY,aY,aY];have a1:(Str.empty).length+HS.length<=100:=by decide +kernel
    have a2:HU.length<=100:=by decide +kernel
    lia
   refine⟨_,rfl,rfl,_,rfl,ka (by simp) ⟨_,rfl,x,rfl,dj l1 (by decide),_,rfl,i,rfl,HV,?_,by show 1<=sizeLine;lia,q _ (s1.trans s2)⟩⟩;rw[aY];exact dj (Nat.add_le_add l1 p9) (by decide)
theorem O4:∀(j:Nat){ts r:List It2},j<=(ts.flatMap It2.bb).length->cD (ts++r) j=cD ts j++r
 |0,ts,r,_=>rfl
 |j+1,[],r,h=>by simp at h
 |j+1,t::ts,r,h=>by
  show cD (t.kids++(ts++r)) j=cD (t.kids++ts) j++r;rw[<- fg];refine O4 j ?_;rw[iz,It2.qR,ui,fj,<- oJ]at h;lia
def jA(d:Dw)(i:Nat)(t:It2):Prop:=∃r,cD [.bu d] i=t::r
theorem om(t:It2):([t]).flatMap It2.bb=t.bb:=by simp
theorem jA.sub{j:Nat}{t u:It2}{q:List It2}(h:jA d i t)(hj:cD [t] j=u::q):jA d (i+j) u:=by
 obtain⟨r,hr⟩:=h;refine⟨q++r,?_⟩;have hl:j<=(([t]).flatMap It2.bb).length:=by
  have:=nv j [t]
  rw[hj]at this;have e:=ai List.length this;rw[nK]at e
  have:=xP (ts:=u::q) (by simp)
  lia
 rw[GZ,hr];show cD ([t]++r) j=_;rw[O4 j hl,hj];rfl
theorem jA.word{t:It2}(h:jA d i t):d.bb[i]?=some t.head:=by
 obtain⟨r,hr⟩:=h;have z:=nv i [.bu d];rw[hr,om,iz,It2.qR]at z
 have:=ai (λl=>l[0]?) z
 simp only[ui,List.getElem?_cons_zero,List.getElem?_drop,Nat.add_zero]at this;exact this.symm
theorem jA.fits{t:It2}(h:jA d i t):i+t.bb.length<=d.bb.length:=by
 obtain⟨r,hr⟩:=h;have z:=nv i [.bu d];rw[hr,om,iz]at z;have e:=ai List.length z;rw[cL,nK]at e
 have:(It2.bu d).bb=d.bb:=rfl
 rw[this]at e
 have:=t.pos
 lia
theorem jA.ok{p:Int}{d:Dw}{i:Nat}{t:It2}(hd:d.ok p)(h:jA d i t):t.ok p:=by
 obtain⟨r,hr⟩:=h;exact Bv i (ts:=[.bu d]) (λu hu=>by rw[dP.mp hu];exact hd) t (by rw[hr];exact c6)
theorem aae(h:i<d.bb.length):∃t,jA d i t:=by
 obtain⟨t,r,e1,_,_⟩:=n9 (ts:=[.bu d]) (i:=i) (by rw[om];exact h);exact⟨t,r,e1⟩
noncomputable def i8:List V:=[.str "then",.str "beside"]
noncomputable def gF(v:V)(x:Str):Int:=if decide (v=.str x)=true then 1 else 0
theorem aaf:∀e∈iW,il (.str e.1) i8=false/\gF (.str e.1) "back"=0/\gF (.str e.1) "times"=0:=by decide +kernel
theorem aag{p:Int}{t:It2}(h:t.ok p):(gF t.head "back"+2*(if il t.head i8=true then(1:Int)else 0)+gF t.head "times"=(t.kids.length:Int))/\oZ t.head=true/\∀x:Str,DS t.head (.str x)=true:=by
 cases t with
 |num n=>exact⟨rfl,rfl,λ_=>rfl⟩
 |bu d=>
  cases d with
  |box x l r=>
   obtain⟨h1,h2,h3⟩:=aaf _ h;refine⟨?_,rfl,λ_=>rfl⟩;show gF (.str x) "back"+2*(if il (.str x) i8=true then(1:Int)else 0)+gF (.str x) "times"=0
   rw[h1,h2,h3];rfl
  |times n=>exact⟨by show gF (.str "times") "back"+2*(if il (.str "times") i8=true then(1:Int)else 0)+gF (.str "times") "times"=((1:Nat):Int);decide +kernel,rfl,λ_=>rfl⟩
  |back d=>exact⟨by show gF (.str "back") "back"+2*(if il (.str "back") i8=true then(1:Int)else 0)+gF (.str "back") "times"=((1:Nat):Int);decide +kernel,rfl,λ_=>rfl⟩
  |bt a b=>exact⟨by show gF (.str "beside") "back"+2*(if il (.str "beside") i8=true then(1:Int)else 0)+gF (.str "beside") "times"=((2:Nat):Int);decide +kernel,rfl,λ_=>rfl⟩
  |bj a b=>exact⟨by show gF (.str "then") "back"+2*(if il (.str "then") i8=true then(1:Int)else 0)+gF (.str "then") "times"=((2:Nat):Int);decide +kernel,rfl,λ_=>rfl⟩
def O5(_K:Frag):Sp:=λvs H Q _=>∃(p:Int)(aw:Addr)(d:Dw)(i:Nat)(t:It2),vs=[.ref aw,.int (i:Int)]/\H aw=some (.lst d.bb)/\d.ok p/\jA d i t/\d.bb.length<=200/\∀H',bh H H'->Q (.int ((i+t.bb.length:Nat):Int)) H'
theorem yJ:dD ["words","at","due","word"] ["words","at"] (cN Fl):=dU rfl rfl rfl (by decide +kernel) rfl
theorem aah{f:Addr}{fd:FuncData}(F:c9 K "_law_end" "_law_end" Fl f fd)(T:Txt mg):ck P w K mg base cA 1 f fd ["words","at"] (O5 K):=by
 refine F.ok yJ (λvs H Q E h=>?_) (λcI A outer s H vs Q E hr h=>?_)
 ·obtain⟨p,aw,d,i,t,rfl,_⟩:=h;rfl
 ·obtain⟨p,aw,d,i,t,rfl,hw,hd,hA,hl,q⟩:=h;have z2:2<=sizeLine:=by decide
  refine⟨_,bD (cx (i:=2) yJ.nd rfl (.inl rfl) bp) (bD (KA lq (cj uM (pv 2) bp (cm _)) (bD (cx (i:=3) yJ.nd rfl (.inl rfl) (bO (de K rfl) (pv 0) (pv 1))) (bD (cx (i:=2) yJ.nd rfl (.inl rfl) (bH gC (bH gC (bH gC (bH jZ (pv 2) bp) (oX Aa rfl T.int sH (bg (qD cS (pv 3) bI rfl) bq))) (bH qC bp (oX Aa rfl T.int sH (bg (qD (xC K rfl) (pv 3) (cK (bg bI (bg bI bq))) rfl) bq)))) (oX Aa rfl T.int sH (bg (qD cS (pv 3) bI rfl) bq)))) (bK (cx (i:=1) yJ.nd rfl (.inl rfl) (bH gC (pv 1) bp)))))) (bK (cE (pv 1)))),?_⟩;refine⟨λm σ H'=>bh H H'/\∃j s3,σ=[some (.ref aw),some (.int ((i+j:Nat):Int)),some (.int ((cD [t] j).length:Int)),s3]/\j<=t.bb.length/\m+j=t.bb.length,⟨t.bb.length,.refl _,0,none,rfl,gH _,rfl⟩,?_⟩;rintro m σ H1 ⟨sm,j,s3,rfl,hj,hm⟩;refine⟨_,rfl,_,_,rfl,rfl,_,rfl,lC (λcY=>?_) (λcY=>?_)⟩
  ·have cY:=aM cY;obtain⟨u,r',eu⟩:∃u r',cD [t] j=u::r':=by
    cases e:cD [t] j with
    |nil=>rw[e]at cY;exact absurd cY (by decide)
    |cons u r'=>exact⟨u,r',rfl⟩
   have jl:j<t.bb.length:=by
    rcases Nat.lt_or_ge j t.bb.length with h|h
    ·exact h
    ·have:j=t.bb.length:=by lia
     rw[this]at eu
     have:=yn (ts:=[t])
     rw[om,eu]at this;exact absurd this (by simp)
   have uA:=hA.sub eu;have uk:=jA.ok hd uA;obtain⟨k1,k2,k3⟩:=aag uk;have es:=Gn j [t] eu;refine⟨λσ' dY=>bh H dY/\∃j s3,σ'=[some (.ref aw),some (.int ((i+j:Nat):Int)),some (.int ((cD [t] j).length:Int)),s3]/\j<=t.bb.length/\(m-1)+j=t.bb.length,λσ' dY h=>⟨m-1,by lia,h⟩,?_⟩;refine⟨_,rfl,_,rfl,aw,_,((i+j:Nat):Int),u.head,rfl,rfl,dC.of (sm _ _ hw),cc uA.word,?_⟩;refine⟨_,rfl,_,_,rfl,rfl,_,rfl,k3 _,.inr ⟨_,rfl,?_⟩⟩;refine⟨_,_,rfl,rfl,_,rfl,z2,λt1 h1=>⟨t1,i8,rfl,.inl (.of bz),k2,rfl,.inr ⟨_,rfl,?_⟩⟩⟩;refine⟨_,_,rfl,rfl,.inl ⟨by decide,by decide⟩,_,_,rfl,rfl,_,rfl,k3 _,.inr ⟨_,rfl,?_⟩⟩;refine⟨_,_,rfl,rfl,?_⟩;refine⟨_,rfl,_,_,rfl,rfl,sm.trans (.upd h1),j+1,some u.head,?_,by lia,by lia⟩;show[some (V.ref aw),some (V.int (((i+j:Nat):Int)+1)),some (V.int (((cD [t] j).length:Int)-1+gF u.head "back"+2*(if il u.head i8=true then(1:Int)else 0)+gF u.head "times")),some u.head]=_
   have e1:(((i+j:Nat):Int)+1)=((i+(j+1):Nat):Int):=by lia
   have e2:((cD [t] j).length:Int)-1+gF u.head "back"+2*(if il u.head i8=true then(1:Int)else 0)+gF u.head "times"=((cD [t] (j+1)).length:Int):=by
    rw[es,eu,fj,cL];lia
   rw[e1,e2]
  ·have cY:¬(0:Int)<((cD [t] j).length:Int):=λh=>cY (aG h);have e0:cD [t] j=[]:=List.eq_nil_of_length_eq_zero (by lia);have jl:j=t.bb.length:=by
    have:=nv j [t]
    rw[e0,om]at this;have e:=ai List.length this;rw[nK]at e;simp only[List.flatMap_nil,List.length_nil]at e;lia
   subst jl;exact⟨_,rfl,q H1 sm⟩
end S21
namespace PySem.SeqAt
open MeetsSeq AutoSeq1 SeqRoads2
end PySem.SeqAt
namespace L2
open PySem PySem.Spec PyProof.Rows Bw PySem.SeqAt
end L2
namespace L2
open PySem PySem.Spec PyProof.Rows
variable{I a:Addr}{Q:QV}{xs:Array Value}
namespace Rv
theorem owner:Manifest.owners.lookup (String.ofList ['d','e','s','r','e','v','e','r'].reverse)=some Manifest.sig_reversed:=by kernel_rfl
theorem aai:Slot "reversed" "__init__" "object.__init__" :=
 .of (owner := "object") (n := "__init__") (by rw[aV,aW];kernel_rfl) (by decide +kernel) (by decide +kernel) (by decide +kernel) (by first|exact .inl (by decide +kernel)|exact .inr (by decide +kernel)) (by rw[aZ];kernel_rfl)
theorem yM:Slot "reversed" "__next__" "reversed.__next__" :=
 .of (owner := "reversed") (n := "__next__") (by rw[aV,aW];kernel_rfl) (by decide +kernel) (by decide +kernel) (by decide +kernel) (by first|exact .inl (by decide +kernel)|exact .inr (by decide +kernel)) (by rw[aZ];kernel_rfl)
theorem O6:Slot "reversed" "__iter__" "reversed.__iter__" :=
 .of (owner := "reversed") (n := "__iter__") (by rw[aV,aW];kernel_rfl) (by decide +kernel) (by decide +kernel) (by decide +kernel) (by first|exact .inl (by decide +kernel)|exact .inr (by decide +kernel)) (by rw[aZ];kernel_rfl)
theorem yN:Slot "reversed" "__length_hint__" "reversed.__length_hint__" :=
 .of (owner := "reversed") (n := "__length_hint__") (by rw[aV,aW];kernel_rfl) (by decide +kernel) (by decide +kernel) (by decide +kernel) (by first|exact .inl (by decide +kernel)|exact .inr (by decide +kernel)) (by rw[aZ];kernel_rfl)
theorem HX:typeLookup (.type "reversed") "__len__"=pure none:=by rw[aV,aW];kernel_rfl
theorem aaj:typeLookup (.type "tuple") "__reversed__"=pure none:=by rw[aV,aW];kernel_rfl
theorem O7:typeLookup (.type "tuple") "__getitem__"=pure (some (.builtin "tuple.__getitem__")):=by rw[aV,aW];kernel_rfl
theorem O8:entryFor table "reversed.__next__"=some Builtin.«reversed.__next__»:=entryFor_of_tree (by kernel_rfl)
theorem O9:entryFor table "reversed.__length_hint__"=some Builtin.«reversed.__length_hint__»:=entryFor_of_tree (by kernel_rfl)
theorem aak:entryFor table "reversed.__iter__"=some Builtin.«dict_keyiterator.__iter__» :=
 entryFor_alias (id' := "dict_keyiterator.__iter__") (by kernel_rfl) (by first|decide +kernel|rfl|(unfold String.splitOn;simp +decide [String.splitOnAux])) (by decide +kernel) (by kernel_rfl)
theorem Pa(a:Value):argsOk "reversed.__next__" ⟨[a],[]⟩:=by
 unfold argsOk;rw[signature?_of (id := "reversed.__next__") (n:=['_','_','t','x','e','n','_','_']) (o:=['d','e','s','r','e','v','e','r']) (by kernel_rfl) owner];kernel_rfl
theorem aal(a:Value):argsOk "reversed.__iter__" ⟨[a],[]⟩:=by
 unfold argsOk;rw[signature?_of (id := "reversed.__iter__") (n:=['_','_','r','e','t','i','_','_']) (o:=['d','e','s','r','e','v','e','r']) (by kernel_rfl) owner];kernel_rfl
theorem Pb(a:Value):argsOk "reversed.__length_hint__" ⟨[a],[]⟩:=by
 unfold argsOk;rw[signature?_of (id := "reversed.__length_hint__") (n:=['_','_','t','n','i','h','_','h','t','g','n','e','l','_','_']) (o:=['d','e','s','r','e','v','e','r']) (by kernel_rfl) owner];kernel_rfl
theorem called:TypeCalled "reversed" "reversed.__new__" "object.__init__" :=
 ⟨by decide +kernel,by decide +kernel,⟨_,_,F.mro_reversed⟩,F.made_reversed,by decide +kernel,by rw[aZ];kernel_rfl,aai⟩
end Rv
theorem Rv.aam:isSubtype (.type "tuple") (.type "dict")=pure false:=by rw[aZ];kernel_rfl
noncomputable def qY(t:Addr)(i:Int):Obj:={ cls:=.type "reversed",data:=.fields #[.ref t,rawInt i] }
theorem aan(t:Addr)(xs:Array Value)(hz:(xs.size:Int)<2^63) :
  Meets (Builtin.«reversed.__new__» ⟨[.type "reversed",.ref t],[]⟩) (λ_ R s=>IsTup s.heap t xs/\∀tk,R (.ok (.ret (.ref s.heap.objs.size))) { s with heap:=s.heap.push (qY t ((xs.size:Int)-1)),toks:=tk }):=
 .of_wp λprog w A R s hyp=>by
  obtain⟨h,g,dr,tk,os⟩:=s;obtain⟨ht,fin⟩:=hyp;have ty:Shared.TypeIs ⟨h,g,dr,tk,os⟩ (.ref t) "tuple":=by
   obtain⟨o,ho,hc,_⟩:=ht;exact⟨o,ho,hc⟩
  have aen:=F.sub_reversed_self;have n0:=Rv.aam;have n1:=Rv.aaj;have n2:=Rv.O7;wp_walk using len_tuple ht hz
  exact⟨_,rfl,fin _⟩
section
variable{prog:Program}{w:World}{A:Around}{E:QV}{s:Shared}
theorem aao{t:Addr}(ht:IsTup s.heap t xs)(hz:(xs.size:Int)<2^63)
  (q:∀tk,Q (.ref s.heap.objs.size) { s with heap:=s.heap.push (qY t ((xs.size:Int)-1)),toks:=tk }):wpAny (model prog w) A (call (.type "reversed") [.ref t]) Q E s:=
 callType_new Rv.called (by decide) (F.typeCall_reversed_1 _) (F.newCall_reversed_1 _) (λv=>F.args_object_init_2 v _) F.entry_reversed_new (aan t xs hz) ⟨ht,λtk=>⟨⟨_,gT _ rfl,rfl⟩,q tk⟩⟩
def oo(h:Heap)(a t:Addr)(i:Int):Prop:=h.get? a=some (qY t i)
theorem aap{t:Addr}{i:Nat}{x:Value}{Q:Option Value->Shared->Prop}(hr:oo s.heap a t (i:Int))(ht:IsTup s.heap t xs)(hx:xs[i]?=some x)(hz:(xs.size:Int)<2^63)
  (hQ:∀h' tk,oo h' a t ((i:Int)-1)->(∀b o,b≠a->s.heap.get? b=some o->h'.get? b=some o)->Q (some x) { s with heap:=h',toks:=tk }):wpAny (model prog w) A (pyNext (.ref a)) Q E s:=by
 have ty:s.TypeIs (.ref a) "reversed":=⟨_,hr,rfl⟩;have tt:s.TypeIs (.ref t) "tuple":=by
  obtain⟨o,ho,hc,_⟩:=ht;exact⟨o,ho,hc⟩
 refine LV ty Rv.yM (aE Rv.yM ty Rv.O8 ?_ (Rv.Pa _));have hi:i<xs.size:=(Dq.mp hx).1;unfold Builtin.«reversed.__next__»;refine ak (wpAny_of_eq (a:=(Value.ref a,[])) rfl ?_);dsimp only;refine ak (aB hr rfl (x:=.ref t) rfl ?_);refine ak (aB hr rfl (x:=rawInt (i:Int)) rfl ?_);have pos:¬(i:Int)<0:=by lia
 show wpAny _ _ (ite ((i:Int)<0) _ _) _ _ s;rw[af pos];refine ak (aK tt Rv.O7 ?_);show wpAny _ _ (if(false=true)then _ else _) _ _ s
 rw[af (by decide)];refine ak (wpAny_mkInt (ak (aH (getItem_tuple (j:=i) ht (by lia) (by lia) (by unfold seqIndex?;simp;lia) hx ?_))));refine ak (aB hr rfl (x:=rawInt (i:Int)) rfl ?_);show wpAny _ _ (setField (.ref a) 1 (rawInt ((i:Int)-1)) >>= _) _ _ _;refine ak (aT hr rfl (by simp) ?_);refine au ⟨x,rfl,hQ _ _ ?_ λb o hb e=>(nL _ _ (fe hb)).trans e⟩;exact(rN _ hr rfl).trans rfl
theorem aaq{t:Addr}{Q:Option Value->Shared->Prop}(hh:A.handled=none)(hr:oo s.heap a t (-1))
  (hQ:∀h',(∀b o,b≠a->s.heap.get? b=some o->h'.get? b=some o)->Q none { s with heap:=h' }):wpAny (model prog w) A (pyNext (.ref a)) Q E s:=by
 obtain⟨hp,g,d,tk,os⟩:=s;have ty:Shared.TypeIs ⟨hp,g,d,tk,os⟩ (.ref a) "reversed":=⟨_,hr,rfl⟩;have hh':A.in1.handled=none:=hh;refine LV ty Rv.yM (aE Rv.yM ty Rv.O8 ?_ (Rv.Pa _));wp_walk using uj hr
 unfold raiseNew;refine ak (wpAny_handled (hh'.symm▸?_));refine ak (au (wpAny_throw ⟨_,_,rfl,gT _ rfl,rfl,hQ _ λb o hb e=>?_⟩));exact dJ _ (dJ _ ((nL _ _ (fe hb)).trans ((nL _ _ (fe hb)).trans e)))
theorem Pc{t:Addr}{i:Int}(hr:oo s.heap a t i)(h:Q (.ref a) s):wpAny (model prog w) A (pyIter (.ref a)) Q E s:=by
 have ty:s.TypeIs (.ref a) "reversed":=⟨_,hr,rfl⟩;refine wpAny_pyIter_slot ty Rv.O6 (aE Rv.O6 ty Rv.aak ?_ (Rv.aal _));show wpAny _ _ (ret (Value.ref a)) _ _ _;exact au ⟨_,rfl,"reversed",_,ty,Rv.yM.lookup,h⟩
theorem Rv.asI(n:Int)(tk:Tok):asInt? (Value.int n tk)=pure (some n):=rfl
theorem aar{t:Addr}{Q:Bool->Shared->Prop}(hr:oo s.heap a t ((xs.size:Int)-1))(ht:IsTup s.heap t xs)(hz:xs.size<=sizeLine)
  (h:∀tk,Q ((xs.size:Int) != 0) { s with toks:=tk }):wpAny (model prog w) A (Builtin.List.listLengthHint (.ref a)) Q E s:=by
 have ty:s.TypeIs (.ref a) "reversed":=⟨_,hr,rfl⟩;refine ak (aK ty Rv.HX ?_);show wpAny _ _ (specialOf (Value.ref a) (Str.ofString "__length_hint__") >>= _) _ _ _;refine ak (aK ty Rv.yN.lookup ?_);have hs:splitId "reversed.__length_hint__"=some ("reversed","__length_hint__"):=by kernel_rfl
 dsimp only;rw[hs];refine ak (wpAny_isInstance (T := "reversed") (b:=true) ty F.sub_reversed_self ?_);rw[af (by decide),af (by decide +kernel)];refine ak (wpAny_rule ?_);refine ak (wpAny_of_eq (Rv.yN.bind _) ?_);dsimp only;refine ak (aH (aE Rv.yN ty Rv.O9 ?_ (Rv.Pb _)));unfold Builtin.«reversed.__length_hint__»;refine ak (wpAny_of_eq (a:=Value.ref a) rfl ?_);refine ak (aB hr rfl (x:=.ref t) rfl ?_);have aas:¬(Value.ref t==Value.none)=true:=gN;rw[af aas];have Pd:(sizeLine:Int)<2^63:=by decide
 refine ak (len_tuple ht (by lia) ?_);refine ak (wpAny_of_eq (a:=some (xs.size:Int)) rfl ?_);dsimp only;refine ak (aB hr rfl (x:=rawInt ((xs.size:Int)-1)) rfl ?_);show wpAny _ _ (if(xs.size:Int)<(xs.size:Int)-1+1 then _ else _) _ _ _
 rw[af (by lia)];refine ak (wpAny_mkInt ?_);refine au ⟨_,rfl,?_⟩;have e1:(xs.size:Int)-1+1=(xs.size:Int):=by lia
 rw[e1];show wpAny _ _ (asInt? (Value.int (xs.size:Int) _) >>= _) _ _ _;rw[Rv.asI,pure_bind];dsimp only;rw[af (by
  have:Builtin.List.listFitsIndex (xs.size:Int)=true:=fitsIndex_both (by lia) (by lia)
  rw[this];decide),af (by lia),af (by
  rw[Int.toNat_natCast,Eb hz];decide)]
 exact au (h _)
end
theorem tP{h:Heap}{b:Addr}{o o':Obj}(e1:h.get? a=some o)(e2:h.get? b=some o')(hc:o.cls≠o'.cls):a≠b:=λe=>by
 subst e;rw[e1]at e2;exact hc (ai Obj.cls (eF e2))
theorem aat{prog:Program}{w:World}{A:Around}(hh:A.handled=none)(I t:Addr)(dX:t≠I)(xs:Array Value)(hz:xs.size<=sizeLine) :
  Walks prog w A I [I,t] [I] xs.size (λi v=>xs[xs.size-1-i]?=some v) (λi h=>i<=xs.size/\oo h I t ((xs.size:Int)-1-(i:Int))/\IsTup h t xs) where
 sub:=λb hb=>dI.mpr (.inl (dP.mp hb))
 frame:=λ_ _ _ x hk=>⟨x.1,hk I (by simp) _ x.2.1,by
  obtain⟨o,ho,r⟩:=x.2.2;exact⟨o,hk t (by simp) o ho,r⟩⟩
 item:=λi s Q E hi (x:_/\_/\_) hQ=>by
  have Pd:(sizeLine:Int)<2^63:=by decide
  have e:(xs.size:Int)-1-(i:Int)=((xs.size-1-i:Nat):Int):=by lia
  have hit:=x.2.1;rw[e]at hit;have hx:xs[xs.size-1-i]?=some (xs[xs.size-1-i]'(by lia)):=pM (by lia);refine aap hit x.2.2 hx (by lia) λh' tk Pe Pf=>?_;have e2:((xs.size-1-i:Nat):Int)-1=(xs.size:Int)-1-((i+1:Nat):Int):=by lia
  rw[e2]at Pe;refine hQ _ h' tk hx ⟨hi,Pe,?_⟩ λb o hb eo=>Pf b o (λh=>hb (by simp[h])) eo;obtain⟨o,ho,r⟩:=x.2.2;exact⟨o,Pf t o dX ho,r⟩
 done:=λs Q E x hQ=>by
  have e:(xs.size:Int)-1-(xs.size:Int)=-1:=by lia
  have hit:=x.2.1;rw[e]at hit;exact aaq hh hit λh' G4=>hQ h' s.toks λb o hb eo=>G4 b o (λh=>hb (by simp[h])) eo
 self:=λ_ _ _ _ x hQ=>Pc x.2.1 hQ
section
variable{prog:Program}{w:World}{A:Around}{E:QV}{s:Shared}{R:Result->Shared->Prop}
theorem Pg(hh:A.handled=none){t S:Addr}(hz:xs.size<=sizeLine){c tk:Nat}{h:Heap}(hr:oo h I t ((xs.size:Int)-1))(ht:IsTup h t xs)(hS:h.get? S=some { cls:=.type "list",data:=.seq #[] c })
  (hR:∀h' tk acc c',(∀b o,b≠S->b≠I->h.get? b=some o->h'.get? b=some o)->h'.get? S=some { cls:=.type "list",data:=.seq acc c' }->ItemsOf (λi v=>xs[xs.size-1-i]?=some v) acc xs.size->R (.ok (.ret .none)) { s with heap:=h',toks:=tk }) :
  codeAny (model prog w) A (.builtin "list.extend.loop" ⟨[.ref S,.ref I,.none],[]⟩) R { s with heap:=h,toks:=tk }:=by
 obtain⟨o,ho,hc,hd⟩:=id ht;have eC:S ∉ [I,t]:=by
  have n1:S≠I:=tP hS hr (show Value.type "list" ≠ Value.type "reversed" by decide);have n2:S≠t:=tP hS ho (by rw[hc];exact(show Value.type "list" ≠ Value.type "tuple" by decide));simp[n1,n2]
 have W:=(aat (prog:=prog) (w:=w) (A:=A.in1) hh I t (tP ho hr (by rw[hc];exact(show Value.type "tuple" ≠ Value.type "reversed" by decide))) xs hz).toS;have xE:oo h I t ((xs.size:Int)-1-((0:Nat):Int)):=by simpa using hr
 refine codeAny_extend_loopS W hz S eC .none xs.size 0 _ #[] c rfl (gH _) ⟨gH _,xE,ht⟩ hS (ItemsOf.nil _) λs' acc c' mv eS items=>?_;rw[Moved.eq_with mv];refine hR s'.heap s'.toks acc c' (λb o hb hi e=>mv.heap b o (λz=>?_) e) eS items;simp only[dI,uq,or_false]at z;exact z.elim hb hi
theorem aau(hh:A.handled=none){t S:Addr}(hz:xs.size<=sizeLine)(hr:oo s.heap I t ((xs.size:Int)-1))(ht:IsTup s.heap t xs)(hS:s.heap.get? S=some { cls:=.type "list",data:=.seq #[] })
  (hR:∀h' tk acc c',(∀b o,b≠S->b≠I->s.heap.get? b=some o->h'.get? b=some o)->h'.get? S=some { cls:=.type "list",data:=.seq acc c' }->ItemsOf (λi v=>xs[xs.size-1-i]?=some v) acc xs.size->R (.ok (.ret .none)) { s with heap:=h',toks:=tk }) :
  wpAny (model prog w) A.in1 (Builtin.«list.__init__» ⟨[.ref S,.ref I],[]⟩)
   (λe s'=>match e with
    | .done v=>R (.ok v) s'
    | .again c=>c.quiet=true/\codeAny (model prog w) A c R s') (λe s'=>R (.error e) s') s:=by
 obtain⟨hp,g,d,tk,os⟩:=s;obtain⟨o,ho,hc,hd⟩:=id ht;have n1:S≠I:=tP hS hr (show Value.type "list" ≠ Value.type "reversed" by decide);have n2:S≠t:=tP hS ho (by rw[hc];exact(show Value.type "list" ≠ Value.type "tuple" by decide));have keep:∀{h:Heap}{f:Obj->Obj}{b:Addr}{o:Obj},b≠S->h.get? b=some o->(h.update S f).get? b=some o:=λhb e=>(nL _ _ (fe hb)).trans e;wp_walk using uj hS
 have tR:=rN (Obj.mapSeq λ_:Array Value=>(#[]:Array Value)) hS rfl;have lI:oo (hp.update S (Obj.mapSeq λ_=>#[])) I t ((xs.size:Int)-1):=keep (fe n1) hr;have px:IsTup (hp.update S (Obj.mapSeq λ_=>#[])) t xs:=⟨o,keep (fe n2) ho,hc,hd⟩;have k1:∀b o,b≠S->hp.get? b=some o->(hp.update S (Obj.mapSeq λ_=>#[])).get? b=some o:=λb o hb e=>keep hb e;generalize hp.update S (Obj.mapSeq λ_=>#[])=h1 at tR lI px k1 |-;have same:Builtin.List.listSameRef (.ref S) (.ref I)=false:=by simp[Builtin.List.listSameRef,n1]
 wp_walk using uj lI
 rw[same,af (by show ¬(false||Value.type "reversed"==Value.type "list"||Value.type "reversed"==Value.type "tuple")=true;decide)];refine ak (Pc lI (ak (ao (aar lI px hz λvH=>wpAny_ite_split (λ_=>?_) λ_=>?_))))
 ·wp_walk using uj tR
  have hS2:=rN (Obj.mapSeq λx=>x.pop) (rN (Obj.mapSeq λx=>x.push Value.none) tR rfl) rfl;exact⟨aX F.plain_extend_loop _,Pg hh hz (keep (fe n1) (keep (fe n1) lI)) (let ⟨o,ho,r⟩:=px;⟨o,keep (fe n2) (keep (fe n2) ho),r⟩) hS2 λh' tk acc c' k' e' i'=>hR h' tk acc c' (λb o hb hi e=>k' b o hb hi (keep hb (keep hb (k1 b o hb e)))) e' i'⟩
 ·exact au ⟨aX F.plain_extend_loop _,Pg hh hz lI px tR λh' tk acc c' k' e' i'=>hR h' tk acc c' (λb o hb hi e=>k' b o hb hi (k1 b o hb e)) e' i'⟩
theorem aav(hh:A.handled=none){t:Addr}(hz:xs.size<=sizeLine)(hr:oo s.heap I t ((xs.size:Int)-1))(ht:IsTup s.heap t xs)
  (hQ:∀h' tk acc c',(∀b o,b≠I->s.heap.get? b=some o->h'.get? b=some o)->h'.get? s.heap.objs.size=some { cls:=.type "list",data:=.seq acc c' }->ItemsOf (λi v=>xs[xs.size-1-i]?=some v) acc xs.size->Q (.ref s.heap.objs.size) { s with heap:=h',toks:=tk }) :
  wpAny (model prog w) A (call (.type "list") [.ref I]) Q E s:=by
 have new:(s.heap.push { cls:=.type "list",data:=.seq #[] }).get? s.heap.objs.size=some { cls:=.type "list",data:=.seq #[] }:=gT _ rfl;have up:∀{b o},s.heap.get? b=some o->(s.heap.push { cls:=.type "list",data:=.seq #[] }).get? b=some o:=λe=>dJ _ e;refine callType_codes F.called_list (F.typeCall_list_1 _) F.entry_list_init (code_list_new (Q₁:=λv s₁=>v=.ref s.heap.objs.size/\s₁={ s with heap:=s.heap.push { cls:=.type "list",data:=.seq #[] } }) _ ⟨rfl,rfl⟩) ?_;rintro _ _ ⟨rfl,rfl⟩;refine⟨⟨_,new,rfl⟩,F.args_list_init_2 _ _,aau (A:=A.in1) hh hz (up hr) (let ⟨o,ho,r⟩:=ht;⟨o,up ho,r⟩) new λh' tk acc c' k e i=>⟨rfl,hQ h' tk acc c' (λb o hb e'=>k b o (fK (dH e')) hb (up e')) e i⟩⟩
end
def Ph(K:Frag)(ta:TE):TE:=λσ H Q=>ta σ H λx H1=>∃t xs,x=.ref t/\cg K H1 t xs/\∀l,H1 l=none->Q (.ref l) (upd H1 l (.lst xs.reverse))
theorem Pj{its:List Value}{acc:Array Value}(h:ItemsOf (λi v=>its.toArray[its.toArray.size-1-i]?=some v) acc its.toArray.size):acc.toList=its.reverse:=by
 have hsz:acc.size=its.length:=by have:=h.1;simpa using this
 refine List.ext_getElem? λi=>?_;by_cases hi:i<its.length
 ·have e:=h.2 i acc[i] (by simp[hsz,hi]);have e2:acc.toList[i]?=some acc[i]:=by simp[hsz,hi]
  rw[e2,List.getElem?_reverse hi];simpa using e.symm
 ·rw[zF (by simp;lia),zF (by simp;lia)]
theorem aaw{X:Cx}(K:Frag)(hK:X.K=K)(hc:X.calm=true){e:Expr}{te:TE}{p1 p2 q1 q2:Pos}(hl:Gl X "list")(vK:X.mg "list"=none)(hr:Gl X "reversed")(HY:X.mg "reversed"=none)(he:PE X e te)
  (yO:starEach [Expr.Call (.Name "reversed" p2) [e] [] q2] X.env=[(false,eval (.Call (.Name "reversed" p2) [e] [] q2) X.env)]:=by rfl) (lG:starEach [e] X.env=[(false,eval e X.env)]:=by rfl) :
  PE X (.Call (.Name "list" p1) [.Call (.Name "reversed" p2) [e] [] q2] [] q1) (Ph K te):=by
 subst hK;intro bc s σ H Q I h;refine az (pR I hl vK EA ?_);refine wF ?_ (by rw[yO];rfl) rfl;rw[yO];show wpAny _ _ (spliced ((false,eval (.Call (.Name "reversed" p2) [e] [] q2) X.env)::[])) _ _ s;refine qr (az (pR I hr HY (show bootBuiltins "reversed"=some (.type "reversed") by decide +kernel) ?_));refine wF ?_ (by rw[lG];rfl) rfl;rw[lG];show wpAny _ _ (spliced ((false,eval e X.env)::[])) _ _ s;refine qr (bj (he bc s σ H _ I h) λu s1 ⟨x,H1,I1,r1,t,xs,hx,hq,q⟩=>?_);subst hx;cases r1;refine ug ?_;obtain⟨its,rv,ht,hz⟩:=I1.tuple hq;have cT:=rv.length;have Pd:(sizeLine:Int)<2^63:=by decide
 refine aao ht (by simp only[dR];lia) λtk=>?_;refine ug ?_;have up:∀b o,s1.heap.get? b=some o->(s1.heap.push (qY t ((its.toArray.size:Int)-1))).get? b=some o:=λb o e=>dJ _ e;have tT:(s1.heap.push (qY t ((its.toArray.size:Int)-1))).objs.size=s1.heap.objs.size+1:=Heap.size_push ..;have vh:(s1.heap.push (qY t ((its.toArray.size:Int)-1))).get? s1.heap.objs.size=some (qY t ((its.toArray.size:Int)-1)):=gT _ rfl;generalize s1.heap.push (qY t ((its.toArray.size:Int)-1))=hp at up tT vh;refine aav (s:={ s1 with heap:=hp,toks:=tk }) (I1.ok.hd hc) (xs:=its.toArray) (by rw[dR];lia) vh (ht.keeps up) λh' vH acc c' hk hS yQ=>?_;have k2:∀b o,s1.heap.get? b=some o->h'.get? b=some o:=λb o e=>hk b o (fK (dH e)) (up b o e);have I2:Inv X bc σ H1 { s1 with heap:=h',toks:=vH }:=I1.kept k2;have fr:H1 hp.objs.size=none:=I1.bZ.fresh (by rw[tT];exact Nat.le_succ _);have f:je X bc H1 hp.objs.size:=I1.l8 (by rw[tT];exact Nat.le_succ _) fr;have I3:=I2.xx (o:=.lst xs.reverse) f ⟨by rw[qt];exact hz,acc.toList,c',by rw[Pj yQ];exact rv.reverse,hS⟩;exact⟨.ref _,_,I3,rfl,q _ fr⟩
end L2
namespace L2
open PySem PySem.Spec PyProof.Rows
variable{I:Addr}{xs:Array Value}
namespace Rl
theorem yN:Slot "list_reverseiterator" "__length_hint__" "list_reverseiterator.__length_hint__" :=
 .of (owner := "list_reverseiterator") (n := "__length_hint__") (by rw[aV,aW];kernel_rfl) (by decide +kernel) (by decide +kernel) (by decide +kernel) (by first|exact .inl (by decide +kernel)|exact .inr (by decide +kernel)) (by rw[aZ];kernel_rfl)
theorem HX:typeLookup (.type "list_reverseiterator") "__len__"=pure none:=by rw[aV,aW];kernel_rfl
theorem O9:entryFor table "list_reverseiterator.__length_hint__"=some Builtin.«list_reverseiterator.__length_hint__»:=entryFor_of_tree (by kernel_rfl)
theorem self:isSubtype (.type "list_reverseiterator") (.type "list_reverseiterator")=pure true:=by rw[aZ];kernel_rfl
theorem Pb(a:Value):argsOk "list_reverseiterator.__length_hint__" ⟨[a],[]⟩:=by
 unfold argsOk;rw[signature?_of (id := "list_reverseiterator.__length_hint__") (n:=['_','_','t','n','i','h','_','h','t','g','n','e','l','_','_']) (o:=['r','o','t','a','r','e','t','i','e','s','r','e','v','e','r','_','t','s','i','l']) (by kernel_rfl) F.owner_lri];kernel_rfl
end Rl
def qZ(h:Heap)(a t:Addr)(i:Int):Prop:=h.get? a=some (revObj t i)
theorem qZ.it{h:Heap}{a t:Addr}{i:Int}(x:qZ h a t i):h.IsRevIter a t i:=⟨_,x,rfl,rfl⟩
section
variable{prog:Program}{w:World}{A:Around}{E:QV}{s:Shared}
theorem aax{a t:Addr}{i:Int}{Q:Bool->Shared->Prop}(hr:qZ s.heap a t i)(h:Q false s):wpAny (model prog w) A (Builtin.List.listLengthHint (.ref a)) Q E s:=by
 have ty:s.TypeIs (.ref a) "list_reverseiterator":=⟨_,hr,rfl⟩;refine ak (aK ty Rl.HX ?_);show wpAny _ _ (specialOf (Value.ref a) (Str.ofString "__length_hint__") >>= _) _ _ _;refine ak (aK ty Rl.yN.lookup ?_);have hs:splitId "list_reverseiterator.__length_hint__"=some ("list_reverseiterator","__length_hint__"):=by kernel_rfl
 dsimp only;rw[hs];refine ak (wpAny_isInstance (T := "list_reverseiterator") (b:=true) ty Rl.self ?_);rw[af (by decide),ae (by decide +kernel)];exact au h
end
section
variable{prog:Program}{w:World}{A:Around}{E:QV}{s:Shared}{R:Result->Shared->Prop}
theorem aay(hh:A.handled=none){t S:Addr}(n1:S≠I)(n2:S≠t)(n3:t≠I)(hz:xs.size<=sizeLine){c tk:Nat}{h:Heap}(hr:qZ h I t ((xs.size:Int)-1))(ht:h.IsList t xs)(hS:h.get? S=some { cls:=.type "list",data:=.seq #[] c })
  (hR:∀h' tk acc c',(∀b o,b≠S->b≠I->h.get? b=some o->h'.get? b=some o)->h'.get? S=some { cls:=.type "list",data:=.seq acc c' }->ItemsOf (λi v=>xs[xs.size-1-i]?=some v) acc xs.size->R (.ok (.ret .none)) { s with heap:=h',toks:=tk }) :
  codeAny (model prog w) A (.builtin "list.extend.loop" ⟨[.ref S,.ref I,.none],[]⟩) R { s with heap:=h,toks:=tk }:=by
 have eC:S ∉ [I,t]:=by simp[n1,n2]
 have W:=(Walks.listRev (prog:=prog) (w:=w) (A:=A.in1) hh I t n3 xs).toS;have xE:h.IsRevIter I t ((xs.size:Int)-1-((0:Nat):Int)):=by simpa using hr.it
 refine codeAny_extend_loopS W hz S eC .none xs.size 0 _ #[] c rfl (gH _) ⟨gH _,xE,ht⟩ hS (ItemsOf.nil _) λs' acc c' mv eS items=>?_;rw[Moved.eq_with mv];refine hR s'.heap s'.toks acc c' (λb o hb hi e=>mv.heap b o (λz=>?_) e) eS items;simp only[dI,uq,or_false]at z;exact z.elim hb hi
theorem aaz(hh:A.handled=none){t S:Addr}(n2:S≠t)(hz:xs.size<=sizeLine)(hr:qZ s.heap I t ((xs.size:Int)-1))(ht:s.heap.IsList t xs)(hS:s.heap.get? S=some { cls:=.type "list",data:=.seq #[] })
  (hR:∀h' tk acc c',(∀b o,b≠S->b≠I->s.heap.get? b=some o->h'.get? b=some o)->h'.get? S=some { cls:=.type "list",data:=.seq acc c' }->ItemsOf (λi v=>xs[xs.size-1-i]?=some v) acc xs.size->R (.ok (.ret .none)) { s with heap:=h',toks:=tk }) :
  wpAny (model prog w) A.in1 (Builtin.«list.__init__» ⟨[.ref S,.ref I],[]⟩)
   (λe s'=>match e with
    | .done v=>R (.ok v) s'
    | .again c=>c.quiet=true/\codeAny (model prog w) A c R s') (λe s'=>R (.error e) s') s:=by
 obtain⟨hp,g,d,tk,os⟩:=s;obtain⟨o,ho,hc,hd⟩:=id ht;have n1:S≠I:=tP hS hr (show Value.type "list" ≠ Value.type "list_reverseiterator" by decide);have n3:t≠I:=tP ho hr (by rw[hc];exact(show Value.type "list" ≠ Value.type "list_reverseiterator" by decide));have keep:∀{h:Heap}{f:Obj->Obj}{b:Addr}{o:Obj},b≠S->h.get? b=some o->(h.update S f).get? b=some o:=λhb e=>(nL _ _ (fe hb)).trans e;wp_walk using uj hS
 have tR:=rN (Obj.mapSeq λ_:Array Value=>(#[]:Array Value)) hS rfl;have lI:qZ (hp.update S (Obj.mapSeq λ_=>#[])) I t ((xs.size:Int)-1):=keep (fe n1) hr;have px:(hp.update S (Obj.mapSeq λ_=>#[])).IsList t xs:=⟨o,keep (fe n2) ho,hc,hd⟩;have k1:∀b o,b≠S->hp.get? b=some o->(hp.update S (Obj.mapSeq λ_=>#[])).get? b=some o:=λb o hb e=>keep hb e;generalize hp.update S (Obj.mapSeq λ_=>#[])=h1 at tR lI px k1 |-;have same:Builtin.List.listSameRef (.ref S) (.ref I)=false:=by simp[Builtin.List.listSameRef,n1]
 wp_walk using uj lI
 rw[same,af (by show ¬(false||Value.type "list_reverseiterator"==Value.type "list"||Value.type "list_reverseiterator"==Value.type "tuple")=true;decide)];refine ak (wpAny_pyIter_revIter (qZ.it lI) (ak (ao (aax lI (wpAny_ite_split (λz=>nomatch z) λ_=>?_)))));exact au ⟨aX F.plain_extend_loop _,aay hh n1 n2 n3 hz lI px tR λh' tk acc c' k' e' i'=>hR h' tk acc c' (λb o hb hi e=>k' b o hb hi (k1 b o hb e)) e' i'⟩
theorem aaA(hh:A.handled=none){Q:QV}{t:Addr}(hz:xs.size<=sizeLine)(hr:qZ s.heap I t ((xs.size:Int)-1))(ht:s.heap.IsList t xs)
  (hQ:∀h' tk acc c',(∀b o,b≠I->s.heap.get? b=some o->h'.get? b=some o)->h'.get? s.heap.objs.size=some { cls:=.type "list",data:=.seq acc c' }->ItemsOf (λi v=>xs[xs.size-1-i]?=some v) acc xs.size->Q (.ref s.heap.objs.size) { s with heap:=h',toks:=tk }) :
  wpAny (model prog w) A (call (.type "list") [.ref I]) Q E s:=by
 have new:(s.heap.push { cls:=.type "list",data:=.seq #[] }).get? s.heap.objs.size=some { cls:=.type "list",data:=.seq #[] }:=gT _ rfl;have up:∀{b o},s.heap.get? b=some o->(s.heap.push { cls:=.type "list",data:=.seq #[] }).get? b=some o:=λe=>dJ _ e;have n2:s.heap.objs.size≠t:=let ⟨_,ho,_⟩:=ht;(fK (dH ho)).symm;refine callType_codes F.called_list (F.typeCall_list_1 _) F.entry_list_init (code_list_new (Q₁:=λv s₁=>v=.ref s.heap.objs.size/\s₁={ s with heap:=s.heap.push { cls:=.type "list",data:=.seq #[] } }) _ ⟨rfl,rfl⟩) ?_;rintro _ _ ⟨rfl,rfl⟩;refine⟨⟨_,new,rfl⟩,F.args_list_init_2 _ _,aaz (A:=A.in1) hh n2 hz (up hr) (ht.at λo e=>up e) new λh' tk acc c' k e i=>⟨rfl,hQ h' tk acc c' (λb o hb e'=>k b o (fK (dH e')) hb (up e')) e i⟩⟩
end
def Pk(K:Frag)(ta:TE):TE:=λσ H Q=>ta σ H λx H1=>∃t xs,x=.ref t/\dC K H1 t xs/\∀l,H1 l=none->Q (.ref l) (upd H1 l (.lst xs.reverse))
theorem aaB{X:Cx}(K:Frag)(hK:X.K=K)(hc:X.calm=true){e:Expr}{te:TE}{p1 p2 q1 q2:Pos}(hl:Gl X "list")(vK:X.mg "list"=none)(hr:Gl X "reversed")(HY:X.mg "reversed"=none)(he:PE X e te)
  (yO:starEach [Expr.Call (.Name "reversed" p2) [e] [] q2] X.env=[(false,eval (.Call (.Name "reversed" p2) [e] [] q2) X.env)]:=by rfl) (lG:starEach [e] X.env=[(false,eval e X.env)]:=by rfl) :
  PE X (.Call (.Name "list" p1) [.Call (.Name "reversed" p2) [e] [] q2] [] q1) (Pk K te):=by
 subst hK;intro bc s σ H Q I h;refine az (pR I hl vK EA ?_);refine wF ?_ (by rw[yO];rfl) rfl;rw[yO];show wpAny _ _ (spliced ((false,eval (.Call (.Name "reversed" p2) [e] [] q2) X.env)::[])) _ _ s;refine qr (az (pR I hr HY (show bootBuiltins "reversed"=some (.type "reversed") by decide +kernel) ?_));refine wF ?_ (by rw[lG];rfl) rfl;rw[lG];show wpAny _ _ (spliced ((false,eval e X.env)::[])) _ _ s;refine qr (bj (he bc s σ H _ I h) λu s1 ⟨x,H1,I1,r1,t,xs,hx,hq,q⟩=>?_);subst hx;cases r1;refine ug ?_;obtain⟨its,rv,p,hz⟩:=I1.list hq;have ht:=p.isList;have cT:=rv.length;refine call_reversed_list ht ?_;refine ug ?_;have up:∀b o,s1.heap.get? b=some o->(s1.heap.push (revObj t ((its.toArray.size:Int)-1))).get? b=some o:=λb o e=>dJ _ e;have tT:(s1.heap.push (revObj t ((its.toArray.size:Int)-1))).objs.size=s1.heap.objs.size+1:=Heap.size_push ..;have vh:(s1.heap.push (revObj t ((its.toArray.size:Int)-1))).get? s1.heap.objs.size=some (revObj t ((its.toArray.size:Int)-1)):=gT _ rfl;generalize s1.heap.push (revObj t ((its.toArray.size:Int)-1))=hp at up tT vh;refine aaA (s:={ s1 with heap:=hp }) (I1.ok.hd hc) (xs:=its.toArray) (by rw[dR];lia) vh (ht.at λo e=>up _ o e) λh' vH acc c' hk hS yQ=>?_;have k2:∀b o,s1.heap.get? b=some o->h'.get? b=some o:=λb o e=>hk b o (fK (dH e)) (up b o e);have I2:Inv X bc σ H1 { s1 with heap:=h',toks:=vH }:=I1.kept k2;have fr:H1 hp.objs.size=none:=I1.bZ.fresh (by rw[tT];exact Nat.le_succ _);have f:je X bc H1 hp.objs.size:=I1.l8 (by rw[tT];exact Nat.le_succ _) fr;have I3:=I2.xx (o:=.lst xs.reverse) f ⟨by rw[qt];exact hz,acc.toList,c',by rw[Pj yQ];exact rv.reverse,hS⟩;exact⟨.ref _,_,I3,rfl,q _ fr⟩
end L2
namespace S21
open PySem L2 Bw
variable{D:Ends}{H H0:Hp}{ds:List Dw}{hl rl:Addr}{j:Nat}{u:TS}{us ws:List V}{x:Str}{σ:St}
inductive cy(K:Frag)(H:Hp):V->Dw->Prop where
 |box {a:Addr} {x:Str} {l r:Nat}:cg K H a [.str x]->cy K H (.ref a) (.box x l r)
 |times {a:Addr} {n:Int}:cg K H a [.str "times",.int n]->cy K H (.ref a) (.times n)
 |back {a:Addr} {v:V} {d:Dw}:cg K H a [.str "back",v]->cy K H v d->cy K H (.ref a) (.back d)
 |bt {a:Addr} {u v:V} {d e:Dw}:cg K H a [.str "beside",u,v]->cy K H u d->cy K H v e->cy K H (.ref a) (.bt d e)
 |bj {a:Addr} {u v:V} {d e:Dw}:cg K H a [.str "then",u,v]->cy K H u d->cy K H v e->cy K H (.ref a) (.bj d e)
inductive kf(K:Frag)(H:Hp):List V->List Dw->Prop where
 |nil:kf K H [] []
 |cons {v:V} {d:Dw} {vs:List V} {ds:List Dw}:cy K H v d->kf K H vs ds->kf K H (v::vs) (d::ds)
section
variable{K:Frag}{H H':Hp}
theorem cy.tup{v:V}{d:Dw}(h:cy K H v d)(s:df H H'):cy K H' v d:=by
 induction h with
 |box g=>exact .box (s.cV g)
 |times g=>exact .times (s.cV g)
 |back g _ i=>exact .back (s.cV g) i
 |bt g _ _ i j=>exact .bt (s.cV g) i j
 |bj g _ _ i j=>exact .bj (s.cV g) i j
theorem kf.tup{vs:List V}{ds:List Dw}(h:kf K H vs ds)(s:df H H'):kf K H' vs ds:=by
 induction h with
 |nil=>exact .nil
 |cons g _ i=>exact .cons (g.tup s) i
theorem kf.len{vs:List V}(h:kf K H vs ds):vs.length=ds.length:=by
 induction h with
 |nil=>rfl
 |cons _ _ i=>rw[fj,fj,i]
end
noncomputable def mz:List It2->List Dw
 | []=>[]
 | .num _::r=>mz r
 | .bu d::r=>d::mz r
theorem HZ:∀ts:List It2,(mz ts).length<=(ts.flatMap It2.bb).length
 | []=>gH _
 | .num n::r=>by
  have:=HZ r
  rw[iz,cL];show(mz r).length<=_;lia
 | .bu d::r=>by
  have:=HZ r
  have:=It2.pos (.bu d)
  rw[iz,cL];show(mz r).length+1<=_;lia
def iE(j:Nat)(x:String):TT:=eM (bw lz (br j) (tC (.str x)))
def Pl(K:Frag)(T:String):List V->Hp->VK->Prop:=λxs H Q=>∃(x:V)(b:Bool),xs=[x,.ty T]/\((∃i,x=.int i/\kitOne K (.type "int") (.type T)=some b)\/∃s,x=.str s/\kitOne K (.type "str") (.type T)=some b)/\Q (.bl b) H
theorem Pm{X:Cx}(K:Frag)(hK:X.K=K){T:String}:eW X (.builtin "isinstance") (Pl K T):=by
 rintro bc s σ H vs us Q I r ⟨x,b,e,h|h,q⟩
 ·obtain⟨i,rfl,k⟩:=h;exact L7 K hK bc s σ H vs us Q I r ⟨i,b,e,k,q⟩
 ·obtain⟨y,rfl,k⟩:=h;exact MV K hK bc s σ H vs us Q I r ⟨y,b,e,k,q⟩
def Ia(K:Frag)(j:Nat):TT:=eM (lA (Pl K "int") (bo (br j) (bo (tC (.ty "int")) bQ)))
def yR(K:Frag)(j:Nat)(te:TE):TS:=r6 (o4 K "list" uZ (br j) (bo te bQ))
def yS(K:Frag)(j:Nat):TE:=uX K "list" Ed (br j)
def Pn(K:Frag):TS:=cU (Ia K 3) (cR (br 3) (bY 2)) (cU (iE 3 "times") (yR K 1 (eX (bo (br 3) (bo (br 2) bQ)))) (cU (iE 3 "back") (yR K 1 (eX (bo (br 3) (bo (yS K 1) bQ)))) (cU (eM (bw (xi K false) (br 3) (cP (bo (tS "then") (bo (tS "beside") bQ))))) (cu (cR (yS K 1) (bY 4)) (yR K 1 (eX (bo (br 3) (bo (br 4) (bo (yS K 1) bQ)))))) (yR K 1 (eX (bo (br 3) bQ))))))
section
variable{K:Frag}
theorem qc{y:Str}:decide (V.str x=V.str y)=decide (x=y):=by
 by_cases h:x=y
 ·rw[aG h,aG (ai V.str h)]
 ·rw[aa h,aa λz=>h (V.str.inj z)]
theorem tU{y:String}{t:TS}(h5:σ[j]?=some (some (.str x)))(dX:x≠Str.ofString y)(h:u D σ H):cU (iE j y) t u D σ H:=by
 refine⟨_,h5,rfl,_,rfl,?_⟩;rw[qc,aa dX];exact dE h
theorem Po{y:String}{t:TS}(h5:σ[j]?=some (some (.str (Str.ofString y))))(h:t D σ H):cU (iE j y) t u D σ H:=by
 refine⟨_,h5,rfl,_,rfl,?_⟩;rw[aG rfl];exact eE h
theorem aaC{t:TS}(h5:σ[j]?=some (some (.str x)))(h:u D σ H):cU (Ia K j) t u D σ H:=
 ⟨_,h5,_,false,rfl,.inr ⟨x,rfl,Ez K⟩,_,rfl,dE h⟩
theorem aaD{i:Int}{t:TS}(h5:σ[j]?=some (some (.int i)))(h:t D σ H):cU (Ia K j) t u D σ H:=
 ⟨_,h5,_,true,rfl,.inl ⟨i,rfl,Ey K⟩,_,rfl,eE h⟩
theorem yT{H1:Hp}{l:Addr}{e:Dw}{xs:List V}{Q:VK}(sm:bh H0 H1)(h0:H0 hl=none)(nr:rl≠hl)(g:H1 hl=some (.lst us.reverse))(gr:H1 rl=some (.lst ws))(z:us.length<=1000)(fl:H1 l=none)(tr:kf K H1 us ds)
  (mk:∀H',df H1 H'->cg K H' l xs->cy K H' (.ref l) e) (q:∀H',bh H0 H'->H' hl=some (.lst (V.ref l::us).reverse)->H' rl=some (.lst ws)->kf K H' (V.ref l::us) (e::ds)->Q .cC H') :
  uZ (.ref hl) [.ref l] (upd H1 l (.tup xs)) Q:=by
 have zz:=MK;have nl:hl≠l:=λy=>by rw[y,fl]at g;cases g
 have nrl:rl≠l:=λy=>by rw[y,fl]at gr;cases gr
 have g1:(upd H1 l (.tup xs)) hl=some (.lst us.reverse):=by rw[cH nl];exact g
 refine⟨hl,_,_,rfl,rfl,g1,by rw[qt];lia,?_⟩;have t1:df H1 (upd H1 l (.tup xs)):=df.new fl;have t2:df (upd H1 l (.tup xs)) (upd (upd H1 l (.tup xs)) hl (.lst (us.reverse++[V.ref l]))):=df.lst g1;refine q _ ((sm.trans (.upd fl)).write h0) ?_ ?_ (.cons (mk _ (t1.trans t2) (t2.cV (.of bz))) (tr.tup (t1.trans t2)))
 ·rw[bz,rO]
 ·rw[cH nr,cH nrl];exact gr
theorem yU{H1:Hp}{e:Dw}{Q:VK}(hj:σ[j]?=some (some (.ref hl)))(sm:bh H0 H1)(h0:H0 hl=none)(nr:rl≠hl)(g:H1 hl=some (.lst us.reverse))(gr:H1 rl=some (.lst ws))(z:us.length<=1000)(tr:kf K H1 us (e::ds))
  (q:∀v vs H',bh H0 H'->df H1 H'->H' hl=some (.lst vs.reverse)->H' rl=some (.lst ws)->vs.length<=1000->cy K H' v e->kf K H' vs ds->Q v H'):yS K j σ H1 Q:=by
 cases tr with
 | @cons v _ vs _ h r=>
  have t:df H1 (upd H1 hl (.lst vs.reverse)):=df.lst g;have e1:(v::vs).reverse=vs.reverse++[v]:=rO;refine⟨_,hj,.inl ⟨rfl,_,dC.of g⟩,hl,_,v,rfl,rfl,g,?_,?_⟩
  ·rw[e1,cL,kZ (by show _<=_+1-1;lia)];show[v][vs.reverse.length+1-1-vs.reverse.length]?=_;rw[show vs.reverse.length+1-1-vs.reverse.length=0 by lia];rfl
  ·rw[e1,List.dropLast_concat];exact q v vs _ (sm.write h0) t bz (by rw[cH nr];exact gr) (by rw[fj]at z;lia) (h.tup t) (r.tup t)
theorem Ib{x:V}{b:Bool}{t:TS}(hj:σ[j]?=some (some x))(hf:oZ x=true)(hb:il x i8=b)(q:∀t1,H t1=none->if b=true then t D σ (upd H t1 (.lst i8))else u D σ (upd H t1 (.lst i8))) :
  cU (eM (bw (xi K false) (br j) (cP (bo (tS "then") (bo (tS "beside") bQ))))) t u D σ H:=by
 subst hb;exact⟨_,hj,by show 2<=sizeLine;decide,λt1 h1=>⟨t1,i8,rfl,.inl (.of bz),hf,rfl,_,rfl,q t1 h1⟩⟩
theorem aaE:∀e∈iW,e.1≠Str.ofString "times"/\e.1≠Str.ofString "back"/\il (.str e.1) i8=false:=by decide +kernel
theorem aaF{p:Int}{t:It2}{r:List It2}{aw:Addr}{num:V}{s4:Option V}(vC:t.ok p)(h0:H0 hl=none)(nr:rl≠hl)(sm:bh H0 H)(g:H hl=some (.lst us.reverse))(gr:H rl=some (.lst ws))(z:us.length<=1000)
  (tr:kf K H us (mz (t.kids++r))) (hn:∀m r',t.kids++r=.num m::r'->num=.int m)
  (q:∀BW yE rg H',bh H0 H'->H' hl=some (.lst (List.reverse rg))->H' rl=some (.lst ws)->kf K H' rg (mz (t::r))->(∀m r',t::r=.num m::r'->BW=.int m)->D.nx [some (.ref aw),some (.ref hl),some BW,some t.head,yE] H') :
  Pn K D [some (.ref aw),some (.ref hl),some num,some t.head,s4] H:=by
 have z2:3<=sizeLine:=by decide
 have no:∀{d:Dw}{r:List It2}{num:V},∀m r',It2.bu d::r=.num m::r'->num=.int m:=λm r' e=>by cases e
 cases t with
 |num n=>exact aaD rfl ⟨_,rfl,q (.int n) s4 us H sm g gr tr λm r' e=>by cases e;rfl⟩
 |bu d=>
  refine aaC (x:=match It2.head (.bu d)with | .str x=>x|_ => "") (by cases d<;>rfl) ?_
  cases d with
  |box x l rr=>
   obtain⟨b1,b2,b3⟩:=aaE _ vC;refine tU rfl b1 (tU rfl b2 ?_);refine Ib rfl rfl b3 λt1 h1=>dE ?_;have s1:=bh.upd (o:=.lst i8) h1;refine⟨_,rfl,.inl ⟨rfl,_,dC.of (s1 _ _ g)⟩,_,rfl,by show 1<=sizeLine;lia,λl fl=>?_⟩;exact yT (Q:=λ_ H'=>D.nx [some (.ref aw),some (.ref hl),some num,some (It2.head _),s4] H') (sm.trans s1) h0 nr (s1 _ _ g) (s1 _ _ gr) z fl (tr.tup s1.tup) (λH' _ h=>.box h) λH' a b c d=>q num s4 _ H' a b c d no
  |times n=>
   have:num=.int n:=hn n r rfl
   subst this;refine Po rfl ?_;refine⟨_,rfl,.inl ⟨rfl,_,dC.of g⟩,_,rfl,_,rfl,by show 2<=sizeLine;lia,λl fl=>?_⟩;exact yT (Q:=λ_ H'=>D.nx [some (.ref aw),some (.ref hl),some (.int n),some (It2.head _),s4] H') sm h0 nr g gr z fl tr (λH' _ h=>.times h) λH' a b c d=>q _ s4 _ H' a b c d no
  |back e=>
   refine tU rfl (by decide) (Po rfl ?_);refine⟨_,rfl,.inl ⟨rfl,_,dC.of g⟩,_,rfl,?_⟩;refine yU (ds:=mz r) (e:=e) rfl sm h0 nr g gr z tr λv vs H1 s1 _ g1 qd z1 hv yV=>⟨by show 2<=sizeLine;lia,λl fl=>?_⟩;exact yT (Q:=λ_ H'=>D.nx [some (.ref aw),some (.ref hl),some num,some (It2.head _),s4] H') s1 h0 nr g1 qd z1 fl yV (λH' tp h=>.back h (hv.tup tp)) λH' a b c d=>q num s4 _ H' a b c d no
  |bt e f=>
   refine tU rfl (by decide) (tU rfl (by decide) ?_);refine Ib rfl rfl (by show il (.str "beside") i8=true;decide +kernel) λt1 h1=>eE ?_;have s1:=bh.upd (o:=.lst i8) h1;refine yU (ds:=f::mz r) (e:=e) rfl (sm.trans s1) h0 nr (s1 _ _ g) (s1 _ _ gr) z (tr.tup s1.tup) λv vs H1 s1 _ g1 qd z1 hv yV=>?_;refine⟨_,rfl,.inl ⟨rfl,_,dC.of g1⟩,_,rfl,_,rfl,?_⟩;refine yU (ds:=mz r) (e:=f) rfl s1 h0 nr g1 qd z1 yV λv2 vs2 H2 s2 Ic g2 Ie z2 tJ Ig=>⟨by show 3<=sizeLine;lia,λl fl=>?_⟩;exact yT (Q:=λ_ H'=>D.nx [some (.ref aw),some (.ref hl),some num,some (It2.head _),some v] H') s2 h0 nr g2 Ie z2 fl Ig (λH' tp h=>.bt h ((hv.tup Ic).tup tp) (tJ.tup tp)) λH' a b c d=>q num _ _ H' a b c d no
  |bj e f=>
   refine tU rfl (by decide) (tU rfl (by decide) ?_);refine Ib rfl rfl (by show il (.str "then") i8=true;decide +kernel) λt1 h1=>eE ?_;have s1:=bh.upd (o:=.lst i8) h1;refine yU (ds:=f::mz r) (e:=e) rfl (sm.trans s1) h0 nr (s1 _ _ g) (s1 _ _ gr) z (tr.tup s1.tup) λv vs H1 s1 _ g1 qd z1 hv yV=>?_;refine⟨_,rfl,.inl ⟨rfl,_,dC.of g1⟩,_,rfl,_,rfl,?_⟩;refine yU (ds:=mz r) (e:=f) rfl s1 h0 nr g1 qd z1 yV λv2 vs2 H2 s2 Ic g2 Ie z2 tJ Ig=>⟨by show 3<=sizeLine;lia,λl fl=>?_⟩;exact yT (Q:=λ_ H'=>D.nx [some (.ref aw),some (.ref hl),some num,some (It2.head _),some v] H') s2 h0 nr g2 Ie z2 fl Ig (λH' tp h=>.bj h ((hv.tup Ic).tup tp) (tJ.tup tp)) λH' a b c d=>q num _ _ H' a b c d no
end
def BX(K:Frag):Sp:=λvs H Q _=>∃(p:Int)(aw:Addr)(d:Dw),vs=[.ref aw]/\dC K H aw d.bb/\d.ok p/\d.bb.length<=200/\∀v H',bh H H'->cy K H' v d->Q v H'
theorem vL:dD ["words","held","number","word","one"] ["words"] (cN Fd):=dU rfl rfl rfl (by decide +kernel) rfl
theorem Pp{f:Addr}{fd:FuncData}(F:c9 K "_law_tree" "_law_tree" Fd f fd)(T:Txt mg)(mR:mg "reversed"=none):ck P w K mg base cA 1 f fd ["words"] (BX K):=by
 refine F.ok vL (λvs H Q E h=>?_) (λcI A outer s H vs Q E hr h=>?_)
 ·obtain⟨p,aw,d,rfl,_⟩:=h;rfl
 ·obtain⟨p,aw,d,rfl,hw,hd,hl,q⟩:=h;have ap:∀{X:Cx}{e:Expr}{te:TE}{a1 a2 a3:Pos},True:=trivial;refine⟨cu (cR (cP bQ) (bY 1)) (cu (cR (tC .cC) (bY 2)) (cu (DJ (wX K (Pk K (br 0))) (bY 3) (Pn K)) (dG (bw (gJ K) (br 1) (tC (.int 0)))))),?_,?_⟩
  ·refine bD (cx (i:=1) vL.nd rfl (.inl rfl) (cK bq)) ?_;refine bD (cx (i:=2) vL.nd rfl (.inl rfl) gW) ?_;refine bD (lx lq rfl (qM K rfl (aaB K rfl rfl rfl T.list rfl mR (pv 0))) (eL (i:=3) vL.nd rfl (.inl rfl)) ?_) (bK (cE (bO (de K rfl) (pv 1) bp)));refine bK (cO (oS (gu (Pm K rfl (T := "int")) rfl T.isinstance pW (bg (pv 3) (bg (sy rfl T.int sH) bq)))) (bK (cx (i:=2) vL.nd rfl (.inl rfl) (pv 3))) ?_);refine bK (cO (cj cS (pv 3) bI (cm _)) (bK (l7 (jv ll rQ rR pV (pv 1) (bg (dh (bg (pv 3) (bg (pv 2) bq))) bq)))) ?_);refine bK (cO (cj cS (pv 3) bI (cm _)) (bK (l7 (jv ll rQ rR pV (pv 1) (bg (dh (bg (pv 3) (bg (xM K rfl (pv 1)) bq))) bq)))) ?_);refine bK (cO (cj (xC K rfl) (pv 3) (cK (bg bI (bg bI bq))) rfl) (bD (cx (i:=4) vL.nd rfl (.inl rfl) (xM K rfl (pv 1))) (bK (l7 (jv ll rQ rR pV (pv 1) (bg (dh (bg (pv 3) (bg (pv 4) (bg (xM K rfl (pv 1)) bq)))) bq))))) ?_);exact bK (l7 (jv ll rQ rR pV (pv 1) (bg (dh (bg (pv 3) bq)) bq)))
  ·refine⟨by decide,λhh Pq=>?_⟩;have s0:=bh.upd (o:=.lst []) Pq;refine⟨_,rfl,aw,_,rfl,s0.seq hw,λrl Bu=>?_⟩;have s1:=bh.upd (o:=.lst d.bb.reverse) Bu;have nr:rl≠hh:=λe=>by rw[e,bz]at Bu;cases Bu
   have g0:=s1 _ _ (bz (H:=H) (a:=hh) (o:=.lst []));have g1:(upd (upd H hh (.lst [])) rl (.lst d.bb.reverse)) rl=some (.lst d.bb.reverse):=bz;have sA:=s0.trans s1;generalize upd (upd H hh (.lst [])) rl (.lst d.bb.reverse)=H1 at g0 g1 sA |-;refine⟨rl,rfl,⟨_,.of g1⟩,wZ (xs:=d.bb.reverse) (λk σ H'=>bh H H'/\∃num s3 s4 us,σ=[some (.ref aw),some (.ref hh),some num,s3,s4]/\H' hh=some (.lst (List.reverse us))/\H' rl=some (.lst d.bb.reverse)/\kf K H' us (mz (cD [.bu d] (d.bb.length-k)))/\∀m r',cD [.bu d] (d.bb.length-k)=.num m::r'->num=.int m) ⟨sA,.cC,none,none,[],rfl,g0,g1,?_,?_⟩ (λk σ H' _ ⟨_,_,_,_,_,_,_,g,_⟩=>.of g) ?_ ?_⟩
   ·rw[Nat.sub_zero,show d.bb.length=(([It2.bu d]).flatMap It2.bb).length by rw[om];rfl,yn];exact .nil
   ·rw[Nat.sub_zero,show d.bb.length=(([It2.bu d]).flatMap It2.bb).length by rw[om];rfl,yn];intro m r' e;cases e
   ·rintro k x σ H2 hx ⟨sm,num,s3,s4,us,rfl,g,gr,tr,hn⟩;have hk:k<d.bb.length:=by
     have:=(fO.mp hx).1
     rwa[qt]at this
    obtain⟨i,hi⟩:∃i,d.bb.length-k=i+1:=⟨d.bb.length-k-1,by lia⟩;have vD:d.bb.length-(k+1)=i:=by lia
    rw[hi]at tr hn;obtain⟨t,r,e1,e2,e3⟩:=n9 (ts:=[.bu d]) (i:=i) (by rw[om];show i<d.bb.length;lia);rw[e3]at tr hn;have hx2:x=t.head:=by
     rw[List.getElem?_reverse hk,show d.bb.length-1-k=i by lia]at hx;rw[om]at e2;exact eF (hx.symm.trans e2)
    subst hx2;have z:us.length<=1000:=by
     have:=tr.len
     have h2:=HZ (t.kids++r);rw[<- e3,nv,om,nK]at h2;have e:It2.bb (.bu d)=d.bb:=rfl;rw[e]at h2;rw[e3]at h2;lia
    refine aaF (K:=K) (jA.ok hd ⟨r,e1⟩) Pq nr sm g gr z tr hn λBW yE rg H' s' g' gr' tr' rX=>?_;refine⟨s',BW,_,yE,rg,rfl,g',gr',?_,?_⟩
    ·rw[vD,e1];exact tr'
    ·rw[vD,e1];exact rX
   ·rintro σ H2 ⟨sm,num,s3,s4,us,rfl,g,gr,tr,hn⟩;rw[qt,Nat.sub_self]at tr;have tr:kf K H2 us [d]:=tr;cases tr with
    |cons h r=>
     cases r;exact⟨_,rfl,hh,_,0,_,rfl,rfl,.of g,cc (j:=0) rfl,q _ H2 sm h⟩
end S21
namespace L2
open PySem PySem.Spec PyProof.Rows
section
variable{X:Cx}
open Classical in
def vM(K:Frag)(neg:Bool):R2:=λx y H Q=>∃d e,jM K H x d/\jM K H y e/\kqdOk 62 d=true/\kqdOk 62 e=true/\Q (.bl (if neg then !decide (d=e)else decide (d=e))) H
open Classical in
theorem Pu{d e:Dat}(hd:kqdOk 62 d=true)(he:kqdOk 62 e=true):PyData.eqv (PySem.W.kqdP d) (PySem.W.kqdP e)=decide (d=e):=by
 exact Bool.eq_iff_iff.mpr ((PySem.W.kqd_eqv 62 d e 62 hd he).trans decide_eq_true_iff.symm)
theorem BY{d:Dat}(hd:kqdOk 62 d=true):SeqAt.shaped (PySem.W.kqdP d)=true:=by
 have l:=PySem.W.kqd_lay 62 d hd;unfold SeqAt.shaped;rw[l.1,Bool.true_and];exact aG (dj l.2 (by decide))
theorem vN(hu:X.A.units+64<cLine):eU X (compareOp .Eq) (vM X.K false):=by
 intro bc s σ H x y v u Q I rx ry h;obtain⟨d,e,hx,hy,hd,he,q⟩:=h;obtain⟨as,ra⟩:=hx.reads I rx;obtain⟨bs,rb⟩:=hy.reads I ry;refine eq_dataH ra rb (BY hd) (BY he) hu ?_;rw[Pu hd he];exact⟨.bl _,H,I,rfl,q⟩
theorem aaG(hu:X.A.units+64<cLine):eU X (compareOp .NotEq) (vM X.K true):=by
 intro bc s σ H x y v u Q I rx ry h;obtain⟨d,e,hx,hy,hd,he,q⟩:=h;obtain⟨as,ra⟩:=hx.reads I rx;obtain⟨bs,rb⟩:=hy.reads I ry;refine ne_dataH ra rb (BY hd) (BY he) hu ?_;rw[Pu hd he];exact⟨.bl _,H,I,rfl,q⟩
end
end L2
namespace S21
open PySem L2 Bw
variable{D:Ends}{H:Hp}{R W:String}{d:Dw}{i j:Nat}{p:Int}{t2:TT}{u:TS}{v:V}{vs:List V}{x:Str}{σ:St}
noncomputable def kg:Dw->Dat
 | .box x _ _=>.tuple [.str x]
 | .times n=>.tuple [.str "times",.int n]
 | .back d=>.tuple [.str "back",kg d]
 | .bt a b=>.tuple [.str "beside",kg a,kg b]
 | .bj a b=>.tuple [.str "then",kg a,kg b]
noncomputable def Dw.dep:Dw->Nat
 | .box _ _ _=>1
 | .times _=>1
 | .back d=>d.dep+1
 | .bt a b=>max a.dep b.dep+1
 | .bj a b=>max a.dep b.dep+1
theorem Ih:∀e∈iW,PyData.strOk e.1=true:=by decide +kernel
theorem rh(n:Nat)(h:PyData.strOk x=true):kqdOk n (.str x)=true:=by cases n<;>exact h
theorem Ii{i:Int}(n:Nat):kqdOk n (.int i)=true:=by cases n<;>rfl
theorem Ij:PyData.strOk "times"=true:=by decide +kernel
theorem Pw:PyData.strOk "back"=true:=by decide +kernel
theorem Px:PyData.strOk "beside"=true:=by decide +kernel
theorem Py:PyData.strOk "then"=true:=by decide +kernel
theorem qe{p:Int}:∀{d:Dw}{n:Nat},d.ok p->d.dep<=n->kqdOk n (kg d)=true
 | .box x l r,n+1,h,_=>by
  have:=Ih _ h
  show([Dat.str x]).all (kqdOk n)=true;simp only[nM,List.all_nil,uv];cases n<;>exact this
 | .times m,n+1,_,_=>by
  show([Dat.str "times",.int m]).all (kqdOk n)=true;simp only[nM,List.all_nil,uv,rh n Ij,Ii n]
 | .back d,n+1,h,hn=>by
  have:d.dep+1<=n+1:=hn
  have:=qe (d:=d) (n:=n) h (by lia)
  show([Dat.str "back",kg d]).all (kqdOk n)=true;simp only[nM,List.all_nil,uv,rh n Pw,this]
 | .bt a b,n+1,h,hn=>by
  have:max a.dep b.dep+1<=n+1:=hn
  have i:=qe (d:=a) (n:=n) h.1 (by lia);have j:=qe (d:=b) (n:=n) h.2 (by lia);show([Dat.str "beside",kg a,kg b]).all (kqdOk n)=true;simp only[nM,List.all_nil,uv,rh n Px,i,j]
 | .bj a b,n+1,h,hn=>by
  have:max a.dep b.dep+1<=n+1:=hn
  have i:=qe (d:=a) (n:=n) h.1 (by lia);have j:=qe (d:=b) (n:=n) h.2 (by lia);show([Dat.str "then",kg a,kg b]).all (kqdOk n)=true;simp only[nM,List.all_nil,uv,rh n Py,i,j]
 | .box ..,0,_,h=>absurd (show 1<=0 from h) (by decide)
 | .times _,0,_,h=>absurd (show 1<=0 from h) (by decide)
 | .back _,0,_,h=>absurd h (Nat.not_succ_le_zero _)
 | .bt ..,0,_,h=>absurd h (Nat.not_succ_le_zero _)
 | .bj ..,0,_,h=>absurd h (Nat.not_succ_le_zero _)
section
variable{K:Frag}{H H':Hp}
theorem cy.has(h:cy K H v d):jM K H v (kg d):=by
 induction h with
 |box g=>exact .tuple g (.cons (.str _) .nil)
 |times g=>exact .tuple g (.cons (.str _) (.cons (.int _) .nil))
 |back g _ i=>exact .tuple g (.cons (.str _) (.cons i .nil))
 |bt g _ _ i j=>exact .tuple g (.cons (.str _) (.cons i (.cons j .nil)))
 |bj g _ _ i j=>exact .tuple g (.cons (.str _) (.cons i (.cons j .nil)))
inductive Fi where
 |wd (v:V)
 |tr (d:Dw)
noncomputable def Fi.bb:Fi->List V
 | .wd v=>[v]
 | .tr d=>d.bb
noncomputable def Fi.kids:Dw->List Fi
 | .box x _ _=>[.wd (.str x)]
 | .times n=>[.wd (.str "times"),.wd (.int n)]
 | .back d=>[.wd (.str "back"),.tr d]
 | .bt a b=>[.wd (.str "beside"),.tr a,.tr b]
 | .bj a b=>[.wd (.str "then"),.tr a,.tr b]
def Fi.ok(p:Int):Fi->Prop
 | .wd v=>(∃n,v=.int n)\/∃x,v=.str x/\PyData.strOk x=true
 | .tr d=>d.ok p/\d.dep<=60
noncomputable def Fi.wt:Fi->Nat
 | .wd _=>1
 | .tr d=>2*d.bb.length
def vO(K:Frag)(H:Hp)(v:V):Fi->Prop
 | .wd x=>v=x
 | .tr d=>cy K H v d
inductive kh(K:Frag)(H:Hp):List V->List Fi->Prop where
 |nil:kh K H [] []
 |cons {v:V} {t:Fi} {vs:List V} {ts:List Fi}:vO K H v t->kh K H vs ts->kh K H (v::vs) (t::ts)
theorem vO.tup{v:V}{t:Fi}(h:vO K H v t)(s:df H H'):vO K H' v t:=by
 cases t with
 |wd x=>exact h
 |tr d=>exact cy.tup h s
theorem kh.tup{vs:List V}{ts:List Fi}(h:kh K H vs ts)(s:df H H'):kh K H' vs ts:=by
 induction h with
 |nil=>exact .nil
 |cons g _ i=>exact .cons (g.tup s) i
theorem kh.append{us:List V}{ss ts:List Fi}(h:kh K H us ss)(g:kh K H vs ts):kh K H (us++vs) (ss++ts):=by
 induction h with
 |nil=>exact g
 |cons a _ i=>exact .cons a i
theorem kh.len{ts:List Fi}(h:kh K H vs ts):vs.length=ts.length:=by
 induction h with
 |nil=>rfl
 |cons _ _ i=>rw[fj,fj,i]
noncomputable def Fi.dat:Fi->Dat
 | .wd (.int n)=>.int n
 | .wd (.str x)=>.str x
 | .wd _=>.none
 | .tr d=>kg d
theorem vO.has{p:Int}{v:V}{t:Fi}(h:vO K H v t)(o:t.ok p):jM K H v t.dat/\kqdOk 61 t.dat=true:=by
 cases t with
 |wd x=>
  have h:v=x:=h;subst h;rcases o with⟨n,rfl⟩|⟨x,rfl,hx⟩
  ·exact⟨.int n,rfl⟩
  ·exact⟨.str x,hx⟩
 |tr d=>exact⟨cy.has h,qe o.1 (by have:=o.2;lia)⟩
theorem kh.has{p:Int}{vs:List V}{ts:List Fi}(h:kh K H vs ts)(o:∀t∈ts,t.ok p):iq K H vs (ts.map Fi.dat)/\∀e∈ts.map Fi.dat,kqdOk 61 e=true:=by
 induction h with
 |nil=>exact⟨.nil,λe h=>nomatch h⟩
 |cons g _ i=>
  obtain⟨a,b⟩:=g.has (o _ c6);obtain⟨c,d⟩:=i λt ht=>o t (e9 _ ht);refine⟨.cons a c,λe he=>?_⟩;rcases(dI.mp he)with(h|h)
  ·rw[h];exact b
  ·exact d e h
theorem aaH:∀{vs:List V}{ds:List Dat},iq K H vs ds->iq K H vs.reverse ds.reverse:=by
 have app:∀{us vs:List V}{cs ds:List Dat},iq K H us cs->iq K H vs ds->iq K H (us++vs) (cs++ds):=by
  intro us;induction us with
  |nil=>intro vs cs ds h g;cases h;exact g
  |cons u us ih=>intro vs cs ds h g;cases h with|cons a b=>exact .cons a (ih b g)
 intro vs;induction vs with
 |nil=>intro ds h;cases h;exact .nil
 |cons v vs ih=>
  intro ds h;cases h with
  |cons a b=>
   rw[rO,rO];exact app (ih b) (.cons a .nil)
theorem cy.items(h:cy K H v d)(o:d.ok p)(hd:d.dep<=60):∃a xs,v=.ref a/\cg K H a xs/\kh K H xs (Fi.kids d)/\(∀t∈Fi.kids d,t.ok p)/\(Fi.kids d).flatMap Fi.bb=d.bb/\((Fi.kids d).map Fi.wt).sum<2*d.bb.length/\xs.length<=3:=by
 cases h with
 |box g=>exact⟨_,_,rfl,g,.cons rfl .nil,λt ht=>by rw[dP.mp ht];exact .inr ⟨_,rfl,Ih _ o⟩,rfl,by show 1+0<2*1;decide,by show 1<=3;decide⟩
 |times g=>exact⟨_,_,rfl,g,.cons rfl (.cons rfl .nil),λt ht=>by
   rcases(dI.mp ht)with(e|e)
   ·rw[e];exact .inr ⟨_,rfl,by decide +kernel⟩
   ·rw[dP.mp e];exact .inl ⟨_,rfl⟩,rfl,by show 1+(1+0)<2*2;decide,by show 2<=3;decide⟩
 | @back _ _ d g i=>exact⟨_,_,rfl,g,.cons rfl (.cons i .nil),λt ht=>by
   have hd:d.dep+1<=60:=hd;rcases(dI.mp ht)with(e|e)
   ·rw[e];exact .inr ⟨_,rfl,by decide +kernel⟩
   ·rw[dP.mp e];exact⟨o,by lia⟩,by show[_]++(d.bb++[])=_;rw[gU];rfl,by show 1+(2*d.bb.length+0)<2*(d.bb.length+1);lia,by show 2<=3;decide⟩
 | @bt _ _ _ d e g i j=>exact⟨_,_,rfl,g,.cons rfl (.cons i (.cons j .nil)),λt ht=>by
   have hd:max d.dep e.dep+1<=60:=hd;rcases(dI.mp ht)with(z|z)
   ·rw[z];exact .inr ⟨_,rfl,by decide +kernel⟩
   ·rcases(dI.mp z)with(z|z)
    ·rw[z];exact⟨o.1,by lia⟩
    ·rw[dP.mp z];exact⟨o.2,by lia⟩,by show[_]++(d.bb++(e.bb++[]))=_;rw[gU];rfl,by show 1+(2*d.bb.length+(2*e.bb.length+0))<2*((d.bb++e.bb).length+1);rw[cL];lia,by show 3<=3;decide⟩
 | @bj _ _ _ d e g i j=>exact⟨_,_,rfl,g,.cons rfl (.cons i (.cons j .nil)),λt ht=>by
   have hd:max d.dep e.dep+1<=60:=hd;rcases(dI.mp ht)with(z|z)
   ·rw[z];exact .inr ⟨_,rfl,by decide +kernel⟩
   ·rcases(dI.mp z)with(z|z)
    ·rw[z];exact⟨o.1,by lia⟩
    ·rw[dP.mp z];exact⟨o.2,by lia⟩,by show[_]++(d.bb++(e.bb++[]))=_;rw[gU];rfl,by show 1+(2*d.bb.length+(2*e.bb.length+0))<2*((d.bb++e.bb).length+1);rw[cL];lia,by show 3<=3;decide⟩
end
theorem aaI(K:Frag):kitOne K (.type "str") (.type "tuple")=some false:=by kernel_rfl
def Pz(K:Frag):List V->Hp->VK->Prop:=λxs H Q=>(∃a ys,xs=[.ref a,.ty "tuple"]/\cg K H a ys/\Q (.bl true) H)\/∃x,xs=[x,.ty "tuple"]/\((∃i,x=.int i)\/∃s,x=.str s)/\Q (.bl false) H
theorem aaJ{X:Cx}(K:Frag)(hK:X.K=K):eW X (.builtin "isinstance") (Pz K):=by
 subst hK;rintro bc s σ H vs us Q I r (⟨a,ys,rfl,h,q⟩|⟨x,rfl,⟨i,rfl⟩|⟨y,rfl⟩,q⟩)
 ·exact L6 X.K rfl bc s σ H _ us Q I r ⟨a,ys,true,rfl,h,L1 X.K,q⟩
 ·exact L7 X.K rfl bc s σ H _ us Q I r ⟨i,false,rfl,VN X.K,q⟩
 ·exact MV X.K rfl bc s σ H _ us Q I r ⟨y,false,rfl,aaI X.K,q⟩
def PB(K:Frag):TS:=cu (cR (yS K 2) (bY 3)) (cU (eM (lA (Pz K) (bo (br 3) (bo (tC (.ty "tuple")) bQ)))) (r6 (o4 K "list" Lj (br 2) (bo (Ph K (br 3)) bQ))) (yR K 1 (br 3)))
structure yX(K:Frag)(p:Int)(H0 H:Hp)(wl dl:Addr)(us acc:List V)(its:List Fi)(d:Dw):Prop where
 sm:bh H0 H
 gw:H wl=some (.lst acc)
 gd:H dl=some (.lst us.reverse)
 fi:kh K H us its
 ok:∀t∈its,t.ok p
 all:acc++its.flatMap Fi.bb=d.bb
theorem aaK:(v::vs).reverse[(v::vs).reverse.length-1]?=some v:=by
 rw[rO,cL,kZ (by show _<=_+1-1;lia)];show[v][vs.reverse.length+1-1-vs.reverse.length]?=_;rw[show vs.reverse.length+1-1-vs.reverse.length=0 by lia];rfl
theorem aaL{its:List Fi}:its.length<=(its.flatMap Fi.bb).length:=by
 induction its with
 |nil=>exact gH _
 |cons t r ih=>
  have:1<=t.bb.length:=by
   cases t with
   |wd v=>exact cF 1
   |tr d=>exact d.pos
  rw[iz,cL,fj];lia
theorem aaM{H0:Hp}{wl dl:Addr}{v0:V}{us acc:List V}{t:Fi}{its:List Fi}{s3:Option V}(h:yX K p H0 H wl dl (v::us) acc (t::its) d)(hd:d.bb.length<=400)(nw:wl≠dl)(w0:H0 wl=none)(d0:H0 dl=none)
  (q:∀rg yY its' H' rj,yX K p H0 H' wl dl rg yY its' d->(its'.map Fi.wt).sum<((t::its).map Fi.wt).sum->D.nx [some v0,some (.ref wl),some (.ref dl),rj] H') :
  PB K D [some v0,some (.ref wl),some (.ref dl),s3] H:=by
 have z:=MK;obtain⟨sm,gw,gd,fi,ok,all⟩:=h;have cT:=ai List.length all;rw[cL]at cT;have gY:=aaL (its:=t::its);cases fi with
 |cons fv fr=>
  have ful:=fr.len;rw[fj]at gY;have t1:df H (upd H dl (.lst us.reverse)):=df.lst gd;refine⟨_,rfl,.inl ⟨rfl,_,dC.of gd⟩,dl,_,v,rfl,rfl,gd,aaK,?_⟩;rw[rO,List.dropLast_concat];have s1:bh H0 (upd H dl (.lst us.reverse)):=sm.write d0;have rn:(upd H dl (.lst us.reverse)) wl=some (.lst acc):=by rw[cH nw];exact gw
  have vP:(upd H dl (.lst us.reverse)) dl=some (.lst us.reverse):=bz;have Ik:=fv.tup t1;have Il:=fr.tup t1;generalize upd H dl (.lst us.reverse)=H1 at s1 rn vP Ik Il |-;have PD:∀u∈its,u.ok p:=λu hu=>ok u (e9 _ hu);cases t with
  |wd x=>
   have e:v=x:=Ik;subst e;have hk:=ok (.wd v) c6;refine⟨_,rfl,.inr ⟨v,rfl,?_,_,rfl,dE ?_⟩⟩
   ·rcases hk with⟨n,e⟩|⟨x,e,_⟩
    ·exact .inl ⟨n,e⟩
    ·exact .inr ⟨x,e⟩
   ·refine⟨_,rfl,.inl ⟨rfl,_,dC.of rn⟩,_,rfl,wl,acc,v,rfl,rfl,rn,by lia,?_⟩;have t2:df H1 (upd H1 wl (.lst (acc++[v]))):=df.lst rn;refine q us (acc++[v]) its _ _ ⟨s1.write w0,bz,by rw[cH (fe nw)];exact vP,Il.tup t2,PD,?_⟩ ?_
    ·rw[<- all,iz,fg];rfl
    ·rw[ee,uw];show _<1+_;lia
  |tr e=>
   have hk:=ok (.tr e) c6;obtain⟨a,xs,rfl,ga,fx,okx,ws,wt,x3⟩:=cy.items (p:=p) Ik hk.1 hk.2;refine⟨_,rfl,.inl ⟨a,xs,rfl,ga,_,rfl,eE ?_⟩⟩;refine⟨_,rfl,.inl ⟨rfl,_,dC.of vP⟩,_,rfl,a,xs,rfl,ga,λl hl=>?_⟩;have s2:=bh.upd (o:=.lst xs.reverse) hl;have nd:dl≠l:=λe=>by rw[e,hl]at vP;cases vP
   have gl:(upd H1 l (.lst xs.reverse)) l=some (.lst xs.reverse):=bz;have tV:=s2 _ _ vP;have vQ:=s2 _ _ rn;refine⟨dl,l,_,_,rfl,rfl,tV,gl,by rw[qt,qt];lia,?_⟩;have t3:df (upd H1 l (.lst xs.reverse)) (upd (upd H1 l (.lst xs.reverse)) dl (.lst (us.reverse++xs.reverse))):=df.lst tV;refine q (xs++us) acc (Fi.kids e++its) _ _ ⟨(s1.trans s2).write d0,by rw[cH nw];exact vQ,by rw[bz,uu],((fx.append Il).tup s2.tup).tup t3,?_,?_⟩ ?_
   ·intro u hu;rcases(iG.mp hu)with(h|h)
    ·exact okx u h
    ·exact PD u h
   ·rw[oJ,ws,<- all,iz];rfl
   ·rw[ig,List.sum_append,ee,uw];show _<2*e.bb.length+_;lia
def PF(K:Frag):Sp:=λvs H Q _=>∃(p:Int)(v:V)(d:Dw),vs=[v]/\cy K H v d/\d.ok p/\d.dep<=60/\d.bb.length<=400/\∀a H',bh H H'->H' a=some (.lst d.bb)->Q (.ref a) H'
theorem BZ:dD ["tree","words","due","one"] ["tree"] (cN Fe):=dU rfl rfl rfl (by decide +kernel) rfl
theorem Nq{f:Addr}{fd:FuncData}(F:c9 K "_law_flat" "_law_flat" Fe f fd)(T:Txt mg)(mR:mg "reversed"=none):ck P w K mg base cA 1 f fd ["tree"] (PF K):=by
 refine F.ok BZ (λvs H Q E h=>?_) (λcI A outer s H vs Q E hr h=>?_)
 ·obtain⟨p,v,d,rfl,_⟩:=h;rfl
 ·obtain⟨p,v,d,rfl,hv,hd,Im,cT,q⟩:=h;have hu:=hr.units;refine⟨cu (cR (cP bQ) (bY 1)) (cu (cR (cP (bo (br 0) bQ)) (bY 2)) (cu (Kz (eM (bw (vM K true) (br 2) (cP bQ))) (PB K)) (dG (br 1)))),?_,?_⟩
  ·refine bD (cx (i:=1) BZ.nd rfl (.inl rfl) (cK bq)) ?_;refine bD (cx (i:=2) BZ.nd rfl (.inl rfl) (cK (bg (pv 0) bq))) ?_;refine bD (KA lq (cj (aaG hu) (pv 2) (cK bq) rfl) ?_) (bK (cE (pv 1)));refine bD (cx (i:=3) BZ.nd rfl (.inl rfl) (xM K rfl (pv 2))) (bK (cO (oS (gu (aaJ K rfl) rfl T.isinstance pW (bg (pv 3) (bg (sy rfl T.tuple vg) bq)))) (bK (l7 ?_)) (bK (l7 (jv ll rQ rR pV (pv 1) (bg (pv 3) bq))))));exact jv ll PySem.F.slot_list_extend PySem.F.type_list_extend Lk (pv 2) (bg (aaw K rfl rfl rfl T.list rfl mR (pv 3)) bq)
  ·refine⟨by decide,λwl hw=>?_⟩;have s1:=bh.upd (o:=.lst []) hw;refine⟨_,rfl,by show 1<=sizeLine;decide,λdl g9=>?_⟩;have s2:=bh.upd (o:=.lst [v]) g9;have nw:wl≠dl:=λe=>by rw[<- e,bz]at g9;cases g9
   have nA:=ph s1 g9;have gw:(upd (upd H wl (.lst [])) dl (.lst [v])) wl=some (.lst []):=s2 _ _ bz;have gd:(upd (upd H wl (.lst [])) dl (.lst [v])) dl=some (.lst (List.reverse [v])):=bz;have sA:=s1.trans s2;have BG:=hv.tup sA.tup;generalize upd (upd H wl (.lst [])) dl (.lst [v])=H1 at gw gd sA BG |-;refine⟨λm σ H'=>∃us acc its s3,σ=[some v,some (.ref wl),some (.ref dl),s3]/\yX K p H H' wl dl us acc its d/\m=(its.map Fi.wt).sum,⟨_,[v],[],[.tr d],none,rfl,⟨sA,gw,gd,.cons BG .nil,λt ht=>by rw[dP.mp ht];exact⟨hd,Im⟩,by show[]++(d.bb++[])=_;simp⟩,rfl⟩,?_⟩;rintro m σ H2 ⟨us,acc,its,s3,rfl,h,rfl⟩;obtain⟨ha,hk⟩:=h.fi.has h.ok;refine⟨_,rfl,by decide,λl hl=>?_⟩;have rj:=bh.upd (o:=.lst []) hl;have h':yX K p H (upd H2 l (.lst [])) wl dl us acc its d:=⟨h.sm.trans rj,rj _ _ h.gw,rj _ _ h.gd,h.fi.tup rj.tup,h.ok,h.all⟩;obtain⟨ha,hk⟩:=h'.fi.has h'.ok;refine⟨_,_,.list (.of h'.gd) (aaH ha),.list (.of bz) .nil,?_,rfl,_,rfl,?_⟩
   ·show(List.all _ (kqdOk 61))=true;refine fh.mpr λe he=>hk e (List.mem_reverse.mp he)
   ·cases its with
    |nil=>
     have e:us=[]:=List.eq_nil_of_length_eq_zero h.fi.len;subst e;refine Az (by rfl) ?_;refine⟨_,rfl,q wl _ h'.sm ?_⟩;rw[h'.gw]
     have:=h.all
     rw[List.flatMap_nil,gU]at this;rw[this]
    |cons t r=>
     refine MN (λe=>?_) ?_
     ·have e:=Dat.list.inj e
      have:=ai List.length e
      simp at this
     ·cases us with
      |nil=>exact absurd h.fi.len (by simp)
      |cons u us=>
       refine⟨λσ' H'=>∃us acc its s3,σ'=[some v,some (.ref wl),some (.ref dl),s3]/\yX K p H H' wl dl us acc its d/\(its.map Fi.wt).sum<((t::r).map Fi.wt).sum,λσ' H' ⟨us,acc,its,s3,e,f,lt⟩=>⟨_,lt,us,acc,its,s3,e,f,rfl⟩,?_⟩;exact aaM h' cT nw hw nA λrg yY its' H' rj f lt=>⟨rg,yY,its',rj,rfl,f,lt⟩
noncomputable def Dw.hd:Dw->Str
 | .box x _ _=>x
 | .times _ => "times"
 | .back _ => "back"
 | .bt _ _ => "beside"
 | .bj _ _ => "then"
section
variable{K:Frag}
theorem cy.nA(h:cy K H v d):∃a xs,v=.ref a/\cg K H a xs/\xs[0]?=some (.str d.hd):=by
 cases h with
 |box g=>exact⟨_,_,rfl,g,rfl⟩
 |times g=>exact⟨_,_,rfl,g,rfl⟩
 |back g _=>exact⟨_,_,rfl,g,rfl⟩
 |bt g _ _=>exact⟨_,_,rfl,g,rfl⟩
 |bj g _ _=>exact⟨_,_,rfl,g,rfl⟩
def gK(K:Frag)(j:Nat)(i:Int):TE:=bw (xg K) (br j) (tC (.int i))
def gG(K:Frag)(j:Nat)(W:String):TT:=eM (bw lz (gK K j 0) (tC (.str W)))
theorem fY{t:TS}(hj:σ[j]?=some (some v))(h:cy K H v d)(dX:d.hd≠Str.ofString W)(k:u D σ H):cU (gG K j W) t u D σ H:=by
 obtain⟨a,xs,rfl,g,e⟩:=h.nA;refine⟨_,hj,a,xs,0,_,rfl,rfl,g,cc (j:=0) e,rfl,_,rfl,?_⟩;rw[qc,aa dX];exact dE k
theorem qf{t:TS}(hj:σ[j]?=some (some v))(h:cy K H v d)(he:d.hd=Str.ofString W)(k:t D σ H):cU (gG K j W) t u D σ H:=by
 obtain⟨a,xs,rfl,g,e⟩:=h.nA;refine⟨_,hj,a,xs,0,_,rfl,rfl,g,cc (j:=0) e,rfl,_,rfl,?_⟩;rw[qc,aG he];exact eE k
theorem oq{t:TS}(hi:σ[i]?=some (some (.str x)))(dX:x≠Str.ofString R)(h:u D σ H):cU (eh (iE i R) t2) t u D σ H:=by
 refine⟨_,hi,rfl,_,rfl,?_⟩;rw[qc,aa dX];exact dE (dE h)
theorem mH{t:TS}(hi:σ[i]?=some (some (.str x)))(he:x=Str.ofString R)(h:cU t2 t u D σ H):cU (eh (iE i R) t2) t u D σ H:=by
 refine⟨_,hi,rfl,_,rfl,?_⟩;rw[qc,aG he];exact eE h
theorem rp{t:TS}(hj:σ[j]?=some (some v))(h:cy K H v d)(dX:d.hd≠Str.ofString W)(k:u D σ H):cU (eh (gG K j W) t2) t u D σ H:=by
 obtain⟨a,xs,rfl,g,e⟩:=h.nA;refine⟨_,hj,a,xs,0,_,rfl,rfl,g,cc (j:=0) e,rfl,_,rfl,?_⟩;rw[qc,aa dX];exact dE (dE k)
theorem yZ{t:TS}(hj:σ[j]?=some (some v))(h:cy K H v d)(he:d.hd=Str.ofString W)(k:cU t2 t u D σ H):cU (eh (gG K j W) t2) t u D σ H:=by
 obtain⟨a,xs,rfl,g,e⟩:=h.nA;refine⟨_,hj,a,xs,0,_,rfl,rfl,g,cc (j:=0) e,rfl,_,rfl,?_⟩;rw[qc,aG he];exact eE k
end
theorem ou:∀e∈iW,e.1≠Str.ofString "times"/\e.1≠Str.ofString "back"/\e.1≠Str.ofString "beside"/\e.1≠Str.ofString "then":=by decide +kernel
def jS(K:Frag)(H:Hp)(v:V):Option Dw->Prop
 |none=>v=.cC
 |some d=>cy K H v d
noncomputable def iu(p:Int)(x:Str):Dw->Option Dw
 | .times n=>if x=Str.ofString "turnscale"/\n≠0 then some (.times (jO p n))else none
 |_=>none
noncomputable def ia(x:Str):Dw->Option Dw
 | .box y l r=>if x=Str.ofString "turnid"/\(y=Str.ofString "id"\/y=Str.ofString "swap"\/y=Str.ofString "empty")then some (.box y l r)else none
 |_=>none
noncomputable def iL(x:Str):Dw->Option Dw
 | .back e=>if x=Str.ofString "twice" then some e else none
 |_=>none
noncomputable def iM(x:Str):Dw->Option Dw
 | .bj a b=>if x=Str.ofString "turnthen" then some (.bj (.back b) (.back a))else none
 |_=>none
noncomputable def iN(x:Str):Dw->Option Dw
 | .bt a b=>if x=Str.ofString "turnbeside" then some (.bt (.back a) (.back b))else none
 |_=>none
noncomputable def e8(p:Int)(x:Str)(d:Dw):Option Dw:=(iu p x d).or ((ia x d).or ((iL x d).or ((iM x d).or (iN x d))))
def PH(K:Frag):TE:=bw (gJ K) (ve (DI (bo (br 0) bQ)) 1 [0,2] (bY 0) (eM (bw lz (bw g6 (bw (rI w8 λi j=>.int (i*j)) (br 0) (gK K 2 1)) (br 1)) (tC (.int 1)))) (br 0)) (tC (.int 0))
theorem aaN{z a b:Int}(a0:0<=a)(a1:a<p)(b0:0<=b)(b1:b<p)(h1:a*z%p=1)(h2:b*z%p=1):a=b:=by
 have e1:a*(b*z)%p=a:=by rw[Int.mul_emod,h2,Int.mul_one,Int.emod_emod,Int.emod_eq_of_lt a0 a1]
 have e2:b*(a*z)%p=b:=by rw[Int.mul_emod,h1,Int.mul_one,Int.emod_emod,Int.emod_eq_of_lt b0 b1]
 rw[show a*(b*z)=b*(a*z) by rw[<- Int.mul_assoc,<- Int.mul_assoc,Int.mul_comm a b],e2]at e1;exact e1.symm
theorem aaO{K:Frag}{n:Int}{a:Addr}{Q:VK}(h0:σ[0]?=some (some (.int p)))(h2:σ[2]?=some (some (.ref a)))(g:cg K H a [.str "times",.int n])(pp:p∈eZ)(n0:1<=n)(n1:n<p)(q:∀H1,bh H H1->Q (.int (jO p n)) H1):PH K σ H Q:=by
 obtain⟨p2,cf⟩:=pX p pp;obtain⟨t1,t2,PJ⟩:=Mh pp n0 n1;refine⟨_,h0,p,rfl,by lia,by lia,?_⟩;have eb:o7 1 [0,2] σ=List.replicate 1 none++[some (.int p),some (.ref a)]:=by
  simp[o7,h0,h2]
 rw[eb];have z97:(97:Nat)<=sizeLine:=by decide
 refine VL (n:=p.toNat) (lo:=0) (λj H' zs=>zs=((List.range j).filter λ(u:Nat)=>decide ((u:Int)*n%p=1)).map λ(u:Nat)=>V.int u) (by lia) rfl
  (λj H' zs e=>by rw[e,cB];exact dj (List.length_filter_le _ _) (by rw[List.length_range];exact cF _)) ?_ ?_
 ·rintro j H' zs hj yl rfl;rw[Int.zero_add];refine⟨_,rfl,_,rfl,a,_,1,.int n,rfl,rfl,yl.cV g,cc (j:=1) rfl,_,_,rfl,rfl,.inl ⟨by lia,by lia⟩,_,rfl,_,_,rfl,rfl,(by show(0:Int)<p;lia),rfl,_,rfl,lC (λheq=>?_) (λdX=>?_)⟩
  ·have aaP:(j:Int)*n%p=1:=V.int.inj (aM heq);refine⟨_,rfl,⟨[_],rfl,rfl⟩,yl,?_⟩;rw[wI,List.filter_append,List.filter_cons_of_pos (by simpa using aaP),List.filter_nil,ig];rfl
  ·have aaQ:¬(j:Int)*n%p=1:=λz=>dX (aG (ai V.int z));refine⟨⟨[_],rfl,rfl⟩,yl,?_⟩;rw[wI,List.filter_append,List.filter_cons_of_neg (by simpa using aaQ),List.filter_nil,gU]
 rintro H6 zs vR ez lc qg;have PK:(jO p n).toNat∈(List.range p.toNat).filter λ(u:Nat)=>decide ((u:Int)*n%p=1):=by
  refine uf.mpr ⟨qq.mpr (by lia),?_⟩
  have:((jO p n).toNat:Int)=jO p n:=by lia
  rw[this];simpa using PJ
 cases y0:(List.range p.toNat).filter λ(u:Nat)=>decide ((u:Int)*n%p=1) with
 |nil=>rw[y0]at PK;cases PK
 |cons tn us=>
  have eJ:tn∈(List.range p.toNat).filter λ(u:Nat)=>decide ((u:Int)*n%p=1):=by rw[y0];exact c6
  have t3:(tn:Int)*n%p=1:=by simpa using(uf.mp eJ).2
  have tl':=qq.mp (uf.mp eJ).1;rw[y0]at ez;have e:(tn:Int)=jO p n:=aaN (by lia) (by lia) (by lia) t2 t3 PJ;refine⟨lc,zs,0,.int (jO p n),rfl,rfl,.of bz,cc (j:=0) (by rw[ez,<- e];rfl),q _ (vR.trans (.upd qg))⟩
section
variable{K:Frag}{D:Ends}{σ:St}{H:Hp}{u:TS}{p:Int}{x:Str}{a:Addr}{d:Dw}
def PL(K:Frag)(u:TS):TS:=cu (cU (eh (iE 1 "turnscale") (eh (gG K 2 "times") (eM (bw zX (gK K 2 1) (tC (.int 0)))))) (dG (eX (bo (tC (.str "times")) (bo (PH K) bQ)))) eA) u
theorem aaR(h0:σ[0]?=some (some (.int p)))(h1:σ[1]?=some (some (.str x)))(h2:σ[2]?=some (some (.ref a)))(h:cy K H (.ref a) d)(hd:d.ok p)(pp:p∈eZ)
  (q:∀Y,iu p x d=some Y->∀v H',bh H H'->cy K H' v Y->D.rt v H') (k:iu p x d=none->u D σ H):PL K u D σ H:=by
 by_cases e:x=Str.ofString "turnscale"
 rotate_left
 ·exact oq h1 e (k (by unfold iu;split<;>simp[e]))
 refine mH h1 e ?_;cases h with
 |times g=>
  rename_i n
  refine yZ h2 (.times g) rfl ?_;refine⟨_,h2,a,_,1,.int n,rfl,rfl,g,cc (j:=1) rfl,rfl,_,rfl,?_⟩;have hd:0<=n/\n<p:=hd;by_cases z:n=0
  ·subst z;refine dE (k ?_);unfold iu;simp
  ·have e2:(!decide (V.int n=V.int 0))=true:=by
    rw[aa (λy=>z (V.int.inj y))];rfl
   rw[e2];refine eE (aaO h0 h2 g pp (by lia) hd.2 λH1 s1=>⟨by show 2<=sizeLine;decide,λl hl=>?_⟩);refine q (.times (jO p n)) (ae ⟨e,z⟩) _ _ (s1.trans (.upd hl)) (.times (.of bz))
 |box g=>exact rp h2 (.box (l:=0) (r:=0) g) (ou _ hd).1 (k rfl)
 |back g i=>exact rp h2 (.back g i) (by show Str.ofString "back" ≠ _;decide) (k rfl)
 |bt g i j=>exact rp h2 (.bt g i j) (by show Str.ofString "beside" ≠ _;decide) (k rfl)
 |bj g i j=>exact rp h2 (.bj g i j) (by show Str.ofString "then" ≠ _;decide) (k rfl)
noncomputable def y3:List V:=[.str "id",.str "swap",.str "empty"]
def PM(K:Frag)(u:TS):TS:=cu (cU (eh (iE 1 "turnid") (eM (bw (xi K false) (gK K 2 0) (cP (bo (tC (.str "id")) (bo (tC (.str "swap")) (bo (tC (.str "empty")) bQ))))))) (dG (br 2)) eA) u
theorem inE:∀e∈iW,il (.str e.1) y3=decide (e.1=Str.ofString "id"\/e.1=Str.ofString "swap"\/e.1=Str.ofString "empty"):=by decide +kernel
theorem aaS(h1:σ[1]?=some (some (.str x)))(h2:σ[2]?=some (some (.ref a)))(h:cy K H (.ref a) d)(hd:d.ok p)
  (q:∀Y,ia x d=some Y->∀v H',bh H H'->cy K H' v Y->D.rt v H') (k:ia x d=none->∀H',bh H H'->u D σ H'):PM K u D σ H:=by
 by_cases e:x=Str.ofString "turnid"
 rotate_left
 ·exact oq h1 e (k (by unfold ia;split<;>simp[e]) H (.refl _))
 refine mH h1 e ?_;obtain⟨a',xs,e',g,e0⟩:=h.nA;cases e';refine⟨_,h2,a,xs,0,_,rfl,rfl,g,cc (j:=0) e0,by show 3<=sizeLine;decide,λl hl=>⟨l,y3,rfl,.inl (.of bz),rfl,rfl,_,rfl,?_⟩⟩;have s1:=bh.upd (o:=.lst y3) hl;show if(il (.str d.hd) y3)=true then _ else _
 cases d with
 |box y m r=>
  rw[show il (.str (Dw.hd (.box y m r))) y3=_ from inE _ hd]
  refine lC (λc=>?_) (λc=>?_)
  ·exact⟨_,h2,q (.box y m r) (ae ⟨e,aM c⟩) _ _ s1 (h.tup s1.tup)⟩
  ·exact k (af (λz=>c (aG z.2))) _ s1
 |times n=>exact k rfl _ s1
 |back f=>exact k rfl _ s1
 |bt f g=>exact k rfl _ s1
 |bj f g=>exact k rfl _ s1
def PN(K:Frag)(u:TS):TS:=cu (cU (eh (iE 1 "twice") (gG K 2 "back")) (dG (gK K 2 1)) eA) u
theorem aaT(h1:σ[1]?=some (some (.str x)))(h2:σ[2]?=some (some (.ref a)))(h:cy K H (.ref a) d)(hd:d.ok p)
  (q:∀Y,iL x d=some Y->∀v H',bh H H'->cy K H' v Y->D.rt v H') (k:iL x d=none->u D σ H):PN K u D σ H:=by
 by_cases e:x=Str.ofString "twice"
 rotate_left
 ·exact oq h1 e (k (by unfold iL;split<;>simp[e]))
 refine mH h1 e ?_;cases h with
 |back g i=>exact qf h2 (.back g i) rfl ⟨_,h2,a,_,1,_,rfl,rfl,g,cc (j:=1) rfl,q _ (ae e) _ _ (.refl _) i⟩
 |box g=>exact fY h2 (.box (l:=0) (r:=0) g) (ou _ hd).2.1 (k rfl)
 |times g=>exact fY h2 (.times g) (by show Str.ofString "times" ≠ _;decide) (k rfl)
 |bt g i j=>exact fY h2 (.bt g i j) (by show Str.ofString "beside" ≠ _;decide) (k rfl)
 |bj g i j=>exact fY h2 (.bj g i j) (by show Str.ofString "then" ≠ _;decide) (k rfl)
def vT(K:Frag)(i:Int):TE:=eX (bo (tC (.str "back")) (bo (gK K 2 i) bQ))
theorem PQ{i j:Int}{xs:List V}{v1 v2:V}{d1 d2:Dw}{Q:VK}(h2:σ[2]?=some (some (.ref a)))(g:cg K H a xs)(e1:jK xs i=some v1)(e2:jK xs j=some v2)(t1:cy K H v1 d1)(t2:cy K H v2 d2)
  (q:∀l u1 u2 H',bh H H'->cg K H' l [.str W,u1,u2]->cy K H' u1 (.back d1)->cy K H' u2 (.back d2)->Q (.ref l) H'):eX (bo (tC (.str W)) (bo (vT K i) (bo (vT K j) bQ))) σ H Q:=by
 refine⟨_,h2,a,xs,i,v1,rfl,rfl,g,e1,by show 2<=sizeLine;decide,λl1 lQ=>?_⟩;have s1:=bh.upd (o:=.tup [.str "back",v1]) lQ;refine⟨_,h2,a,xs,j,v2,rfl,rfl,s1.cV g,e2,by show 2<=sizeLine;decide,λl2 ip=>?_⟩;have s2:=bh.upd (o:=.tup [.str "back",v2]) ip;refine⟨by show 3<=sizeLine;decide,λl3 y4=>?_⟩;have s3:=bh.upd (o:=.tup [.str W,.ref l1,.ref l2]) y4;have s:=s1.trans (s2.trans s3);exact q l3 _ _ _ s (.of bz) (.back (.of ((s2.trans s3) _ _ bz)) (t1.tup s.tup)) (.back (.of (s3 _ _ bz)) (t2.tup s.tup))
def PR(K:Frag)(u:TS):TS:=cu (cU (eh (iE 1 "turnthen") (gG K 2 "then")) (dG (eX (bo (tC (.str "then")) (bo (vT K 2) (bo (vT K 1) bQ))))) eA) u
theorem aaU(h1:σ[1]?=some (some (.str x)))(h2:σ[2]?=some (some (.ref a)))(h:cy K H (.ref a) d)(hd:d.ok p)
  (q:∀Y,iM x d=some Y->∀v H',bh H H'->cy K H' v Y->D.rt v H') (k:iM x d=none->u D σ H):PR K u D σ H:=by
 by_cases e:x=Str.ofString "turnthen"
 rotate_left
 ·exact oq h1 e (k (by unfold iM;split<;>simp[e]))
 refine mH h1 e ?_;cases h with
 |bj g i j=>exact qf h2 (.bj g i j) rfl (PQ h2 g (cc (j:=2) rfl) (cc (j:=1) rfl) j i λl u1 u2 H' s' g' b1 b2=>q _ (ae e) _ _ s' (.bj g' b1 b2))
 |box g=>exact fY h2 (.box (l:=0) (r:=0) g) (ou _ hd).2.2.2 (k rfl)
 |times g=>exact fY h2 (.times g) (by show Str.ofString "times" ≠ _;decide) (k rfl)
 |bt g i j=>exact fY h2 (.bt g i j) (by show Str.ofString "beside" ≠ _;decide) (k rfl)
 |back g i=>exact fY h2 (.back g i) (by show Str.ofString "back" ≠ _;decide) (k rfl)
def PU(K:Frag)(u:TS):TS:=cu (cU (eh (iE 1 "turnbeside") (gG K 2 "beside")) (dG (eX (bo (tC (.str "beside")) (bo (vT K 1) (bo (vT K 2) bQ))))) eA) u
theorem aaV(h1:σ[1]?=some (some (.str x)))(h2:σ[2]?=some (some (.ref a)))(h:cy K H (.ref a) d)(hd:d.ok p)
  (q:∀Y,iN x d=some Y->∀v H',bh H H'->cy K H' v Y->D.rt v H') (k:iN x d=none->u D σ H):PU K u D σ H:=by
 by_cases e:x=Str.ofString "turnbeside"
 rotate_left
 ·exact oq h1 e (k (by unfold iN;split<;>simp[e]))
 refine mH h1 e ?_;cases h with
 |bt g i j=>exact qf h2 (.bt g i j) rfl (PQ h2 g (cc (j:=1) rfl) (cc (j:=2) rfl) i j λl u1 u2 H' s' g' b1 b2=>q _ (ae e) _ _ s' (.bt g' b1 b2))
 |box g=>exact fY h2 (.box (l:=0) (r:=0) g) (ou _ hd).2.2.1 (k rfl)
 |times g=>exact fY h2 (.times g) (by show Str.ofString "times" ≠ _;decide) (k rfl)
 |bj g i j=>exact fY h2 (.bj g i j) (by show Str.ofString "then" ≠ _;decide) (k rfl)
 |back g i=>exact fY h2 (.back g i) (by show Str.ofString "back" ≠ _;decide) (k rfl)
end
noncomputable def Dw.num:Dw->Int
 | .times n=>n
 |_=>0
noncomputable def vU(p:Int)(x:Str)(a b:Dw):Option Dw:=if x=Str.ofString "scale"/\a.hd=Str.ofString "times"/\b.hd=Str.ofString "times" then some (.times (a.num*b.num%p))else none
noncomputable def vV(x:Str)(a b:Dw):Option Dw:=if x=Str.ofString "scalecopy"/\a.hd=Str.ofString "times"/\b.hd=Str.ofString "copy" then some (.bj b (.bt a a))else none
noncomputable def vW(x:Str)(a b:Dw):Option Dw:=if x=Str.ofString "scaleadd"/\a.hd=Str.ofString "add"/\b.hd=Str.ofString "times" then some (.bj (.bt b b) a)else none
noncomputable def jT(p:Int)(x:Str)(a b:Dw):Option Dw:=(vU p x a b).or ((vV x a b).or (vW x a b))
section
variable{K:Frag}{D:Ends}{σ:St}{H:Hp}{t u:TS}{p:Int}{x:Str}{u1 u2:V}{a b:Dw}
theorem B0{k:Nat}{A B:String}(h1:σ[i]?=some (some (.str x)))(h2:σ[j]?=some (some u1))(h3:σ[k]?=some (some u2))(ha:cy K H u1 a)(hb:cy K H u2 b)
  (yes:x=Str.ofString R/\a.hd=Str.ofString A/\b.hd=Str.ofString B->t D σ H) (no:¬(x=Str.ofString R/\a.hd=Str.ofString A/\b.hd=Str.ofString B)->u D σ H):cU (eh (iE i R) (eh (gG K j A) (gG K k B))) t u D σ H:=by
 by_cases e1:x=Str.ofString R
 rotate_left
 ·exact oq h1 e1 (no λz=>e1 z.1)
 by_cases e2:a.hd=Str.ofString A
 rotate_left
 ·exact mH h1 e1 (rp h2 ha e2 (no λz=>e2 z.2.1))
 by_cases e3:b.hd=Str.ofString B
 ·exact mH h1 e1 (yZ h2 ha e2 (qf h3 hb e3 (yes ⟨e1,e2,e3⟩)))
 ·exact mH h1 e1 (yZ h2 ha e2 (fY h3 hb e3 (no λz=>e3 z.2.2)))
theorem PV(h:cy K H u1 a)(ok:a.ok p)(e:a.hd=Str.ofString "times"):∃l,u1=.ref l/\a=.times a.num/\cg K H l [.str "times",.int a.num]/\0<=a.num/\a.num<p:=by
 cases h with
 |times g=>exact⟨_,rfl,rfl,g,ok⟩
 |box g=>exact absurd e (ou _ ok).1
 |back g i=>exact absurd (show Str.ofString "back"=Str.ofString "times" from e) (by decide)
 |bt g i j=>exact absurd (show Str.ofString "beside"=Str.ofString "times" from e) (by decide)
 |bj g i j=>exact absurd (show Str.ofString "then"=Str.ofString "times" from e) (by decide)
end
def Io(K:Frag):Sp:=λvs H Q _=>∃(p:Int)(x:Str)(u1 u2:V)(a b:Dw),vs=[.int p,.str x,u1,u2]/\2<=p/\p<=97/\cy K H u1 a/\cy K H u2 b/\a.ok p/\b.ok p/\∀v H',bh H H'->jS K H' v (jT p x a b)->Q v H'
theorem aaW:dD ["p","rule","one","other"] ["p","rule","one","other"] (cN Ff):=dU rfl rfl rfl (by decide +kernel) rfl
theorem aaX{f:Addr}{fd:FuncData}(F:c9 K "_law_numbers" "_law_numbers" Ff f fd):ck P w K mg base cA 1 f fd ["p","rule","one","other"] (Io K):=by
 refine F.ok aaW (λvs H Q E h=>?_) (λcI A outer s H vs Q E hr h=>?_)
 ·obtain⟨p,x,u1,u2,a,b,rfl,_⟩:=h;rfl
 ·obtain⟨p,x,u1,u2,a,b,rfl,p2,cf,ha,hb,oa,ob,q⟩:=h;have Ip:∀{X:Cx}{e1 e2 e3:Expr}{pos:Pos}{A B C:TT},PT X e1 A->PT X e2 B->PT X e3 C->PT X (.BoolOp .And [e1,e2,e3] pos) (eh A (eh B C)):=λh1 h2 h3=>PW.pt (fQ h1 (fQ h2 (iB h3)));refine⟨cu (cU (eh (iE 1 "scale") (eh (gG K 2 "times") (gG K 3 "times"))) (dG (eX (bo (tC (.str "times")) (bo (bw g6 (bw (rI w8 λi j=>.int (i*j)) (gK K 2 1) (gK K 3 1)) (br 0)) bQ)))) eA) (cu (cU (eh (iE 1 "scalecopy") (eh (gG K 2 "times") (gG K 3 "copy"))) (dG (eX (bo (tC (.str "then")) (bo (br 3) (bo (eX (bo (tC (.str "beside")) (bo (br 2) (bo (br 2) bQ)))) bQ))))) eA) (cu (cU (eh (iE 1 "scaleadd") (eh (gG K 2 "add") (gG K 3 "times"))) (dG (eX (bo (tC (.str "then")) (bo (eX (bo (tC (.str "beside")) (bo (br 3) (bo (br 3) bQ)))) (bo (br 2) bQ))))) eA) (dG (tC .cC)))),?_,?_⟩
  ·refine bD (cO (Ip (cj cS (pv 1) bI (cm _)) (cj cS (bO (cJ K rfl) (pv 2) bp) bI (cm _)) (cj cS (bO (cJ K rfl) (pv 3) bp) bI (cm _))) (bK (cE (dh (bg bI (bg (bH eI (bH qC (bO (cJ K rfl) (pv 2) bp) (bO (cJ K rfl) (pv 3) bp)) (pv 0)) bq))))) cW) ?_;refine bD (cO (Ip (cj cS (pv 1) bI (cm _)) (cj cS (bO (cJ K rfl) (pv 2) bp) bI (cm _)) (cj cS (bO (cJ K rfl) (pv 3) bp) bI (cm _))) (bK (cE (dh (bg bI (bg (pv 3) (bg (dh (bg bI (bg (pv 2) (bg (pv 2) bq)))) bq)))))) cW) ?_;refine bD (cO (Ip (cj cS (pv 1) bI (cm _)) (cj cS (bO (cJ K rfl) (pv 2) bp) bI (cm _)) (cj cS (bO (cJ K rfl) (pv 3) bp) bI (cm _))) (bK (cE (dh (bg bI (bg (dh (bg bI (bg (pv 3) (bg (pv 3) bq)))) (bg (pv 2) bq)))))) cW) ?_;exact bK (cE gW)
  ·have z3:3<=sizeLine:=by decide
   have fin:∀{r:Option Dw}{v:V}{H':Hp},jT p x a b=r->bh H H'->jS K H' v r->Q v H':=λe s' o=>q _ _ s' (e▸o);refine B0 rfl rfl rfl ha hb (λc=>?_) λc1=>?_
   ·obtain⟨la,rfl,ea,ga,a0,a1⟩:=PV ha oa c.2.1;obtain⟨lb,rfl,eb,gb,b0,b1⟩:=PV hb ob c.2.2;refine⟨_,rfl,la,_,1,.int a.num,rfl,rfl,ga,cc (j:=1) rfl,_,rfl,lb,_,1,.int b.num,rfl,rfl,gb,cc (j:=1) rfl,_,_,rfl,rfl,.inl ⟨by lia,by lia⟩,_,rfl,_,_,rfl,rfl,(by show(0:Int)<p;lia),by show 2<=sizeLine;lia,λl hl=>?_⟩;exact fin (r:=some (.times (a.num*b.num%p))) (by unfold jT vU;rw[ae c];rfl) (.upd hl) (.times (.of bz))
   have e1:vU p x a b=none:=af c1;refine B0 rfl rfl rfl ha hb (λc=>?_) λc2=>?_
   ·refine⟨_,rfl,_,rfl,_,rfl,by show 3<=sizeLine;lia,λl1 h1=>⟨by show 3<=sizeLine;lia,λl hl=>?_⟩⟩;have s1:=bh.upd (o:=.tup [.str "beside",u1,u1]) h1;have s2:=bh.upd (o:=.tup [.str "then",u2,.ref l1]) hl;have s:=s1.trans s2;exact fin (r:=some (.bj b (.bt a a))) (by unfold jT vV;rw[e1,ae c];rfl) s (.bj (.of bz) (hb.tup s.tup) (.bt (.of (s2 _ _ bz)) (ha.tup s.tup) (ha.tup s.tup)))
   have e2:vV x a b=none:=af c2;refine B0 rfl rfl rfl ha hb (λc=>?_) λc3=>?_
   ·refine⟨_,rfl,_,rfl,by show 3<=sizeLine;lia,λl1 h1=>⟨_,rfl,by show 3<=sizeLine;lia,λl hl=>?_⟩⟩;have s1:=bh.upd (o:=.tup [.str "beside",u2,u2]) h1;have s2:=bh.upd (o:=.tup [.str "then",.ref l1,u1]) hl;have s:=s1.trans s2;exact fin (r:=some (.bj (.bt b b) a)) (by unfold jT vW;rw[e1,e2,ae c];rfl) s (.bj (.of bz) (.bt (.of (s2 _ _ bz)) (hb.tup s.tup) (hb.tup s.tup)) (ha.tup s.tup))
   ·exact fin (r:=none) (by unfold jT;rw[e1,e2,show vW x a b=none from af c3];rfl) (.refl _) rfl
end S21
namespace L2
open PySem PySem.Spec PyProof.Rows
section
variable{X:Cx}
variable{o e:Expr}{es:List Expr}{to:TE}{t:TA}{name:Str}{gX dW:Pos}{id:String}{r:V->List V->Hp->VK->Prop}
noncomputable def B1(z:Str):Value->Bool
 | .str y _=>y==z
 |_=>false
noncomputable def B2:V->Bool
 | .str _=>true
 | .int _=>true
 |_=>false
noncomputable def ow(z:Str)(xs:List V):Nat:=xs.countP λv=>gF v (.str z)
theorem PX{z:Str}:∀{ys:List V}{us:List Value},Vals ys us->ys.all B2=true->us.countP (B1 z)=ow z ys
 | [],_,.nil,_=>rfl
 |y::ys,_,.cons r rr,h=>by
  obtain⟨h1,h2⟩:=zG.mp h;have ih:=PX (z:=z) rr h2;unfold ow at ih |-;rw[List.countP_cons,List.countP_cons,ih];cases y with
  |str y=>obtain⟨t,rfl⟩:=r;rfl
  |int y=>obtain⟨t,rfl⟩:=r;rfl
  |_=>cases h1
theorem PY{A:Around}{s:Shared}{z:Str}{t:Tok}:∀{ys:List V}{us:List Value},Vals ys us->ys.all B2=true->∀u∈us,SeqAt.EqAt A s u (.str z t) (B1 z u)
 | [],_,.nil,_,u,h=>nomatch h
 |y::ys,_,.cons r rr,h,u,hm=>by
  obtain⟨h1,h2⟩:=zG.mp h;rcases(dI.mp hm)with rfl|hm
  ·cases y with
   |str y=>obtain⟨t',rfl⟩:=r;exact SeqAt.EqAt.str_str y t' z t
   |int y=>obtain⟨t',rfl⟩:=r;exact SeqAt.EqAt.int_str y t' z t
   |_=>cases h1
  ·exact PY rr h2 u hm
end
section
variable{X:Cx}
def PZ:V->List V->Hp->VK->Prop:=λx xs H Q=>∃(p:Addr)(ys:List V)(z:Str),x=.ref p/\xs=[.str z]/\H p=some (.lst ys)/\ys.all B2=true/\Q (.int (ow z ys:Nat)) H
theorem P0:uY X "list.count" PZ:=by
 intro bc s σ H x xs v us Q I rx rs h;obtain⟨p,ys,z,rfl,rfl,hp,hy,q⟩:=h;cases rx;obtain⟨u,rfl,tu,rfl⟩:=Vals.one rs;obtain⟨_,its,n,rv,hl,e⟩:=I.o5 hp;refine call_meets F.slot_list_count ⟨_,e,rfl⟩ F.entry_list_count (F.args_list_count_2 _ _) (PySem.SeqAt.list_countAt p its.toArray n none #[] (.str z tu) (B1 z)) ⟨e,λy hm=>PY rv hy y (by simpa using hm),?_⟩;refine⟨.int (ow z ys:Nat),H,I.tok _,⟨s.toks,?_⟩,q⟩;show Value.int ((its.toArray.toList.countP (B1 z):Nat):Int) s.toks=_;rw[show its.toArray.toList=its from rfl,PX rv hy]
end
end L2
namespace S21
open PySem L2 Bw
variable{H:Hp}{d:Dw}{p:Int}{v:V}{x:Str}
noncomputable def oz:List (Str×Nat×Nat):=[("id",1,1),("swap",2,2),("copy",1,2),("end",1,0),("add",2,1),("none",0,1),("cup",0,2),("empty",0,0)]
def Dw.clean:Dw->Prop
 | .box x l r=>(x,l,r)∈oz
 | .times _=>True
 | .back d=>d.clean
 | .bt a b=>a.clean/\b.clean
 | .bj a b=>a.clean/\b.clean
noncomputable def y6:List String:=["copy","end","id","times","add","add","swap","swap"]
noncomputable def y8:List String:=["copy","copy","none","cup","cup","id","times","add","swap","swap"]
def tW:List String->TA
 | []=>bQ
 |x::r=>bo (tC (.str x)) (tW r)
theorem P4{σ:St}{H:Hp}:∀(l:List String){Q:List V->Hp->Prop},Q (l.map λx=>.str (Str.ofString x)) H->tW l σ H Q
 | [],_,h=>h
 |_::r,_,h=>P4 r h
noncomputable def vS(l:List String):List V:=l.map λx=>.str (Str.ofString x)
theorem aaY:∀e∈oz,ow e.1 (vS y6)=e.2.1/\ow e.1 (vS y8)=e.2.2:=by decide +kernel
theorem P5:ow (Str.ofString "times") (vS y6)=1/\ow (Str.ofString "times") (vS y8)=1:=by decide +kernel
theorem aaZ:∀e∈oz,e.1≠Str.ofString "times"/\e.1≠Str.ofString "back"/\e.1≠Str.ofString "beside"/\e.1≠Str.ofString "then":=by decide +kernel
noncomputable def y9(d:Dw)(s:Bool):Nat:=if s then d.lN else d.lM
noncomputable def sI(s:Bool):Int:=if s then 1 else 0
def tX(K:Frag)(n:Nat):Sp:=λvs H Q _=>∃(v:V)(s:Bool)(d:Dw),vs=[v,.int (sI s)]/\cy K H v d/\d.clean/\d.dep<=n/\∀H',bh H H'->Q (.int (y9 d s:Nat)) H'
theorem P6(d:Dw):1<=d.dep:=by
 cases d with
 |box x l r=>exact cF 1
 |times n=>exact cF 1
 |back d=>exact Nat.le_add_left _ _
 |bt a b=>exact Nat.le_add_left _ _
 |bj a b=>exact Nat.le_add_left _ _
def za(K:Frag)(l:List String):TE:=o4 K "list" PZ (cP (tW l)) (bo (gK K 0 0) bQ)
def Iq(K:Frag):TS:=cu (cR (za K y6) (bY 2)) (cu (cR (za K y8) (bY 3)) (dG (bw (gJ K) (cP (bo (br 2) (bo (br 3) bQ))) (br 1))))
section
variable{K:Frag}
theorem P7{σ:St}{l:List String}{Q:VK}(h0:σ[0]?=some (some v))(h:cy K H v d)(hl:l.length<=100)(hw:(vS l).all B2=true)(q:∀H',bh H H'->Q (.int (ow d.hd (vS l):Nat)) H'):za K l σ H Q:=by
 have z:(100:Nat)<=sizeLine:=by decide
 refine P4 l ⟨by rw[cB];lia,λa ha=>?_⟩;have s1:=bh.upd (o:=.lst (vS l)) ha;obtain⟨b,xs,rfl,g,e⟩:=(h.tup s1.tup).nA;exact⟨.inl ⟨rfl,_,dC.of bz⟩,_,h0,b,xs,0,_,rfl,rfl,g,cc (j:=0) e,a,vS l,d.hd,rfl,rfl,bz,hw,q _ s1⟩
theorem P8{D:Ends}{s:Bool}{s2 s3:Option V}{l r:Nat}(h:cy K H v d)(c1:ow d.hd (vS y6)=l)(c2:ow d.hd (vS y8)=r)(q:∀H',bh H H'->D.rt (.int ((if s then r else l:Nat):Int)) H'):Iq K D [some v,some (.int (sI s)),s2,s3] H:=by
 refine P7 rfl h (by decide) (by decide +kernel) λH1 s1=>?_;rw[c1];refine P7 rfl (h.tup s1.tup) (by decide) (by decide +kernel) λH2 s2=>?_;rw[c2];refine⟨_,rfl,_,rfl,by show 2<=sizeLine;decide,λa ha=>?_⟩;have s3:=(s1.trans s2).trans (bh.upd (o:=.lst [.int (l:Int),.int (r:Int)]) ha);cases s with
 |true=>exact⟨_,rfl,a,_,1,_,rfl,rfl,.of bz,cc (j:=1) rfl,q _ s3⟩
 |false=>exact⟨_,rfl,a,_,0,_,rfl,rfl,.of bz,cc (j:=0) rfl,q _ s3⟩
end
theorem B3:dD ["tree","side","left","right"] ["tree","side"] (cN Fg):=dU rfl rfl rfl (by decide +kernel) rfl
def P9(K:Frag)(n:Nat):TS:=cu (cU (gG K 0 "back") (dG (ij (tX K n) [] E0 (bo (gK K 0 1) (bo (bw (dZ λi j=>.int (i-j)) (tC (.int 1)) (br 1)) bQ)))) eA)
 (cu (cU (gG K 0 "beside") (dG (bw (dZ λi j=>.int (i+j)) (ij (tX K n) [] E0 (bo (gK K 0 1) (bo (br 1) bQ))) (ij (tX K n) [] E0 (bo (gK K 0 2) (bo (br 1) bQ))))) eA) (cu (cU (gG K 0 "then") (dG (ij (tX K n) [] E0 (bo (bw (xg K) (br 0) (bw (dZ λi j=>.int (i+j)) (tC (.int 1)) (br 1))) (bo (br 1) bQ)))) eA) (Iq K)))
theorem aa0{n:Nat}{D:Ends}{s:Bool}{s2 s3:Option V}(h:cy K H v d)(hc:d.clean)(hn:d.dep<=n+1)(q:∀H',bh H H'->D.rt (.int (y9 d s:Nat)) H'):P9 K n D [some v,some (.int (sI s)),s2,s3] H:=by
 cases h with
 | @box a x l r g=>
  obtain⟨b1,b2,b3,b4⟩:=aaZ _ hc;obtain⟨c1,c2⟩:=aaY _ hc;have t:cy K H (.ref a) (.box x l r):=.box g;refine fY rfl t b2 (fY rfl t b3 (fY rfl t b4 (P8 t c1 c2 λH' s'=>?_)))
  have:=q H' s'
  cases s<;>exact this
 | @times a n g=>
  have t:cy K H (.ref a) (.times n):=.times g;refine fY rfl t (by show Str.ofString "times" ≠ _;decide) (fY rfl t (by show Str.ofString "times" ≠ _;decide) (fY rfl t (by show Str.ofString "times" ≠ _;decide) (P8 t P5.1 P5.2 λH' s'=>?_)))
  have:=q H' s'
  cases s<;>exact this
 | @back a u e g i=>
  have hn:e.dep+1<=n+1:=hn;refine qf rfl (.back g i) rfl ?_;refine⟨_,rfl,a,_,1,u,rfl,rfl,g,cc (j:=1) rfl,_,rfl,_,_,rfl,rfl,u,!s,e,?_,i,hc,by lia,λH' s'=>?_⟩
  ·cases s<;>rfl
  ·have:=q H' s'
   cases s<;>exact this
 | @bt a u1 u2 e f g i j=>
  have hn:max e.dep f.dep+1<=n+1:=hn;have t:cy K H (.ref a) (.bt e f):=.bt g i j;refine fY rfl t (by show Str.ofString "beside" ≠ _;decide) (qf rfl t rfl ?_);refine⟨_,rfl,a,_,1,u1,rfl,rfl,g,cc (j:=1) rfl,_,rfl,u1,s,e,rfl,i,hc.1,by lia,λH1 s1=>?_⟩;refine⟨_,rfl,a,_,2,u2,rfl,rfl,s1.cV g,cc (j:=2) rfl,_,rfl,u2,s,f,rfl,j.tup s1.tup,hc.2,by lia,λH2 s2=>?_⟩;refine⟨_,_,rfl,rfl,?_⟩
  have:=q H2 (s1.trans s2)
  rw[show((y9 (.bt e f) s:Nat):Int)=((y9 e s:Nat):Int)+((y9 f s:Nat):Int) by cases s<;>exact Int.natCast_add _ _]at this
  exact this
 | @bj a u1 u2 e f g i j=>
  have hn:max e.dep f.dep+1<=n+1:=hn;have t:cy K H (.ref a) (.bj e f):=.bj g i j;refine fY rfl t (by show Str.ofString "then" ≠ _;decide) (fY rfl t (by show Str.ofString "then" ≠ _;decide) (qf rfl t rfl ?_));cases s with
  |false=>exact⟨_,rfl,_,rfl,_,_,rfl,rfl,a,_,1,u1,rfl,rfl,g,cc (j:=1) rfl,_,rfl,u1,false,e,rfl,i,hc.1,by lia,λH1 s1=>q H1 s1⟩
  |true=>exact⟨_,rfl,_,rfl,_,_,rfl,rfl,a,_,2,u2,rfl,rfl,g,cc (j:=2) rfl,_,rfl,u2,true,f,rfl,j,hc.2,by lia,λH1 s1=>q H1 s1⟩
noncomputable def Dw.tY:Dw->Bool
 | .box y _ _=>decide (y=Str.ofString "id")
 |_=>false
theorem Qa:kg d=.tuple [.str (Str.ofString "id")]↔d.tY=true:=by
 cases d with
 |box y l r=>
  show Dat.tuple [.str y]=_↔decide (y=Str.ofString "id")=true;constructor
  ·intro h;have h:=Dat.tuple.inj h;exact aG (Dat.str.inj (iP h).1)
  ·intro h;rw[aM h]
 |times n=>exact⟨λh=>by have:=ai List.length (Dat.tuple.inj h);simp at this,λh=>nomatch h⟩
 |back e=>exact⟨λh=>by have:=ai List.length (Dat.tuple.inj h);simp at this,λh=>nomatch h⟩
 |bt a b=>exact⟨λh=>by have:=ai List.length (Dat.tuple.inj h);simp at this,λh=>nomatch h⟩
 |bj a b=>exact⟨λh=>by have:=ai List.length (Dat.tuple.inj h);simp at this,λh=>nomatch h⟩
theorem B4{d e:Dat}{A B:Prop}{_:Decidable (d=e)}(h:d=e)(q:A):if(if false=true then !decide (d=e)else decide (d=e))=true then A else B:=by
 rw[aG h];exact eE q
theorem B5{d e:Dat}{A B:Prop}{_:Decidable (d=e)}(h:d≠e)(q:B):if(if false=true then !decide (d=e)else decide (d=e))=true then A else B:=by
 rw[aa h];exact dE q
noncomputable def tZ(x:Str)(b:Dw):Dw->Option Dw
 | .bj c d=>if x=Str.ofString "thread" then some (.bj c (.bj d b))else none
 |_=>none
noncomputable def lS(x:Str)(a b:Dw):Option Dw:=if x=Str.ofString "lone"/\a.tY=true then some b else none
noncomputable def qh(x:Str):Dw->Dw->Option Dw
 | .bt c d,.bt e f=>if x=Str.ofString "cross"/\c.lN=e.lM then some (.bt (.bj c e) (.bj d f))else none
 |_,_=>none
noncomputable def jm(x:Str)(a b:Dw):Option Dw:=(tZ x b a).or ((lS x a b).or ((lS x b a).or (qh x a b)))
section
variable{K:Frag}{D:Ends}{σ:St}{H:Hp}{u:TS}{p:Int}{x:Str}{u1 u2:V}{a b:Dw}
def Qb(K:Frag)(u:TS):TS:=cu (cU (eh (iE 0 "thread") (gG K 1 "then")) (dG (eX (bo (tC (.str "then")) (bo (gK K 1 1) (bo (eX (bo (tC (.str "then")) (bo (gK K 1 2) (bo (br 2) bQ)))) bQ))))) eA) u
theorem aa1(h0:σ[0]?=some (some (.str x)))(h1:σ[1]?=some (some u1))(h2:σ[2]?=some (some u2))(ha:cy K H u1 a)(hb:cy K H u2 b)(ok:a.ok p)
  (q:∀Y,tZ x b a=some Y->∀v H',bh H H'->cy K H' v Y->D.rt v H') (k:tZ x b a=none->u D σ H):Qb K u D σ H:=by
 by_cases e:x=Str.ofString "thread"
 rotate_left
 ·exact oq h0 e (k (by unfold tZ;split<;>simp[e]))
 refine mH h0 e ?_;cases ha with
 | @bj l v1 v2 c d g i j=>
  refine qf h1 (.bj g i j) rfl ?_;refine⟨_,h1,l,_,1,v1,rfl,rfl,g,cc (j:=1) rfl,_,h1,l,_,2,v2,rfl,rfl,g,cc (j:=2) rfl,_,h2,by show 3<=sizeLine;decide,λl1 lQ=>⟨by show 3<=sizeLine;decide,λl2 ip=>?_⟩⟩;have s1:=bh.upd (o:=.tup [.str "then",v2,u2]) lQ;have s2:=bh.upd (o:=.tup [.str "then",v1,.ref l1]) ip;have s:=s1.trans s2;exact q _ (ae e) _ _ s (.bj (.of bz) (i.tup s.tup) (.bj (.of (s2 _ _ bz)) (j.tup s.tup) (hb.tup s.tup)))
 |box g=>exact fY h1 (.box (l:=0) (r:=0) g) (ou _ ok).2.2.2 (k rfl)
 |times g=>exact fY h1 (.times g) (by show Str.ofString "times" ≠ _;decide) (k rfl)
 |bt g i j=>exact fY h1 (.bt g i j) (by show Str.ofString "beside" ≠ _;decide) (k rfl)
 |back g i=>exact fY h1 (.back g i) (by show Str.ofString "back" ≠ _;decide) (k rfl)
def tId(K:Frag)(j:Nat):TT:=eM (bw (vM K false) (br j) (eX (bo (tC (.str "id")) bQ)))
def Ir(K:Frag)(i j:Nat)(u:TS):TS:=cu (cU (eh (iE 0 "lone") (tId K i)) (dG (br j)) eA) u
theorem Qc{i j:Nat}(h0:σ[0]?=some (some (.str x)))(h1:σ[i]?=some (some u1))(h2:σ[j]?=some (some u2))(ha:cy K H u1 a)(hb:cy K H u2 b)(ok:a.ok p)(hd:a.dep<=60)
  (q:∀Y,lS x a b=some Y->∀v H',bh H H'->cy K H' v Y->D.rt v H') (k:lS x a b=none->∀H',bh H H'->u D σ H'):Ir K i j u D σ H:=by
 by_cases e:x=Str.ofString "lone"
 rotate_left
 ·exact oq h0 e (k (af λz=>e z.1) H (.refl _))
 refine mH h0 e ⟨_,h1,by show 1<=sizeLine;decide,λl hl=>?_⟩;have s1:=bh.upd (o:=.tup [.str "id"]) hl;refine⟨_,_,(ha.tup s1.tup).has,.tuple (.of bz) (.cons (.str _) .nil),qe ok (by lia),by decide +kernel,_,rfl,?_⟩;by_cases c:a.tY=true
 ·exact B4 (Qa.mpr c) ⟨_,h2,q b (ae ⟨e,c⟩) _ _ s1 (hb.tup s1.tup)⟩
 ·exact B5 (λz=>c (Qa.mp z)) (k (af λz=>c z.2) _ s1)
end
theorem Qd{f:Addr}{fd:FuncData}(F:c9 K "_law_side" "_law_side" Fg f fd)(b:Binds K fd ["tree","side"] [])(m:Mg mg "_law_side" f) :
  ∀n:Nat,ck P w K mg base cA (n+1) f fd ["tree","side"] (tX K n)
 |0=>by
  refine F.ok B3 (λvs H Q E h=>?_) (λcI A outer s H vs Q E hr h=>?_)
  ·obtain⟨v,s,d,rfl,_⟩:=h;rfl
  ·obtain⟨v,s,d,rfl,_,_,hn,_⟩:=h
   have:=P6 d
   exact absurd hn (by lia)
 |n+1=>by
  have G:=Qd F b m n;refine F.ok B3 (λvs H Q E h=>?_) (λcI A outer s H vs Q E hr h=>?_)
  ·obtain⟨v,s,d,rfl,_⟩:=h;rfl
  ·obtain⟨v,s,d,rfl,h,hc,hn,q⟩:=h;refine⟨P9 K n,?_,aa0 h hc hn q⟩;refine bD (cO (cj cS (bO (cJ K rfl) (pv 0) bp) bI (cm _)) (bK (cE (cZ G hr rfl m F.kp b .nil cX (bg (bO (cJ K rfl) (pv 0) bp) (bg (bH jZ bp (pv 1)) bq))))) cW) ?_;refine bD (cO (cj cS (bO (cJ K rfl) (pv 0) bp) bI (cm _)) (bK (cE (bH gC (cZ G hr rfl m F.kp b .nil cX (bg (bO (cJ K rfl) (pv 0) bp) (bg (pv 1) bq))) (cZ G hr rfl m F.kp b .nil cX (bg (bO (cJ K rfl) (pv 0) bp) (bg (pv 1) bq)))))) cW) ?_;refine bD (cO (cj cS (bO (cJ K rfl) (pv 0) bp) bI (cm _)) (bK (cE (cZ G hr rfl m F.kp b .nil cX (bg (bO (cJ K rfl) (pv 0) (bH gC bp (pv 1))) (bg (pv 1) bq))))) cW) ?_;unfold Iq;refine bD ?_ ?_
   ·refine cx (i:=2) ?_ ?_ ?_ ?_ ?_ ?_
    ·exact B3.nd
    ·rfl
    ·exact Or.inl rfl
    ·unfold za;refine jv ll PySem.F.slot_list_count PySem.F.type_list_count P0 ?_ ?_
     ·refine cK ?_;unfold y6 tW
      iterate 8 (refine bg bI ?_;try unfold tW)
      exact bq
     ·exact bg (bO (cJ K rfl) (pv 0) bp) bq
    ·rfl
    ·exact Or.inr rfl
   refine bD ?_ ?_
   ·refine cx (i:=3) ?_ ?_ ?_ ?_ ?_ ?_
    ·exact B3.nd
    ·rfl
    ·exact Or.inl rfl
    ·unfold za;refine jv ll PySem.F.slot_list_count PySem.F.type_list_count P0 ?_ ?_
     ·refine cK ?_;unfold y8 tW
      iterate 10 (refine bg bI ?_;try unfold tW)
      exact bq
     ·exact bg (bO (cJ K rfl) (pv 0) bp) bq
    ·rfl
    ·exact Or.inr rfl
   exact bK (cE (bO (de K rfl) (cK (bg (pv 2) (bg (pv 3) bq))) (pv 1)))
section
variable{K:Frag}{D:Ends}{σ:St}{H:Hp}{u:TS}{x:Str}{u1 u2:V}{a b:Dw}
theorem Iu(h:cy K H u1 a)(ok:a.ok p)(e:a.hd=Str.ofString "beside"):∃l v1 v2 c d,u1=.ref l/\a=.bt c d/\cg K H l [.str "beside",v1,v2]/\cy K H v1 c/\cy K H v2 d:=by
 cases h with
 |bt g i j=>exact⟨_,_,_,_,_,rfl,rfl,g,i,j⟩
 |box g=>exact absurd e (ou _ ok).2.2.1
 |times g=>exact absurd (show Str.ofString "times"=Str.ofString "beside" from e) (by decide)
 |back g i=>exact absurd (show Str.ofString "back"=Str.ofString "beside" from e) (by decide)
 |bj g i j=>exact absurd (show Str.ofString "then"=Str.ofString "beside" from e) (by decide)
def Qe(K:Frag)(j:Nat)(s:Int):TE:=ij (tX K 60) [] E0 (bo (gK K j 1) (bo (tC (.int s)) bQ))
def Qf(K:Frag)(i:Int):TE:=eX (bo (tC (.str "then")) (bo (gK K 1 i) (bo (gK K 2 i) bQ)))
def Qg(K:Frag)(u:TS):TS:=cu (cU (eh (iE 0 "cross") (eh (gG K 1 "beside") (gG K 2 "beside"))) (cU (eM (bw lz (Qe K 1 1) (Qe K 2 0))) (dG (eX (bo (tC (.str "beside")) (bo (Qf K 1) (bo (Qf K 2) bQ))))) eA) eA) u
theorem aa2{a b:Dw}(h:¬(x=Str.ofString "cross"/\a.hd=Str.ofString "beside"/\b.hd=Str.ofString "beside")):qh x a b=none:=by
 unfold qh;split
 ·refine af λz=>h ⟨z.1,rfl,rfl⟩
 ·rfl
theorem aa3(h0:σ[0]?=some (some (.str x)))(h1:σ[1]?=some (some u1))(h2:σ[2]?=some (some u2))(ha:cy K H u1 a)(hb:cy K H u2 b)(oa:a.ok p)(ob:b.ok p)(ca:a.clean)(cb:b.clean)(da:a.dep<=60)(db:b.dep<=60)
  (q:∀Y,qh x a b=some Y->∀v H',bh H H'->cy K H' v Y->D.rt v H') (k:qh x a b=none->∀H',bh H H'->u D σ H'):Qg K u D σ H:=by
 refine B0 h0 h1 h2 ha hb (λc=>?_) λc=>k (aa2 c) H (.refl _);obtain⟨la,v1,v2,c1,c2,rfl,rfl,ga,i1,i2⟩:=Iu ha oa c.2.1;obtain⟨lb,w1,w2,e1,e2,rfl,rfl,gb,j1,j2⟩:=Iu hb ob c.2.2;have da:max c1.dep c2.dep+1<=60:=da;have db:max e1.dep e2.dep+1<=60:=db;refine⟨_,h1,la,_,1,v1,rfl,rfl,ga,cc (j:=1) rfl,v1,true,c1,rfl,i1,ca.1,by lia,λH1 s1=>?_⟩;refine⟨_,h2,lb,_,1,w1,rfl,rfl,s1.cV gb,cc (j:=1) rfl,w1,false,e1,rfl,j1.tup s1.tup,cb.1,by lia,λH2 s2=>?_⟩;have s:=s1.trans s2;refine⟨rfl,_,rfl,lC (λt=>?_) (λt=>?_)⟩
 ·have e:c1.lN=e1.lM:=Int.ofNat.inj (V.int.inj (aM t));refine⟨_,h1,la,_,1,v1,rfl,rfl,s.cV ga,cc (j:=1) rfl,_,h2,lb,_,1,w1,rfl,rfl,s.cV gb,cc (j:=1) rfl,by show 3<=sizeLine;decide,λl1 lQ=>?_⟩;have s3:=bh.upd (o:=.tup [.str "then",v1,w1]) lQ;have s':=s.trans s3;refine⟨_,h1,la,_,2,v2,rfl,rfl,s'.cV ga,cc (j:=2) rfl,_,h2,lb,_,2,w2,rfl,rfl,s'.cV gb,cc (j:=2) rfl,by show 3<=sizeLine;decide,λl2 ip=>⟨by show 3<=sizeLine;decide,λl3 y4=>?_⟩⟩;have s4:=bh.upd (o:=.tup [.str "then",v2,w2]) ip;have s5:=bh.upd (o:=.tup [.str "beside",.ref l1,.ref l2]) y4;have z:=s'.trans (s4.trans s5);refine q (.bt (.bj c1 e1) (.bj c2 e2)) (ae ⟨c.1,e⟩) _ _ z (.bt (.of bz) (.bj (.of ((s4.trans s5) _ _ bz)) (i1.tup z.tup) (j1.tup z.tup)) (.bj (.of (s5 _ _ bz)) (i2.tup z.tup) (j2.tup z.tup)))
 ·exact k (af λz=>t (aG (ai (λn:Nat=>V.int (n:Int)) z.2))) _ s
end
def Iv(K:Frag):Sp:=λvs H Q _=>∃(p:Int)(x:Str)(u1 u2:V)(a b:Dw),vs=[.str x,u1,u2]/\cy K H u1 a/\cy K H u2 b/\a.ok p/\b.ok p/\a.clean/\b.clean/\a.dep<=60/\b.dep<=60/\∀v H',bh H H'->jS K H' v (jm x a b)->Q v H'
theorem aa4:dD ["rule","one","other"] ["rule","one","other"] (cN Fh):=dU rfl rfl rfl (by decide +kernel) rfl
theorem aa5{f fS:Addr}{fd n6:FuncData}(F:c9 K "_law_joint" "_law_joint" Fh f fd)
  (GS:ck P w K mg base cA 61 fS n6 ["tree","side"] (tX K 60)) (kS:Kp K fS) (bS:Binds K n6 ["tree","side"] []) (mS:Mg mg "_law_side" fS):ck P w K mg base cA 62 f fd ["rule","one","other"] (Iv K):=by
 refine F.ok aa4 (λvs H Q E h=>?_) (λcI A outer s H vs Q E hr h=>?_)
 ·obtain⟨p,x,u1,u2,a,b,rfl,_⟩:=h;rfl
 ·obtain⟨p,x,u1,u2,a,b,rfl,ha,hb,oa,ob,ca,cb,da,db,q⟩:=h;have hu:=hr.units;refine⟨Qb K (Ir K 1 2 (Ir K 2 1 (Qg K (dG (tC .cC))))),?_,?_⟩
  ·refine bD (cO (PW.pt (fQ (cj cS (pv 0) bI (cm _)) (iB (cj cS (bO (cJ K rfl) (pv 1) bp) bI (cm _))))) (bK (cE (dh (bg bI (bg (bO (cJ K rfl) (pv 1) bp) (bg (dh (bg bI (bg (bO (cJ K rfl) (pv 1) bp) (bg (pv 2) bq)))) bq)))))) cW) ?_;refine bD (cO (PW.pt (fQ (cj cS (pv 0) bI (cm _)) (iB (cj (vN hu) (pv 1) (dh (bg bI bq)) (cm _))))) (bK (cE (pv 2))) cW) ?_;refine bD (cO (PW.pt (fQ (cj cS (pv 0) bI (cm _)) (iB (cj (vN hu) (pv 2) (dh (bg bI bq)) (cm _))))) (bK (cE (pv 1))) cW) ?_;refine bD (cO (PW.pt (fQ (cj cS (pv 0) bI (cm _)) (fQ (cj cS (bO (cJ K rfl) (pv 1) bp) bI (cm _)) (iB (cj cS (bO (cJ K rfl) (pv 2) bp) bI (cm _)))))) (bK ?_) cW) (bK (cE gW));refine cO (cj cS (cZ GS hr rfl mS kS bS .nil cX (bg (bO (cJ K rfl) (pv 1) bp) (bg bp bq))) (cZ GS hr rfl mS kS bS .nil cX (bg (bO (cJ K rfl) (pv 2) bp) (bg bp bq))) (cm _)) (bK (cE ?_)) cW;refine dh (bg bI (bg (dh (bg bI (bg (bO (cJ K rfl) (pv 1) bp) (bg (bO (cJ K rfl) (pv 2) bp) bq)))) (bg (dh (bg bI (bg (bO (cJ K rfl) (pv 1) bp) (bg (bO (cJ K rfl) (pv 2) bp) bq)))) bq)))
  ·have fin:∀{r:Option Dw}{v:V}{H':Hp},jm x a b=r->bh H H'->jS K H' v r->Q v H':=λe s' o=>q _ _ s' (e▸o);refine aa1 (p:=p) rfl rfl rfl ha hb oa (λY e v H' s' t=>fin (r:=some Y) (by unfold jm;rw[e];rfl) s' t) λe1=>?_;refine Qc (p:=p) rfl rfl rfl ha hb oa da (λY e v H' s' t=>fin (r:=some Y) (by unfold jm;rw[e1,e];rfl) s' t) λe2 H1 s1=>?_;have FR:=ha.tup s1.tup;have vA:=hb.tup s1.tup;refine Qc (p:=p) rfl rfl rfl vA FR ob db (λY e v H' s' t=>fin (r:=some Y) (by unfold jm;rw[e1,e2,e];rfl) (s1.trans s') t) λe3 H2 s2=>?_;have s12:=s1.trans s2;refine aa3 (p:=p) rfl rfl rfl (ha.tup s12.tup) (hb.tup s12.tup) oa ob ca cb da db (λY e v H' s' t=>fin (r:=some Y) (by unfold jm;rw[e1,e2,e3,e];rfl) (s12.trans s') t) λe4 H3 s3=>?_;exact fin (r:=none) (by unfold jm;rw[e1,e2,e3,e4];rfl) (s12.trans s3) rfl
section
variable{p:Int}{x:Str}{xs:List Str}{t:It2}{ts:List It2}{acc:List (Str×List V)}
theorem iZ(h:(gR++iK).contains x=false)(e:j8 t.head=x):dF (x::xs) (t::ts) acc=dF xs (t.kids++ts) acc:=by
 have h1:x ∉ gR:=λm=>by rw[jV.mpr (rL _ m)]at h;cases h
 have h2:x ∉ iK:=λm=>by rw[jV.mpr (jU _ m)]at h;cases h
 cases t<;>(rw[dF,af h1,af h2];exact ae e)
theorem vX(h:(gR++iK).contains x=false)(e:j8 t.head≠x):dF (x::xs) (t::ts) acc=some none:=by
 have h1:x ∉ gR:=λm=>by rw[jV.mpr (rL _ m)]at h;cases h
 have h2:x ∉ iK:=λm=>by rw[jV.mpr (jU _ m)]at h;cases h
 cases t<;>(rw[dF,af h1,af h2];exact af e)
theorem vY(h:gR.contains x=true)(n:(acc.map Prod.fst).contains x=false):dF (x::xs) (.bu d::ts) acc=dF xs ts (acc++[(x,d.bb)]):=by
 have h2:x ∉ acc.map Prod.fst:=λm=>by rw[jV.mpr m]at n;cases n
 rw[dF,ae (jV.mp h)];exact af h2
theorem Qh{m:Int}(h0:gR.contains x=false)(h:iK.contains x=true)(n:(acc.map Prod.fst).contains x=false):dF (x::xs) (.num m::ts) acc=dF xs ts (acc++[(x,[.int m])]):=by
 have h1:x ∉ gR:=λm=>by rw[jV.mpr m]at h0;cases h0
 have h2:x ∉ acc.map Prod.fst:=λm=>by rw[jV.mpr m]at n;cases n
 rw[dF,af h1,ae (jV.mp h)];exact af h2
end
theorem aa6{a b c e:Dw}{r:List It2}:dF (Txt.split (Str.ofString "then beside A B beside C D") (Str.ofString " ")) (.bu (.bj (.bt a b) (.bt c e))::r) []=some (some [(Str.ofString "A",a.bb),(Str.ofString "B",b.bb),(Str.ofString "C",c.bb),(Str.ofString "D",e.bb)]):=by
 rw[show Txt.split (Str.ofString "then beside A B beside C D") (Str.ofString " ")=[Str.ofString "then",Str.ofString "beside",Str.ofString "A",Str.ofString "B",Str.ofString "beside",Str.ofString "C",Str.ofString "D"] by decide +kernel];refine Eq.trans (iZ (by decide +kernel) (by rfl)) ?_;refine Eq.trans (iZ (by decide +kernel) (by rfl)) ?_;refine(vY (by decide +kernel) rfl).trans ?_;refine(vY (by decide +kernel) (by show[Str.ofString "A"].contains _=false;decide +kernel)).trans ?_;refine Eq.trans (iZ (by decide +kernel) (by rfl)) ?_;refine(vY (by decide +kernel) (by show[Str.ofString "A",Str.ofString "B"].contains _=false;decide +kernel)).trans ?_;exact(vY (by decide +kernel) (by show[Str.ofString "A",Str.ofString "B",Str.ofString "C"].contains _=false;decide +kernel)).trans rfl
section
variable{p:Int}{x:Str}{xs:List Str}{env:List (Str×List V)}{acc ws:List V}
end
inductive Pt where
 |any (x:Str)
 |box (x:Str)
 |tk (x:Str)
 |tn (x:Str) (n:Int)
 |back (a:Pt)
 |fZ (a b:Pt)
 |bj (a b:Pt)
namespace Pt
noncomputable def text:Pt->List Str
 |any x=>[x]
 |box x=>[x]
 |tk x=>[Str.ofString "times",x]
 |tn x _=>[Str.ofString "times",x]
 |back a=>Str.ofString "back"::a.text
 |fZ a b=>Str.ofString "beside"::(a.text++b.text)
 |bj a b=>Str.ofString "then"::(a.text++b.text)
noncomputable def mt:Pt->Dw->List (Str×List V)->Option (List (Str×List V))
 |any x,d,e=>some (e++[(x,d.bb)])
 |box x,.box y _ _,e=>if y=x then some e else none
 |tk x,.times n,e=>some (e++[(x,[.int n])])
 |tn _ n,.times m,e=>if m=n then some e else none
 |back a,.back d,e=>a.mt d e
 |fZ a b,.bt c d,e=>(a.mt c e).bind (b.mt d)
 |bj a b,.bj c d,e=>(a.mt c e).bind (b.mt d)
 |_,_,_=>none
noncomputable def lets:Pt->List Str
 |any x=>[x]
 |tk x=>[x]
 |back a=>a.lets
 |fZ a b=>a.lets++b.lets
 |bj a b=>a.lets++b.lets
 |_=>[]
noncomputable def ki:List Str:=[Str.ofString "times",Str.ofString "back",Str.ofString "beside",Str.ofString "then"]
noncomputable def jn:Pt->Bool
 |any x=>decide (x∈gR)
 |box x=>decide (x ∉ gR)&&decide (x ∉ iK)&&decide (x ∉ ki)
 |tk x=>decide (x ∉ gR)&&decide (x∈iK)
 |tn x n=>decide (x ∉ gR)&&decide (x ∉ iK)&&decide (0<=n)&&decide (n<97)&&decide (j8 (.int n)=x)
 |back a=>a.jn
 |fZ a b=>a.jn&&b.jn
 |bj a b=>a.jn&&b.jn
end Pt
theorem aa7:iW.all (λq=>decide (q.1 ∉ Pt.ki))=true:=by decide +kernel
theorem aa8{l r:Nat}(h:(x,l,r)∈iW):x ∉ Pt.ki:=aM (fh.mp aa7 _ h)
theorem aa9:((List.range 97).all λm=>(List.range 97).all λn=>decide (Str.ofString (toString (m:Int))=Str.ofString (toString (n:Int))->m=n))=true:=by decide +kernel
theorem aba{m n:Int}(m0:0<=m)(m1:m<97)(n0:0<=n)(n1:n<97)(h:m≠n):j8 (.int m)≠j8 (.int n):=λe=>by
 have z:=fh.mp (fh.mp aa9 m.toNat (qq.mpr (by lia))) n.toNat (qq.mpr (by lia));rw[aI,show((m.toNat:Nat):Int)=m by lia,show((n.toNat:Nat):Int)=n by lia]at z;have e':Str.ofString (toString m)=Str.ofString (toString n):=e;exact h (by have:=z e';lia)
theorem abb:Pt.ki.all (λx=>decide (x ∉ gR)&&decide (x ∉ iK))=true:=by decide +kernel
theorem Qi(h:x∈Pt.ki):x ∉ gR/\x ∉ iK:=by
 have:=fh.mp abb x h
 simpa using this
theorem zb{P:Pt}{e e':List (Str×List V)}(h:P.mt d e=some e'):e'.map Prod.fst=e.map Prod.fst++P.lets:=by
 induction P generalizing d e e' with
 |any x=>cases h;simp[Pt.lets]
 |box x=>
  cases d with
  |box y l r=>
   simp only[Pt.mt]at h;split at h
   ·cases h;simp[Pt.lets]
   ·cases h
  |_=>cases h
 |tk x=>
  cases d with
  |times n=>cases h;simp[Pt.lets]
  |_=>cases h
 |tn x n=>
  cases d with
  |times m=>
   simp only[Pt.mt]at h;split at h
   ·cases h;simp[Pt.lets]
   ·cases h
  |_=>cases h
 |back a ih=>
  cases d with
  |back d=>exact ih h
  |_=>cases h
 |fZ a b gL iF=>
  cases d with
  |bt c d=>
   obtain⟨e1,h1,h2⟩:=zH.mp h;rw[iF h2,gL h1,fg];rfl
  |_=>cases h
 |bj a b gL iF=>
  cases d with
  |bj c d=>
   obtain⟨e1,h1,h2⟩:=zH.mp h;rw[iF h2,gL h1,fg];rfl
  |_=>cases h
theorem oC(h1:x ∉ gR)(h2:x ∉ iK):(gR++iK).contains x=false:=by
 cases h:(gR++iK).contains x with
 |false=>rfl
 |true=>
  rcases iG.mp (jV.mp h)with z|z
  ·exact absurd z h1
  ·exact absurd z h2
theorem vZ{l:List Str}(h:x ∉ l):l.contains x=false:=by
 cases e:l.contains x with
 |false=>rfl
 |true=>exact absurd (jV.mp e) h
theorem kT:Str.ofString "times"∈Pt.ki:=by decide +kernel
theorem kB:Str.ofString "back"∈Pt.ki:=by decide +kernel
theorem kE:Str.ofString "beside"∈Pt.ki:=by decide +kernel
theorem kN:Str.ofString "then"∈Pt.ki:=by decide +kernel
theorem gg(h:x∈Pt.ki):(gR++iK).contains x=false:=oC (Qi h).1 (Qi h).2
noncomputable def Iw:Dw->Str
 | .box y _ _=>y
 | .times _=>Str.ofString "times"
 | .back _=>Str.ofString "back"
 | .bt _ _=>Str.ofString "beside"
 | .bj _ _=>Str.ofString "then"
theorem abc(d:Dw):j8 (It2.bu d).head=Iw d:=by cases d<;>rfl
theorem ib{xs:List Str}{r:List It2}{e:List (Str×List V)}(hx:(gR++iK).contains x=false)(h:Iw d≠x):dF (x::xs) (.bu d::r) e=some none:=vX hx (by rw[abc];exact h)
theorem zc{y:Str}{l r:Nat}(hd:(Dw.box y l r).ok p)(hx:x∈Pt.ki):Iw (.box y l r)≠x:=λz=>aa8 hd (by rw[show y=x from z];exact hx)
theorem Qj(cf:p<=97):∀{P:Pt},P.jn=true->∀{d:Dw},d.ok p->∀(cG:List Str)(r:List It2)(e:List (Str×List V)),(e.map Prod.fst++P.lets).Nodup->
  dF (P.text++cG) (.bu d::r) e=match P.mt d e with|none=>some none|some e'=>dF cG r e':=by
 intro P;induction P with
 |any x=>
  intro hP d hd cG r e nd;have hx:x∈gR:=aM hP;refine vY (jV.mpr hx) (vZ λz=>?_);exact(rS.mp nd).2.2 x z x c6 rfl
 |box x=>
  intro hP d hd cG r e nd;simp only[Pt.jn,dq,aI]at hP;obtain⟨⟨h1,h2⟩,h3⟩:=hP;have kw:∀{y:Str},y∈Pt.ki->y≠x:=λhy z=>h3 (z▸hy);cases d with
  |box y l r'=>
   by_cases ey:y=x
   ·refine(iZ (t:=.bu (.box y l r')) (oC h1 h2) ey).trans ?_;simp only[Pt.mt,ae ey];rfl
   ·refine(ib (d:=.box y l r') (oC h1 h2) ey).trans ?_;simp only[Pt.mt,af ey]
  |times n=>exact ib (oC h1 h2) (kw kT)
  |back d=>exact ib (oC h1 h2) (kw kB)
  |bt a b=>exact ib (oC h1 h2) (kw kE)
  |bj a b=>exact ib (oC h1 h2) (kw kN)
 |tk x=>
  intro hP d hd cG r e nd;simp only[Pt.jn,dq,aI]at hP;cases d with
  |times n=>
   refine(iZ (t:=.bu (.times n)) (gg kT) rfl).trans ?_;refine Qh (vZ hP.1) (jV.mpr hP.2) (vZ λz=>?_);exact(rS.mp nd).2.2 x z x c6 rfl
  |box y l r'=>exact ib (gg kT) (zc hd kT)
  |back d=>exact ib (gg kT) (show Str.ofString "back" ≠ Str.ofString "times" by decide +kernel)
  |bt a b=>exact ib (gg kT) (show Str.ofString "beside" ≠ Str.ofString "times" by decide +kernel)
  |bj a b=>exact ib (gg kT) (show Str.ofString "then" ≠ Str.ofString "times" by decide +kernel)
 |tn x n=>
  intro hP d hd cG r e nd;simp only[Pt.jn,dq,aI]at hP;obtain⟨⟨⟨⟨h1,h2⟩,h0⟩,hn⟩,hw⟩:=hP;cases d with
  |times m=>
   refine(iZ (t:=.bu (.times m)) (gg kT) rfl).trans ?_;by_cases em:m=n
   ·refine(iZ (t:=.num m) (oC h1 h2) (by rw[em];exact hw)).trans ?_;simp only[Pt.mt,ae em];rfl
   ·refine(vX (t:=.num m) (oC h1 h2) (by rw[<- hw];exact aba hd.1 (by have:=hd.2;lia) h0 hn em)).trans ?_;simp only[Pt.mt,af em]
  |box y l r'=>exact ib (gg kT) (zc hd kT)
  |back d=>exact ib (gg kT) (show Str.ofString "back" ≠ Str.ofString "times" by decide +kernel)
  |bt a b=>exact ib (gg kT) (show Str.ofString "beside" ≠ Str.ofString "times" by decide +kernel)
  |bj a b=>exact ib (gg kT) (show Str.ofString "then" ≠ Str.ofString "times" by decide +kernel)
 |back a ih=>
  intro hP d hd cG r e nd;cases d with
  |back d=>exact(iZ (t:=.bu (.back d)) (gg kB) rfl).trans (ih hP (d:=d) hd cG r e nd)
  |box y l r'=>exact ib (gg kB) (zc hd kB)
  |times n=>exact ib (gg kB) (show Str.ofString "times" ≠ Str.ofString "back" by decide +kernel)
  |bt a b=>exact ib (gg kB) (show Str.ofString "beside" ≠ Str.ofString "back" by decide +kernel)
  |bj a b=>exact ib (gg kB) (show Str.ofString "then" ≠ Str.ofString "back" by decide +kernel)
 |fZ a b gL iF=>
  intro hP d hd cG r e nd;simp only[Pt.jn,dq]at hP;cases d with
  |bt c d=>
   refine(iZ (t:=.bu (.bt c d)) (gg kE) rfl).trans ?_;show dF ((a.text++b.text)++cG) (.bu c::.bu d::r) e=_;rw[fg];have oD:((e.map Prod.fst++a.lets)++b.lets).Nodup:=by rw[fg];exact nd
   refine(gL hP.1 hd.1 (b.text++cG) (.bu d::r) e (rS.mp oD).1).trans ?_;show _=match(a.mt c e).bind (b.mt d)with|none=>some none|some e'=>dF cG r e'
   cases h1:a.mt c e with
   |none=>rfl
   |some e1=>exact iF hP.2 hd.2 cG r e1 (by rw[zb h1];exact oD)
  |box y l r'=>exact ib (gg kE) (zc hd kE)
  |times n=>exact ib (gg kE) (show Str.ofString "times" ≠ Str.ofString "beside" by decide +kernel)
  |back d=>exact ib (gg kE) (show Str.ofString "back" ≠ Str.ofString "beside" by decide +kernel)
  |bj a b=>exact ib (gg kE) (show Str.ofString "then" ≠ Str.ofString "beside" by decide +kernel)
 |bj a b gL iF=>
  intro hP d hd cG r e nd;simp only[Pt.jn,dq]at hP;cases d with
  |bj c d=>
   refine(iZ (t:=.bu (.bj c d)) (gg kN) rfl).trans ?_;show dF ((a.text++b.text)++cG) (.bu c::.bu d::r) e=_;rw[fg];have oD:((e.map Prod.fst++a.lets)++b.lets).Nodup:=by rw[fg];exact nd
   refine(gL hP.1 hd.1 (b.text++cG) (.bu d::r) e (rS.mp oD).1).trans ?_;show _=match(a.mt c e).bind (b.mt d)with|none=>some none|some e'=>dF cG r e'
   cases h1:a.mt c e with
   |none=>rfl
   |some e1=>exact iF hP.2 hd.2 cG r e1 (by rw[zb h1];exact oD)
  |box y l r'=>exact ib (gg kN) (zc hd kN)
  |times n=>exact ib (gg kN) (show Str.ofString "times" ≠ Str.ofString "then" by decide +kernel)
  |back d=>exact ib (gg kN) (show Str.ofString "back" ≠ Str.ofString "then" by decide +kernel)
  |bt a b=>exact ib (gg kN) (show Str.ofString "beside" ≠ Str.ofString "then" by decide +kernel)
theorem abd:∀{P:Pt},P.jn=true->∀{d:Dw}(cG:List Str)(r:List It2){e e':List (Str×List V)},(e.map Prod.fst++P.lets).Nodup->P.mt d e=some e'->dF (P.text++cG) (.bu d::r) e=dF cG r e':=by
 intro P;induction P with
 |any x=>
  intro hP d cG r e e' nd h;cases h;exact vY (jV.mpr (aM hP)) (vZ λz=>(rS.mp nd).2.2 x z x c6 rfl)
 |box x=>
  intro hP d cG r e e' nd h;simp only[Pt.jn,dq,aI]at hP;cases d with
  |box y l r'=>
   have h:(if y=x then some e else none)=some e':=h
   split at h
   ·rename_i c
    cases h;exact iZ (t:=.bu (.box y l r')) (oC hP.1.1 hP.1.2) c
   ·cases h
  |_=>cases h
 |tk x=>
  intro hP d cG r e e' nd h;simp only[Pt.jn,dq,aI]at hP;cases d with
  |times n=>
   cases h;exact(iZ (t:=.bu (.times n)) (gg kT) rfl).trans (Qh (vZ hP.1) (jV.mpr hP.2) (vZ λz=>(rS.mp nd).2.2 x z x c6 rfl))
  |_=>cases h
 |tn x n=>
  intro hP d cG r e e' nd h;simp only[Pt.jn,dq,aI]at hP;cases d with
  |times m=>
   have h:(if m=n then some e else none)=some e':=h
   split at h
   ·rename_i c
    cases h;exact(iZ (t:=.bu (.times m)) (gg kT) rfl).trans (iZ (t:=.num m) (oC hP.1.1.1.1 hP.1.1.1.2) (by rw[c];exact hP.2))
   ·cases h
  |_=>cases h
 |back a ih=>
  intro hP d cG r e e' nd h;cases d with
  |back d=>exact(iZ (t:=.bu (.back d)) (gg kB) rfl).trans (ih hP cG r nd h)
  |_=>cases h
 |fZ a b gL iF=>
  intro hP d cG r e e' nd h;simp only[Pt.jn,dq]at hP;cases d with
  |bt c d=>
   obtain⟨e1,h1,h2⟩:=zH.mp h;have oD:((e.map Prod.fst++a.lets)++b.lets).Nodup:=by rw[fg];exact nd
   refine(iZ (t:=.bu (.bt c d)) (gg kE) rfl).trans ?_;show dF ((a.text++b.text)++cG) (.bu c::.bu d::r) e=_;rw[fg];exact(gL hP.1 _ _ (rS.mp oD).1 h1).trans (iF hP.2 cG r (by rw[zb h1];exact oD) h2)
  |_=>cases h
 |bj a b gL iF=>
  intro hP d cG r e e' nd h;simp only[Pt.jn,dq]at hP;cases d with
  |bj c d=>
   obtain⟨e1,h1,h2⟩:=zH.mp h;have oD:((e.map Prod.fst++a.lets)++b.lets).Nodup:=by rw[fg];exact nd
   refine(iZ (t:=.bu (.bj c d)) (gg kN) rfl).trans ?_;show dF ((a.text++b.text)++cG) (.bu c::.bu d::r) e=_;rw[fg];exact(gL hP.1 _ _ (rS.mp oD).1 h1).trans (iF hP.2 cG r (by rw[zb h1];exact oD) h2)
  |_=>cases h
noncomputable def Pt.kK(p:Int)(env:List (Str×List V)):Pt->Option (List V)
 |any x=>lP p env x
 |box x=>lP p env x
 |tk x=>(lP p env x).map (.str "times"::·)
 |tn x _=>(lP p env x).map (.str "times"::·)
 |back a=>(a.kK p env).map (.str "back"::·)
 |fZ a b=>(a.kK p env).bind λu=>(b.kK p env).map λv=>.str "beside"::(u++v)
 |bj a b=>(a.kK p env).bind λu=>(b.kK p env).map λv=>.str "then"::(u++v)
section
variable{p:Int}{env:List (Str×List V)}
theorem qi{xs:List Str}{acc ws:List V}(h:lP p env x=some ws):ke p env (x::xs) acc=ke p env xs (acc++ws):=by rw[ke,h]
theorem abe(hk:∀x∈Pt.ki,lP p env x=some [.str x]):∀{R:Pt}(cG:List Str){acc ws:List V},R.kK p env=some ws->ke p env (R.text++cG) acc=ke p env cG (acc++ws):=by
 intro R;induction R with
 |any x=>exact λcG acc ws h=>qi h
 |box x=>exact λcG acc ws h=>qi h
 |tk x=>
  intro cG acc ws h;obtain⟨u,hu,rfl⟩:=lj.mp h;refine(qi (hk _ kT)).trans ((qi hu).trans ?_);rw[fg];rfl
 |tn x n=>
  intro cG acc ws h;obtain⟨u,hu,rfl⟩:=lj.mp h;refine(qi (hk _ kT)).trans ((qi hu).trans ?_);rw[fg];rfl
 |back a ih=>
  intro cG acc ws h;obtain⟨u,hu,rfl⟩:=lj.mp h;refine(qi (hk _ kB)).trans ((ih cG hu).trans ?_);rw[fg];rfl
 |fZ a b gL iF=>
  intro cG acc ws h;obtain⟨u,hu,h⟩:=zH.mp h;obtain⟨v,hv,rfl⟩:=lj.mp h;refine(qi (hk _ kE)).trans ?_;show ke p env ((a.text++b.text)++cG) _=_;rw[fg];refine(gL _ hu).trans ((iF cG hv).trans ?_);rw[fg,fg];rfl
 |bj a b gL iF=>
  intro cG acc ws h;obtain⟨u,hu,h⟩:=zH.mp h;obtain⟨v,hv,rfl⟩:=lj.mp h;refine(qi (hk _ kN)).trans ?_;show ke p env ((a.text++b.text)++cG) _=_;rw[fg];refine(gL _ hu).trans ((iF cG hv).trans ?_);rw[fg,fg];rfl
theorem abf{L:List Str}(e:env.map Prod.fst=L)(h:L.all (λx=>!Pt.ki.contains x)=true):∀x∈Pt.ki,lP p env x=some [.str x]:=λx hx=>by
 have e2:env.lookup x=none:=by
  rw[List.lookup_eq_none_iff];intro q hq
  have:=fh.mp h q.1 (by rw[<- e];exact List.mem_map_of_mem hq)
  cases z:(x==q.1) with
  |false=>simpa using z
  |true=>
   rw[<- eq_of_beq z,jV.mpr hx]at this;cases this
 unfold lP;rw[af (λz=>by rw[z]at hx;revert hx;decide +kernel),af (λz=>by rw[z]at hx;revert hx;decide +kernel),e2];rfl
end
end S21
namespace S21
open PySem L2 Bw
variable{X Y d:Dw}{a b x:Str}{env:List (Str×List V)}{i l1 r1 s1 t1:Nat}{p:Int}{cM:List (Str×Str)}{ta:TA}{v:V}{ws:List D1.Wd}
section
variable{a b:Dw}{r:List It2}
theorem abg(h:j8 (It2.bu a).head≠Str.ofString "id"):dF (Txt.split (Str.ofString "then id A") (Str.ofString " ")) (.bu (.bj a b)::r) []=some none:=by
 rw[show Txt.split (Str.ofString "then id A") (Str.ofString " ")=[Str.ofString "then",Str.ofString "id",Str.ofString "A"] by decide +kernel];refine Eq.trans (iZ (by decide +kernel) (by rfl)) ?_;exact vX (by decide +kernel) h
theorem abh(h:j8 (It2.bu a).head≠Str.ofString "empty"):dF (Txt.split (Str.ofString "beside empty A") (Str.ofString " ")) (.bu (.bt a b)::r) []=some none:=by
 rw[show Txt.split (Str.ofString "beside empty A") (Str.ofString " ")=[Str.ofString "beside",Str.ofString "empty",Str.ofString "A"] by decide +kernel];refine Eq.trans (iZ (by decide +kernel) (by rfl)) ?_;exact vX (by decide +kernel) h
theorem Qk(h:j8 (It2.bu a).head≠Str.ofString "id"):dF (Txt.split (Str.ofString "back id") (Str.ofString " ")) (.bu (.back a)::r) []=some none:=by
 rw[show Txt.split (Str.ofString "back id") (Str.ofString " ")=[Str.ofString "back",Str.ofString "id"] by decide +kernel];refine Eq.trans (iZ (by decide +kernel) (by rfl)) ?_;exact vX (by decide +kernel) h
theorem abi(h:j8 (It2.bu a).head≠Str.ofString "swap"):dF (Txt.split (Str.ofString "back swap") (Str.ofString " ")) (.bu (.back a)::r) []=some none:=by
 rw[show Txt.split (Str.ofString "back swap") (Str.ofString " ")=[Str.ofString "back",Str.ofString "swap"] by decide +kernel];refine Eq.trans (iZ (by decide +kernel) (by rfl)) ?_;exact vX (by decide +kernel) h
end
abbrev At(d:Dw)(i:Nat)(d':Dw):Prop:=∃r,cD [.bu d] i=.bu d'::r
theorem v5{p:Int}:∀{d:Dw},d.ok p->∀n,V.int n∈d.bb->0<=n/\n<p
 | .box ..,_,n,h=>by simp[Dw.bb]at h
 | .times m,h,n,hn=>by
  simp[Dw.bb]at hn;rw[hn];exact h
 | .back d,h,n,hn=>v5 (d:=d) h n (by simpa[Dw.bb]using hn)
 | .bt a b,h,n,hn=>by
  simp[Dw.bb]at hn;rcases hn with z|z
  ·exact v5 (d:=a) h.1 n z
  ·exact v5 (d:=b) h.2 n z
 | .bj a b,h,n,hn=>by
  simp[Dw.bb]at hn;rcases hn with z|z
  ·exact v5 (d:=a) h.1 n z
  ·exact v5 (d:=b) h.2 n z
theorem dz.nil:dz p []:=λx ws h=>by cases h
theorem dz.cons{ws:List V}(h1:ws.length<=200)(h2:∀n,V.int n∈ws->0<=n/\n<p)(h:dz p env):dz p ((x,ws)::env):=λy us e=>by
 rw[pL]at e;by_cases z:y=x
 ·rw[z,aU]at e;cases e;exact⟨h1,h2⟩
 ·rw[beq_eq_false_iff_ne.mpr z]at e;exact h y us e
theorem dz.bu{a:Dw}(h:dz p env)(ho:a.ok p)(hl:a.bb.length<=200):dz p ((x,a.bb)::env):=.cons hl (v5 ho) h
theorem dz.num{n:Int}(h:dz p env)(h0:0<=n)(h1:n<p):dz p ((x,[.int n])::env):=.cons (by show 1<=200;decide) (λm hm=>by cases dP.mp hm;exact⟨h0,h1⟩) h
def Mv(p:Int)(x:Str)(X Y:Dw):Prop:=∀r,∃cM env b,iX x=some cM/\kH p x (.bu X::r) cM (some (env,b))/\dz p env/\(Txt.split b (Str.ofString " ")).length<=100/\b.length+2<=sizeLine/\ke p env (Txt.split b (Str.ofString " ")) []=some Y.bb
theorem Ql(h:iX x=some cM)(hm:(a,b)∈cM):(Txt.split b (Str.ofString " ")).length<=100/\b.length+2<=sizeLine:=by
 have:=fh.mp (fh.mp N5 _ (BJ h)) _ hm
 simp only[dq,aI]at this;exact⟨this.1.2,dj (Nat.add_le_add_right this.2 2) (by decide)⟩
theorem Mv.fst(hR:iX x=some ((a,b)::cM))(hm:∀r,dF (Txt.split a (Str.ofString " ")) (.bu X::r) []=some (some env))(hn:dz p env)(ha:mw p env x true)(hf:ke p env (Txt.split b (Str.ofString " ")) []=some Y.bb):Mv p x X Y:=
 λr=>let z:=Ql hR c6;⟨_,env,b,hR,.hit (hm r) hn ha,hn,z.1,z.2,hf⟩
theorem Mv.snd{a' b':Str}(hR:iX x=some ((a',b')::(a,b)::cM))(h0:∀r,dF (Txt.split a' (Str.ofString " ")) (.bu X::r) []=some none)(hm:∀r,dF (Txt.split a (Str.ofString " ")) (.bu X::r) []=some (some env))(hn:dz p env)(ha:mw p env x true)(hf:ke p env (Txt.split b (Str.ofString " ")) []=some Y.bb):Mv p x X Y:=
 λr=>let z:=Ql hR (e9 _ c6);⟨_,env,b,hR,.miss (h0 r) (.hit (hm r) hn ha),hn,z.1,z.2,hf⟩
noncomputable def pC(a b:Str)(P R:Pt):Bool:=decide (Txt.split a (Str.ofString " ")=P.text)&&(P.jn&&(decide P.lets.Nodup&&(decide (Txt.split b (Str.ofString " ")=R.text)&&P.lets.all (λx=>!Pt.ki.contains x))))
section
variable{p:Int}{x a b a' b':Str}{P R:Pt}{cM:List (Str×Str)}{X Y:Dw}{env:List (Str×List V)}
theorem mG(hc:pC a b P R=true)(hm:P.mt X []=some env)(r:List It2):dF (Txt.split a (Str.ofString " ")) (.bu X::r) []=some (some env):=by
 simp only[pC,dq,aI]at hc
 have:=abd hc.2.1 [] r (e:=[]) hc.2.2.1 hm
 rw[gU]at this;rw[hc.1,this];rfl
theorem fG(hc:pC a b P R=true)(hm:P.mt X []=some env)(hf:R.kK p env=some Y.bb):ke p env (Txt.split b (Str.ofString " ")) []=some Y.bb:=by
 simp only[pC,dq,aI]at hc
 have:=abe (abf (zb hm) hc.2.2.2.2) [] (acc:=[]) hf
 rw[gU]at this;rw[hc.2.2.2.1,this];rfl
theorem kj(P R:Pt)(hR:iX x=some ((a,b)::cM))(hc:pC a b P R=true)(hm:P.mt X []=some env)(hf:R.kK p env=some Y.bb)(hn:dz p env)(ha:mw p env x true):Mv p x X Y:=.fst hR (mG hc hm) hn ha (fG hc hm hf)
theorem Iy(P R:Pt)(hR:iX x=some ((a',b')::(a,b)::cM))(h0:∀r,dF (Txt.split a' (Str.ofString " ")) (.bu X::r) []=some none)(hc:pC a b P R=true)(hm:P.mt X []=some env)(hf:R.kK p env=some Y.bb)(hn:dz p env)(ha:mw p env x true):Mv p x X Y:=.snd hR h0 (mG hc hm) hn ha (fG hc hm hf)
end
section
variable{p:Int}{a b c e:Dw}{n m:Int}
theorem abj(oa:a.ok p)(wa:a.bb.length<=200):Mv p (Str.ofString "twice") (.back (.back a)) a:=kj (.back (.back (.any "A"))) (.any "A") (by rfl) (by decide +kernel) rfl rfl (dz.bu .nil oa wa) (.any (by decide) (by decide))
theorem abk(oa:a.ok p)(wa:a.bb.length<=200)(ob:b.ok p)(wb:b.bb.length<=200):Mv p (Str.ofString "turnthen") (.back (.bj a b)) (.bj (.back b) (.back a)):=kj (.back (.bj (.any "A") (.any "B"))) (.bj (.back (.any "B")) (.back (.any "A"))) (by rfl) (by decide +kernel) rfl rfl (dz.bu (dz.bu .nil ob wb) oa wa) (.any (by decide) (by decide))
theorem abl(oa:a.ok p)(wa:a.bb.length<=200)(ob:b.ok p)(wb:b.bb.length<=200):Mv p (Str.ofString "turnbeside") (.back (.bt a b)) (.bt (.back a) (.back b)):=kj (.back (.fZ (.any "A") (.any "B"))) (.fZ (.back (.any "A")) (.back (.any "B"))) (by rfl) (by decide +kernel) rfl rfl (dz.bu (dz.bu .nil ob wb) oa wa) (.any (by decide) (by decide))
theorem abm(oa:a.ok p)(wa:a.bb.length<=200)(ob:b.ok p)(wb:b.bb.length<=200)(oc:c.ok p)(wc:c.bb.length<=200):Mv p (Str.ofString "thread") (.bj (.bj a b) c) (.bj a (.bj b c)):=kj (.bj (.bj (.any "A") (.any "B")) (.any "C")) (.bj (.any "A") (.bj (.any "B") (.any "C"))) (by rfl) (by decide +kernel) rfl rfl (dz.bu (dz.bu (dz.bu .nil oc wc) ob wb) oa wa) (.any (by decide) (by decide))
theorem abn(oa:a.ok p)(wa:a.bb.length<=200)(ob:b.ok p)(wb:b.bb.length<=200)(oc:c.ok p)(wc:c.bb.length<=200):Mv p (Str.ofString "stack") (.bt (.bt a b) c) (.bt a (.bt b c)):=kj (.fZ (.fZ (.any "A") (.any "B")) (.any "C")) (.fZ (.any "A") (.fZ (.any "B") (.any "C"))) (by rfl) (by decide +kernel) rfl rfl (dz.bu (dz.bu (dz.bu .nil oc wc) ob wb) oa wa) (.any (by decide) (by decide))
theorem abo(oa:a.ok p)(wa:a.bb.length<=200)(ob:b.ok p)(wb:b.bb.length<=200)(oc:c.ok p)(wc:c.bb.length<=200)(oe:e.ok p)(we:e.bb.length<=200)(h:a.lN=c.lM):Mv p (Str.ofString "cross") (.bj (.bt a b) (.bt c e)) (.bt (.bj a c) (.bj b e)):=kj (.bj (.fZ (.any "A") (.any "B")) (.fZ (.any "C") (.any "D"))) (.fZ (.bj (.any "A") (.any "C")) (.bj (.any "B") (.any "D"))) (by rfl) (by decide +kernel) rfl rfl (dz.bu (dz.bu (dz.bu (dz.bu .nil oe we) oc wc) ob wb) oa wa) (aG h▸mw.G7 a c (by rfl) (by rfl) oa oc)
theorem abp(oa:a.ok p)(wa:a.bb.length<=200):Mv p (Str.ofString "lone") (.bj (.box (Str.ofString "id") l1 r1) a) a:=kj (.bj (.box "id") (.any "A")) (.any "A") (by rfl) (by decide +kernel) rfl rfl (dz.bu .nil oa wa) (.any (by decide) (by decide))
theorem abq(oa:a.ok p)(wa:a.bb.length<=200)(h:j8 (It2.bu a).head≠Str.ofString "id"):Mv p (Str.ofString "lone") (.bj a (.box (Str.ofString "id") l1 r1)) a:=Iy (.bj (.any "A") (.box "id")) (.any "A") (by rfl) (λ_=>abg h) (by decide +kernel) rfl rfl (dz.bu .nil oa wa) (.any (by decide) (by decide))
theorem abr(oa:a.ok p)(wa:a.bb.length<=200):Mv p (Str.ofString "bare") (.bt (.box (Str.ofString "empty") l1 r1) a) a:=kj (.fZ (.box "empty") (.any "A")) (.any "A") (by rfl) (by decide +kernel) rfl rfl (dz.bu .nil oa wa) (.any (by decide) (by decide))
theorem abt(oa:a.ok p)(wa:a.bb.length<=200)(h:j8 (It2.bu a).head≠Str.ofString "empty"):Mv p (Str.ofString "bare") (.bt a (.box (Str.ofString "empty") l1 r1)) a:=Iy (.fZ (.any "A") (.box "empty")) (.any "A") (by rfl) (λ_=>abh h) (by decide +kernel) rfl rfl (dz.bu .nil oa wa) (.any (by decide) (by decide))
theorem abu(zn:0<=n)(gn:n<p)(zm:0<=m)(gm:m<p):Mv p (Str.ofString "scale") (.bj (.times n) (.times m)) (.times (n*m%p)):=kj (.bj (.tk "k") (.tk "l")) (.tk "k*l") (by rfl) (by decide +kernel) rfl rfl (dz.num (dz.num .nil zm gm) zn gn) (.any (by decide) (by decide))
theorem abv:Mv p (Str.ofString "one") (.times 1) (.box (Str.ofString "id") s1 t1):=kj (.tn "1" 1) (.box "id") (by rfl) (by decide +kernel) rfl rfl .nil (.any (by decide) (by decide))
theorem abw{s2 t2:Nat}:Mv p (Str.ofString "nought") (.times 0) (.bj (.box (Str.ofString "end") s1 t1) (.box (Str.ofString "none") s2 t2)):=kj (.tn "0" 0) (.bj (.box "end") (.box "none")) (by rfl) (by decide +kernel) rfl rfl .nil (.any (by decide) (by decide))
theorem abx(zn:0<=n)(gn:n<p):Mv p (Str.ofString "scalecopy") (.bj (.times n) (.box (Str.ofString "copy") l1 r1)) (.bj (.box (Str.ofString "copy") s1 t1) (.bt (.times n) (.times n))):=kj (.bj (.tk "k") (.box "copy")) (.bj (.box "copy") (.fZ (.tk "k") (.tk "k"))) (by rfl) (by decide +kernel) rfl rfl (dz.num .nil zn gn) (.any (by decide) (by decide))
theorem aby(zn:0<=n)(gn:n<p):Mv p (Str.ofString "scaleadd") (.bj (.box (Str.ofString "add") l1 r1) (.times n)) (.bj (.bt (.times n) (.times n)) (.box (Str.ofString "add") s1 t1)):=kj (.bj (.box "add") (.tk "k")) (.bj (.fZ (.tk "k") (.tk "k")) (.box "add")) (by rfl) (by decide +kernel) rfl rfl (dz.num .nil zn gn) (.any (by decide) (by decide))
theorem abz(zn:0<=n)(gn:n<p)(h:n≠0):Mv p (Str.ofString "turnscale") (.back (.times n)) (.times (jO p n)):=kj (.back (.tk "k")) (.tk "1/k") (by rfl) (by decide +kernel) rfl rfl (dz.num .nil zn gn) (aG h▸mw.scale n (by rfl))
theorem abA:Mv p (Str.ofString "turnid") (.back (.box (Str.ofString "id") l1 r1)) (.box (Str.ofString "id") s1 t1):=kj (.back (.box "id")) (.box "id") (by rfl) (by decide +kernel) rfl rfl .nil (.any (by decide) (by decide))
theorem abB:Mv p (Str.ofString "turnid") (.back (.box (Str.ofString "swap") l1 r1)) (.box (Str.ofString "swap") s1 t1):=Iy (.back (.box "swap")) (.box "swap") (by rfl) (λ_=>Qk (by show Str.ofString "swap" ≠ Str.ofString "id";decide)) (by decide +kernel) rfl rfl .nil (.any (by decide) (by decide))
theorem abC:Mv p (Str.ofString "turnid") (.back (.box (Str.ofString "empty") l1 r1)) (.box (Str.ofString "empty") s1 t1):=λ_=>have c:pC "back empty" "empty" (.back (.box "empty")) (.box "empty")=true:=(by decide +kernel);⟨_,[],_,(by rfl),.miss (Qk (by show Str.ofString "empty" ≠ Str.ofString "id";decide)) (.miss (abi (by show Str.ofString "empty" ≠ Str.ofString "swap";decide)) (.hit (mG c rfl _) dz.nil (.any (by decide) (by decide)))),dz.nil,by decide +kernel,by decide +kernel,fG c (X:=.back (.box "empty" 0 0)) rfl rfl⟩
end
theorem abD{K:Frag}{H:Hp}{Q:VK}{E:XK}{aw:Addr}(hd:d.ok p)(p2:2<=p)(cf:p<=97)(hl:d.bb.length<=200)(hw:cg K H aw d.bb)(hA:At d i X)(hM:Mv p x X Y)(hy:Y.bb.length<=1000)
  (q:jw K H (d.bb.take i++Y.bb++d.bb.drop (i+X.bb.length)) Q):N2 K iX [.int p,.ref aw,.int (i:Int),.str x] H Q E:=by
 obtain⟨r,hA⟩:=hA;obtain⟨cM,env,b,h1,h2,h3,h4,h5,h6⟩:=hM r;exact⟨p,aw,i,x,b,d,X,r,cM,env,Y.bb,rfl,hd,p2,cf,hl,hw,hA,h1,by rw[hA];exact h2,h3,h4,h5,h6,hy,q⟩
noncomputable def cw:D1.Dr->Dw
 | .id=>.box (Str.ofString "id") 1 1
 | .swap=>.box (Str.ofString "swap") 2 2
 | .copy=>.box (Str.ofString "copy") 1 2
 | .fin=>.box (Str.ofString "end") 1 0
 | .add=>.box (Str.ofString "add") 2 1
 | .none=>.box (Str.ofString "none") 0 1
 | .gZ=>.box (Str.ofString "cup") 0 2
 | .empty=>.box (Str.ofString "empty") 0 0
 | .times n=>.times n
 | .back d=>.back (cw d)
 | .bt a b=>.bt (cw a) (cw b)
 | .bj a b=>.bj (cw a) (cw b)
theorem kO:∀d:D1.Dr,(cw d).bb=d.bb.map dO
 | .id | .swap | .copy | .fin | .add | .none | .gZ | .empty | .times _=>rfl
 | .back d=>by
  show V.str "back"::(cw d).bb=V.str "back"::d.bb.map dO;rw[kO d]
 | .bt a b=>by
  show V.str "beside"::((cw a).bb++(cw b).bb)=V.str "beside"::(a.bb++b.bb).map dO;rw[kO a,kO b,ig]
 | .bj a b=>by
  show V.str "then"::((cw a).bb++(cw b).bb)=V.str "then"::(a.bb++b.bb).map dO;rw[kO a,kO b,ig]
theorem mI(d:D1.Dr):(cw d).bb.length=d.bb.length:=by rw[kO,cB]
theorem oE:∀d:D1.Dr,(cw d).cq=d.cq
 | .id | .swap | .copy | .fin | .add | .none | .gZ | .empty | .times _=>rfl
 | .back d=>by show((cw d).cq.2,(cw d).cq.1)=(d.cq.2,d.cq.1);rw[oE d]
 | .bt a b=>by show((cw a).cq.1+(cw b).cq.1,(cw a).cq.2+(cw b).cq.2)=(a.cq.1+b.cq.1,a.cq.2+b.cq.2);rw[oE a,oE b]
 | .bj a b=>by show((cw a).cq.1,(cw b).cq.2)=(a.cq.1,b.cq.2);rw[oE a,oE b]
theorem ft{p:Int}:∀{d:D1.Dr},d.wf p->(cw d).ok p
 | .id,_=>by show(_,_,_)∈iW;decide +kernel
 | .swap,_=>by show(_,_,_)∈iW;decide +kernel
 | .copy,_=>by show(_,_,_)∈iW;decide +kernel
 | .fin,_=>by show(_,_,_)∈iW;decide +kernel
 | .add,_=>by show(_,_,_)∈iW;decide +kernel
 | .none,_=>by show(_,_,_)∈iW;decide +kernel
 | .gZ,_=>by show(_,_,_)∈iW;decide +kernel
 | .empty,_=>by show(_,_,_)∈iW;decide +kernel
 | .times _,h=>h
 | .back d,h=>ft (d:=d) h
 | .bt _ _,h=>⟨ft h.1,ft h.2⟩
 | .bj _ _,h=>⟨ft h.1,ft h.2.1⟩
theorem abE:∀d:D1.Dr,∃x r,d.bb=.w x::r
 | .id | .swap | .copy | .fin | .add | .none | .gZ | .empty | .times _ | .back _ | .bt _ _ | .bj _ _=>⟨_,_,rfl⟩
noncomputable def rq:D1.Wd->Dat
 | .w x=>.str x
 | .n i=>.int i
theorem Iz{K:Frag}{H:Hp}:∀ws:List D1.Wd,iq K H (ws.map dO) (ws.map rq)
 | []=>.nil
 | .w _::ws=>.cons (.str _) (Iz ws)
 | .n i::ws=>.cons (.int i) (Iz ws)
noncomputable def IA:List String:=["id","swap","copy","end","add","none","cup","empty","times","back","beside","then"]
theorem abF:IA.all (λx=>kqdOk 6 (.str (Str.ofString x))&&kqdOk 7 (.str (Str.ofString x)))=true:=by decide +kernel
theorem abG:∀(d:D1.Dr)(x:String),D1.Wd.w x∈d.bb->x∈IA:=by
 intro d;induction d with
 |times n=>intro x h;simp[D1.Dr.bb]at h;subst h;decide
 |back d ih=>
  intro x h;simp[D1.Dr.bb]at h;rcases h with rfl|h
  ·decide
  ·exact ih x h
 |bt a b gL iF=>
  intro x h;simp[D1.Dr.bb]at h;rcases h with rfl|h|h
  ·decide
  ·exact gL x h
  ·exact iF x h
 |bj a b gL iF=>
  intro x h;simp[D1.Dr.bb]at h;rcases h with rfl|h|h
  ·decide
  ·exact gL x h
  ·exact iF x h
 |_=>intro x h;simp[D1.Dr.bb]at h;subst h;decide
theorem kqd_all(h:∀x,D1.Wd.w x∈ws->x∈IA):(ws.map rq).all (kqdOk 7)=true/\(ws.map rq).all (kqdOk 6)=true:=by
 have key:∀u∈ws,kqdOk 7 (rq u)=true/\kqdOk 6 (rq u)=true:=λu hu=>by
  cases u with
  |n i=>exact⟨rfl,rfl⟩
  |w x=>
   have:=fh.mp abF x (h x hu)
   rw[dq]at this;exact⟨this.2,this.1⟩
 exact⟨fh.mpr λy hy=>by obtain⟨u,hu,rfl⟩:=lh.mp hy;exact(key u hu).1,fh.mpr λy hy=>by obtain⟨u,hu,rfl⟩:=lh.mp hy;exact(key u hu).2⟩
def t8(te:TE)(σ:St)(H:Hp)(ws:List D1.Wd):Prop:=∀H',bh H H'->∀R:VK,(∀a dY,bh H' dY->dY a=some (.lst (ws.map dO))->R (.ref a) dY)->te σ H' R
def v7(ta:TA)(σ:St)(ws:List D1.Wd):Prop:=∀(H:Hp)(Q:List V->Hp->Prop),Q (ws.map dO) H->ta σ H Q
def WvE(te:TE)(σ:St)(n:Int):Prop:=∀(H:Hp)(R:VK),R (.int n) H->te σ H R
section
variable{σ:St}{H:Hp}
theorem nC:v7 bQ σ []:=λ_ _ q=>q
theorem kQ{x:String}(h:v7 ta σ ws):v7 (bo (tC (.str (Str.ofString x))) ta) σ (.w x::ws):=λH Q q=>h H _ q
theorem Qm{n:Int}{te:TE}(k:WvE te σ n)(h:v7 ta σ ws):v7 (bo te ta) σ (.n n::ws):=λH Q q=>k H _ (h H _ q)
theorem Qn{a:Addr}(h:σ[i]?=some (some (.ref a)))(ha:H a=some (.lst (ws.map dO))):t8 (br i) σ H ws:=λ_ s _ q=>⟨_,h,q a _ (.refl _) (s _ _ ha)⟩
theorem nE(h:v7 ta σ ws)(hn:ws.length<=100):t8 (cP ta) σ H ws:=λH' _ R q=>h H' _ ⟨by rw[cB];exact dj hn (by decide),λl hl=>q l _ (.upd hl) bz⟩
theorem rA{ta tb:TE}{us:List D1.Wd}(h1:t8 ta σ H ws)(h2:t8 tb σ H us)(hl:ws.length+us.length<=1000):t8 (bw eB ta tb) σ H (ws++us):=λH' s R q=>by
 refine h1 H' s _ λa H1 s1 ga=>h2 H1 (s.trans s1) _ λb H2 s2 gb=>?_;refine⟨a,b,_,_,rfl,rfl,s2 _ _ ga,gb,by rw[cB,cB];exact dj hl (by decide),λc hc=>?_⟩;rw[<- ig];exact q c _ (s1.trans (s2.trans (.upd hc))) bz
end
theorem v8:∀d:D1.Dr,(cw d).clean
 | .id=>by show(Str.ofString "id",1,1)∈oz;decide +kernel
 | .swap=>by show(Str.ofString "swap",2,2)∈oz;decide +kernel
 | .copy=>by show(Str.ofString "copy",1,2)∈oz;decide +kernel
 | .fin=>by show(Str.ofString "end",1,0)∈oz;decide +kernel
 | .add=>by show(Str.ofString "add",2,1)∈oz;decide +kernel
 | .none=>by show(Str.ofString "none",0,1)∈oz;decide +kernel
 | .gZ=>by show(Str.ofString "cup",0,2)∈oz;decide +kernel
 | .empty=>by show(Str.ofString "empty",0,0)∈oz;decide +kernel
 | .times _=>True.intro
 | .back d=>v8 d
 | .bt a b=>⟨v8 a,v8 b⟩
 | .bj a b=>⟨v8 a,v8 b⟩
theorem t9:∀d:Dw,d.dep<=d.bb.length
 | .box ..=>cF 1
 | .times _=>by show 1<=2;decide
 | .back d=>by
  have:=t9 d
  show d.dep+1<=d.bb.length+1;lia
 | .bt a b=>by
  have:=t9 a
  have:=t9 b
  show max a.dep b.dep+1<=(a.bb++b.bb).length+1;rw[cL];lia
 | .bj a b=>by
  have:=t9 a
  have:=t9 b
  show max a.dep b.dep+1<=(a.bb++b.bb).length+1;rw[cL];lia
noncomputable def B6(d:Dw):Nat->Dw
 |0=>d
 |n+1=>.bt (.box "empty" 0 0) (B6 d n)
theorem Qo(d:Dw):∀n,(B6 d n).dep<=d.dep+n
 |0=>cF _
 |n+1=>by
  have:=Qo d n
  have:=P6 d
  show max 1 (B6 d n).dep+1<=d.dep+(n+1);lia
theorem Qp{k:Int}:kg d=.tuple [.str (Str.ofString "times"),.int k]↔d=.times k:=by
 cases d with
 |box y l r=>exact⟨λh=>by have:=ai List.length (Dat.tuple.inj h);simp at this,λh=>nomatch h⟩
 |times n=>
  constructor
  ·intro h;have h:=Dat.tuple.inj h;rw[Dat.int.inj (iP (iP h).2).1]
  ·intro h;cases h;rfl
 |back e=>exact⟨λh=>absurd (Dat.str.inj (iP (Dat.tuple.inj h)).1) (by decide),λh=>nomatch h⟩
 |bt a b=>exact⟨λh=>by have:=ai List.length (Dat.tuple.inj h);simp at this,λh=>nomatch h⟩
 |bj a b=>exact⟨λh=>by have:=ai List.length (Dat.tuple.inj h);simp at this,λh=>nomatch h⟩
noncomputable def Dw.qj(W:String):Dw->Bool
 | .box y _ _=>decide (y=Str.ofString W)
 |_=>false
theorem Qq{W:String}:kg d=.tuple [.str (Str.ofString W)]↔d.qj W=true:=by
 cases d with
 |box y l r=>
  show Dat.tuple [.str y]=_↔decide (y=Str.ofString W)=true;constructor
  ·intro h;have h:=Dat.tuple.inj h;exact aG (Dat.str.inj (iP h).1)
  ·intro h;rw[aM h]
 |times n=>exact⟨λh=>by have:=ai List.length (Dat.tuple.inj h);simp at this,λh=>nomatch h⟩
 |back e=>exact⟨λh=>by have:=ai List.length (Dat.tuple.inj h);simp at this,λh=>nomatch h⟩
 |bt a b=>exact⟨λh=>by have:=ai List.length (Dat.tuple.inj h);simp at this,λh=>nomatch h⟩
 |bj a b=>exact⟨λh=>by have:=ai List.length (Dat.tuple.inj h);simp at this,λh=>nomatch h⟩
section
variable{K:Frag}{D:Ends}{σ:St}{H:Hp}{t u:TS}{p:Int}{x:Str}{u1:V}{d:Dw}
def IC(K:Frag)(j:Nat)(k:Int):TT:=eM (bw (vM K false) (br j) (eX (bo (tC (.str "times")) (bo (tC (.int k)) bQ))))
theorem Qr{j:Nat}{R:String}{k:Int}(h0:σ[i]?=some (some (.str x)))(h1:σ[j]?=some (some u1))(ha:cy K H u1 d)(ok:d.ok p)(hd:d.dep<=60)
  (yes:x=Str.ofString R/\d=.times k->∀H',bh H H'->t D σ H') (no:¬(x=Str.ofString R/\d=.times k)->∀H',bh H H'->u D σ H'):cU (eh (iE i R) (IC K j k)) t u D σ H:=by
 by_cases e:x=Str.ofString R
 rotate_left
 ·exact oq h0 e (no (λz=>e z.1) H (.refl _))
 refine mH h0 e ⟨_,h1,by show 2<=sizeLine;decide,λl hl=>?_⟩;have s1:=bh.upd (o:=.tup [.str "times",.int k]) hl;refine⟨_,_,(ha.tup s1.tup).has,.tuple (.of bz) (.cons (.str _) (.cons (.int _) .nil)),qe ok (by lia),?_,_,rfl,?_⟩
 ·show([Dat.str "times",.int k]).all (kqdOk 61)=true;simp only[nM,List.all_nil,uv,rh 61 Ij,Ii 61]
 by_cases c:d=.times k
 ·exact B4 (Qp.mpr c) (yes ⟨e,c⟩ _ s1)
 ·exact B5 (λz=>c (Qp.mp z)) (no (λz=>c z.2) _ s1)
def Qs(K:Frag)(j:Nat)(i:Int)(W:String):TT:=eM (bw (vM K false) (gK K j i) (eX (bo (tC (.str W)) bQ)))
theorem abH{j:Nat}{i:Int}{W:String}{a:Addr}{xs:List V}{e:Dw}(h1:σ[j]?=some (some (.ref a)))(g:cg K H a xs)(hi:jK xs i=some v)(hv:cy K H v e)(ok:e.ok p)(hd:e.dep<=60)(hW:PyData.strOk (Str.ofString W)=true)
  (yes:e.qj W=true->∀H',bh H H'->t D σ H') (no:¬e.qj W=true->∀H',bh H H'->u D σ H'):cU (Qs K j i W) t u D σ H:=by
 refine⟨_,h1,a,xs,i,v,rfl,rfl,g,hi,by show 1<=sizeLine;decide,λl hl=>?_⟩;have s1:=bh.upd (o:=.tup [.str W]) hl;refine⟨_,_,(hv.tup s1.tup).has,.tuple (.of bz) (.cons (.str _) .nil),qe ok (by lia),?_,_,rfl,?_⟩
 ·show([Dat.str W]).all (kqdOk 61)=true;simp only[nM,List.all_nil,uv,rh 61 hW]
 by_cases c:e.qj W=true
 ·exact B4 (Qq.mpr c) (yes c _ s1)
 ·exact B5 (λz=>c (Qq.mp z)) (no c _ s1)
end
def IE(K:Frag):Sp:=λvs H Q _=>∃(p:Int)(x:Str)(a:Addr)(d:Dw),vs=[.int p,.str x,.ref a]/\p∈eZ/\cy K H (.ref a) d/\d.ok p/\∀v H',bh H H'->jS K H' v (e8 p x d)->Q v H'
theorem abI:dD ["p","rule","one"] ["p","rule","one"] (cN AQ):=dU rfl rfl rfl (by decide +kernel) rfl
theorem ntn:(["k","p","one"]:List Str).Nodup:=by decide +kernel
theorem abJ{f:Addr}{fd:FuncData}(F:c9 K "_law_turns" "_law_turns" AQ f fd)(T:Txt mg):ck P w K mg base cA 1 f fd ["p","rule","one"] (IE K):=by
 refine F.ok abI (λvs H Q E h=>?_) (λcI A outer s H vs Q E hr h=>?_)
 ·obtain⟨p,x,a,d,rfl,_⟩:=h;rfl
 ·obtain⟨p,x,a,d,rfl,pp,hv,hd,q⟩:=h;refine⟨PL K (PM K (PN K (PR K (PU K (dG (tC .cC)))))),?_,?_⟩
  ·have ix:∀{X:Cx}{e:Expr}{te:TE}{i:Int}{m:Option String}{p1 p2:Pos},True:=trivial;refine bD (cO (PW.pt (fQ (cj cS (pv 1) bI (cm _)) (fQ (cj cS (bO (cJ K rfl) (pv 2) bp) bI (cm _)) (iB (cj zY (bO (cJ K rfl) (pv 2) bp) bp (cm _)))))) (bK (cE (dh (bg bI (bg ?_ bq))))) cW) ?_
   ·refine bO (de K rfl) ?_ ?_ ?_
    ·exact As (N:=["k","p","one"]) (own:=1) (caps:=[0,2]) rfl (qA rfl T.range (bg (pv 0) bq)) (show j0 ["p","rule","one"] (cN AQ) ["k","p","one"] 1 [0,2] _ from .mk' (by decide +kernel)) (λ_ _ _ _ _=>eL (i:=0) ntn rfl (.inl rfl)) (λ_ _ _ _ _=>En (cj cS (bH eI (bH qC (pv 0) (bO (cJ K rfl) (pv 2) bp)) (pv 1)) bp (cm _))) (λ_ _ _ _ _=>pv 0)
    ·exact bp
    ·exact λ_ _=>rfl
   refine bD (cO (PW.pt (fQ (cj cS (pv 1) bI (cm _)) (iB (cj (xC K rfl) (bO (cJ K rfl) (pv 2) bp) (cK (bg bI (bg bI (bg bI bq)))) rfl)))) (bK (cE (pv 2))) cW) ?_;refine bD (cO (PW.pt (fQ (cj cS (pv 1) bI (cm _)) (iB (cj cS (bO (cJ K rfl) (pv 2) bp) bI (cm _))))) (bK (cE (bO (cJ K rfl) (pv 2) bp))) cW) ?_;refine bD (cO (PW.pt (fQ (cj cS (pv 1) bI (cm _)) (iB (cj cS (bO (cJ K rfl) (pv 2) bp) bI (cm _))))) (bK (cE (dh (bg bI (bg (dh (bg bI (bg (bO (cJ K rfl) (pv 2) bp) bq))) (bg (dh (bg bI (bg (bO (cJ K rfl) (pv 2) bp) bq))) bq)))))) cW) ?_;refine bD (cO (PW.pt (fQ (cj cS (pv 1) bI (cm _)) (iB (cj cS (bO (cJ K rfl) (pv 2) bp) bI (cm _))))) (bK (cE (dh (bg bI (bg (dh (bg bI (bg (bO (cJ K rfl) (pv 2) bp) bq))) (bg (dh (bg bI (bg (bO (cJ K rfl) (pv 2) bp) bq))) bq)))))) cW) ?_;exact bK (cE gW)
  ·have fin:∀{r:Option Dw}{v:V}{H':Hp},e8 p x d=r->bh H H'->jS K H' v r->Q v H':=λe s' o=>q _ _ s' (e▸o);refine aaR (p:=p) (d:=d) rfl rfl rfl hv hd pp (λY e v H' s' t=>fin (r:=some Y) (by unfold e8;rw[e];rfl) s' t) λe1=>?_;refine aaS (p:=p) (d:=d) rfl rfl hv hd (λY e v H' s' t=>fin (r:=some Y) (by unfold e8;rw[e1,e];rfl) s' t) λe2 H1 s1=>?_;have hv:=hv.tup s1.tup;refine aaT (p:=p) (d:=d) rfl rfl hv hd (λY e v H' s' t=>fin (r:=some Y) (by unfold e8;rw[e1,e2,e];rfl) (s1.trans s') t) λe3=>?_;refine aaU (p:=p) (d:=d) rfl rfl hv hd (λY e v H' s' t=>fin (r:=some Y) (by unfold e8;rw[e1,e2,e3,e];rfl) (s1.trans s') t) λe4=>?_;refine aaV (p:=p) (d:=d) rfl rfl hv hd (λY e v H' s' t=>fin (r:=some Y) (by unfold e8;rw[e1,e2,e3,e4,e];rfl) (s1.trans s') t) λe5=>?_;exact fin (r:=none) (by unfold e8;rw[e1,e2,e3,e4,e5];rfl) s1 rfl
noncomputable def nF(x:Str)(b:Dw):Dw->Option Dw
 | .bt c e=>if x=Str.ofString "stack" then some (.bt c (.bt e b))else none
 |_=>none
noncomputable def i0(x:Str)(a b:Dw):Option Dw:=if x=Str.ofString "bare"/\a.qj "empty"=true then some b else none
noncomputable def ua:Dw:=.box "id" 1 1
noncomputable def rB:Dw:=.bj (.box "end" 1 0) (.box "none" 0 1)
noncomputable def dQ(p:Int)(x:Str):Dw->Option Dw
 | .box _ _ _=>none
 | .times n=>if x=Str.ofString "one"/\n=1 then some ua else if x=Str.ofString "nought"/\n=0 then some rB else none
 | .back e=>e8 p x e
 | .bt a b=>(nF x b a).or ((i0 x a b).or (i0 x b a))
 | .bj a b=>(jm x a b).or (jT p x a b)
section
variable{K:Frag}{D:Ends}{σ:St}{H:Hp}{t u:TS}{p:Int}{x:Str}{d:Dw}
def IF(K:Frag)(u:TS):TS:=cu (cU (eh (iE 1 "one") (IC K 2 1)) (dG (eX (bo (tC (.str "id")) bQ))) eA)
 (cu (cU (eh (iE 1 "nought") (IC K 2 0)) (dG (eX (bo (tC (.str "then")) (bo (eX (bo (tC (.str "end")) bQ)) (bo (eX (bo (tC (.str "none")) bQ)) bQ))))) eA) u)
theorem abK(h0:σ[1]?=some (some (.str x)))(h1:σ[2]?=some (some v))(h:cy K H v d)(ok:d.ok p)(hd:d.dep<=60)
  (q:∀Y,dQ p x d=some Y->∀v H',bh H H'->cy K H' v Y->D.rt v H') (k:(∀n,d=.times n->dQ p x d=none)->∀H',bh H H'->u D σ H'):IF K u D σ H:=by
 refine Qr h0 h1 h ok hd (λc H1 s1=>?_) λc1 H1 s1=>?_
 ·obtain⟨c,rfl⟩:=c;refine⟨by show 1<=sizeLine;decide,λl hl=>?_⟩;exact q ua (ae ⟨c,rfl⟩) _ _ (s1.trans (.upd hl)) (.box (.of bz))
 refine Qr h0 h1 (h.tup s1.tup) ok hd (λc H2 s2=>?_) λc2 H2 s2=>?_
 ·obtain⟨c,rfl⟩:=c;refine⟨by show 1<=sizeLine;decide,λl1 lQ=>⟨by show 1<=sizeLine;decide,λl2 ip=>⟨by show 3<=sizeLine;decide,λl3 y4=>?_⟩⟩⟩;have a1:=bh.upd (o:=.tup [.str "end"]) lQ;have a2:=bh.upd (o:=.tup [.str "none"]) ip;have a3:=bh.upd (o:=.tup [.str "then",.ref l1,.ref l2]) y4;refine q rB ?_ _ _ ((s1.trans s2).trans (a1.trans (a2.trans a3))) (.bj (.of bz) (.box (.of ((a2.trans a3) _ _ bz))) (.box (.of (a3 _ _ bz))));show(if x=Str.ofString "one"/\(0:Int)=1 then some ua else if x=Str.ofString "nought"/\(0:Int)=0 then some rB else none)=some rB
  rw[af (λz=>absurd z.2 (by decide)),ae ⟨c,rfl⟩]
 ·refine k (λn e=>?_) H2 (s1.trans s2);subst e;show(if x=Str.ofString "one"/\n=1 then some ua else if x=Str.ofString "nought"/\n=0 then some rB else none)=none
  rw[af (λz=>c1 ⟨z.1,by rw[z.2]⟩),af (λz=>c2 ⟨z.1,by rw[z.2]⟩)]
def IG(K:Frag)(u:TS):TS:=cu (cU (gG K 2 "back") (dG (ij (IE K) [] E0 (bo (br 0) (bo (br 1) (bo (gK K 2 1) bQ))))) eA) u
theorem abL(hp:σ[0]?=some (some (.int p)))(h0:σ[1]?=some (some (.str x)))(h1:σ[2]?=some (some v))(h:cy K H v d)(ok:d.ok p)(pp:p∈eZ)
  (q:∀v H',bh H H'->jS K H' v (dQ p x d)->D.rt v H') (k:(∀e,d≠.back e)->u D σ H):IG K u D σ H:=by
 cases h with
 | @back a w e g i=>
  obtain⟨b,xs,rfl,_,_⟩:=i.nA;refine qf h1 (.back g i) rfl ?_;exact⟨_,hp,_,h0,_,h1,a,_,1,_,rfl,rfl,g,cc (j:=1) rfl,p,x,b,e,rfl,pp,i,ok,λv H' s' o=>q v H' s' o⟩
 |box g=>exact fY h1 (.box (l:=0) (r:=0) g) (ou _ ok).2.1 (k λe z=>nomatch z)
 |times g=>exact fY h1 (.times g) (by show Str.ofString "times" ≠ _;decide) (k λe z=>nomatch z)
 |bt g i j=>exact fY h1 (.bt g i j) (by show Str.ofString "beside" ≠ _;decide) (k λe z=>nomatch z)
 |bj g i j=>exact fY h1 (.bj g i j) (by show Str.ofString "then" ≠ _;decide) (k λe z=>nomatch z)
end
section
variable{K:Frag}{D:Ends}{σ:St}{H:Hp}{t u:TS}{p:Int}{x:Str}{a b:Dw}{l:Addr}{v1 v2:V}
def IH(K:Frag)(i:Int):TE:=bw (xg K) (gK K 2 1) (tC (.int i))
def II(K:Frag)(u:TS):TS:=cu (cU (eh (gG K 2 "beside") (eh (iE 1 "stack") (eM (bw lz (IH K 0) (tC (.str "beside")))))) (dG (eX (bo (tC (.str "beside")) (bo (IH K 1) (bo (eX (bo (tC (.str "beside")) (bo (IH K 2) (bo (gK K 2 2) bQ)))) bQ))))) eA) u
theorem abM(h0:σ[1]?=some (some (.str x)))(h1:σ[2]?=some (some (.ref l)))(g:cg K H l [.str "beside",v1,v2])(i:cy K H v1 a)(j:cy K H v2 b)(ok:a.ok p)
  (q:∀Y,nF x b a=some Y->∀v H',bh H H'->cy K H' v Y->D.rt v H') (k:nF x b a=none->u D σ H):II K u D σ H:=by
 refine yZ h1 (.bt g i j) rfl ?_;by_cases e:x=Str.ofString "stack"
 rotate_left
 ·exact oq h0 e (k (by unfold nF;split<;>simp[e]))
 refine mH h0 e ?_;by_cases c:a.hd=Str.ofString "beside"
 ·obtain⟨m,w1,w2,c1,c2,rfl,rfl,gm,i1,i2⟩:=Iu i ok c;refine⟨_,h1,l,_,1,_,rfl,rfl,g,cc (j:=1) rfl,m,_,0,_,rfl,rfl,gm,cc (j:=0) rfl,rfl,_,rfl,?_⟩;rw[aG rfl];refine eE ⟨_,h1,l,_,1,_,rfl,rfl,g,cc (j:=1) rfl,m,_,1,_,rfl,rfl,gm,cc (j:=1) rfl,_,h1,l,_,1,_,rfl,rfl,g,cc (j:=1) rfl,m,_,2,_,rfl,rfl,gm,cc (j:=2) rfl,_,h1,l,_,2,_,rfl,rfl,g,cc (j:=2) rfl,by show 3<=sizeLine;decide,λl1 lQ=>⟨by show 3<=sizeLine;decide,λl2 ip=>?_⟩⟩;have s1:=bh.upd (o:=.tup [.str "beside",w2,v2]) lQ;have s2:=bh.upd (o:=.tup [.str "beside",w1,.ref l1]) ip;have s:=s1.trans s2;exact q _ (ae e) _ _ s (.bt (.of bz) (i1.tup s.tup) (.bt (.of (s2 _ _ bz)) (i2.tup s.tup) (j.tup s.tup)))
 ·obtain⟨m,xs,rfl,gm,e0⟩:=i.nA;refine⟨_,h1,l,_,1,_,rfl,rfl,g,cc (j:=1) rfl,m,xs,0,_,rfl,rfl,gm,cc (j:=0) e0,rfl,_,rfl,?_⟩;rw[qc,aa c];refine dE (k ?_);unfold nF;split
  ·exact absurd rfl c
  ·rfl
def B7(K:Frag)(i j:Int)(u:TS):TS:=cu (cU (eh (gG K 2 "beside") (eh (iE 1 "bare") (Qs K 2 i "empty"))) (dG (gK K 2 j)) eA) u
theorem Qt{i j:Int}{c e:Dw}{w1 w2:V}(h0:σ[1]?=some (some (.str x)))(h1:σ[2]?=some (some (.ref l)))(g:cg K H l [.str "beside",v1,v2])(hv:cy K H (.ref l) (.bt a b))(ei:jK [.str "beside",v1,v2] i=some w1)(ej:jK [.str "beside",v1,v2] j=some w2)(pz:cy K H w1 c)(pA:cy K H w2 e)(ok:c.ok p)(hd:c.dep<=60)
  (q:∀Y,i0 x c e=some Y->∀v H',bh H H'->cy K H' v Y->D.rt v H') (k:i0 x c e=none->∀H',bh H H'->u D σ H'):B7 K i j u D σ H:=by
 refine yZ h1 hv rfl ?_;by_cases z:x=Str.ofString "bare"
 rotate_left
 ·exact oq h0 z (k (af λy=>z y.1) H (.refl _))
 refine mH h0 z (abH h1 g ei pz ok hd (by decide +kernel) (λy H1 s1=>?_) λy H1 s1=>?_)
 ·exact⟨_,h1,l,_,j,w2,rfl,rfl,s1.cV g,ej,q e (ae ⟨z,y⟩) _ _ s1 (pA.tup s1.tup)⟩
 ·exact k (af λz'=>y z'.2) _ s1
end
section
variable{K:Frag}{D:Ends}{H:Hp}{p:Int}{x:Str}{d a b:Dw}{s3 s4 s5:Option V}{v:V}
def abN:R2:=λx y H Q=>y=.cC/\Q (.bl (decide (x=.cC))) H
def Qu(K:Frag):TS:=cu (cR (ij (Iv K) [] E0 (bo (br 1) (bo (gK K 2 1) (bo (gK K 2 2) bQ)))) (bY 5))
 (cu (cU (eM (bw abN (br 5) (tC .cC))) (cR (ij (Io K) [] E0 (bo (br 0) (bo (br 1) (bo (gK K 2 1) (bo (gK K 2 2) bQ))))) (bY 5)) eA) (dG (br 5)))
def B8(K:Frag):TS:=cu (cU (eM (bw zX (gK K 2 0) (tC (.str "then")))) (dG (tC .cC)) eA) (Qu K)
theorem IJ(h:cy K H v d)(dX:d.hd≠Str.ofString "then")(q:D.rt .cC H):B8 K D [some (.int p),some (.str x),some v,s3,s4,s5] H:=by
 obtain⟨l,xs,rfl,g,e⟩:=h.nA;refine⟨_,rfl,l,xs,0,_,rfl,rfl,g,cc (j:=0) e,rfl,_,rfl,?_⟩;rw[qc,aa dX];exact eE q
theorem jS.tr{r:Option Dw}(h:jS K H v r):(v=.cC/\r=none)\/(v≠.cC/\∃Y,r=some Y/\cy K H v Y):=by
 cases r with
 |none=>exact .inl ⟨h,rfl⟩
 |some Y=>
  refine .inr ⟨λe=>?_,Y,rfl,h⟩;obtain⟨l,xs,e2,_⟩:=cy.nA (show cy K H v Y from h)
  rw[e]at e2;cases e2
theorem abO{l:Addr}{v1 v2:V}(g:cg K H l [.str "then",v1,v2])(i:cy K H v1 a)(j:cy K H v2 b)(oa:a.ok p)(ob:b.ok p)(ca:a.clean)(cb:b.clean)(da:a.dep<=60)(db:b.dep<=60)(p2:2<=p)(cf:p<=97)
  (q:∀v H',bh H H'->jS K H' v ((jm x a b).or (jT p x a b))->D.rt v H'):B8 K D [some (.int p),some (.str x),some (.ref l),s3,s4,s5] H:=by
 refine⟨_,rfl,l,_,0,_,rfl,rfl,g,cc (j:=0) rfl,rfl,_,rfl,?_⟩;rw[aG rfl];refine dE ?_;refine⟨_,rfl,_,rfl,l,_,1,v1,rfl,rfl,g,cc (j:=1) rfl,_,rfl,l,_,2,v2,rfl,rfl,g,cc (j:=2) rfl,p,x,v1,v2,a,b,rfl,i,j,oa,ob,ca,cb,da,db,λv H1 s1 o=>?_⟩;rcases o.tr with⟨rfl,e⟩|⟨dX,Y,e,hY⟩
 ·refine⟨_,rfl,rfl,_,rfl,?_⟩;rw[aG rfl];refine eE ?_;refine⟨_,rfl,_,rfl,_,rfl,l,_,1,v1,rfl,rfl,s1.cV g,cc (j:=1) rfl,_,rfl,l,_,2,v2,rfl,rfl,s1.cV g,cc (j:=2) rfl,p,x,v1,v2,a,b,rfl,p2,cf,i.tup s1.tup,j.tup s1.tup,oa,ob,λv H2 s2 o2=>?_⟩;refine⟨_,rfl,q v H2 (s1.trans s2) ?_⟩;rw[e];exact o2
 ·refine⟨_,rfl,rfl,_,rfl,?_⟩;rw[aa dX];refine dE ⟨_,rfl,q v H1 s1 ?_⟩;rw[e];exact hY
def IK(K:Frag):TS:=IF K (IG K (II K (B7 K 1 2 (B7 K 2 1 (B8 K)))))
theorem IL{t1 t2 t3:TT}{r1 r2 r3 u:TS}{σ:St}(h1:σ[2]?=some (some v))(h:cy K H v d)(dX:d.hd≠Str.ofString "beside")(k:u D σ H) :
  cu (cU (eh (gG K 2 "beside") t1) r1 eA) (cu (cU (eh (gG K 2 "beside") t2) r2 eA) (cu (cU (eh (gG K 2 "beside") t3) r3 eA) u)) D σ H:=
 rp h1 h dX (rp h1 h dX (rp h1 h dX k))
theorem abP(h:cy K H v d)(ok:d.ok p)(hc:d.clean)(hd:d.dep<=60)(pp:p∈eZ)(q:∀v H',bh H H'->jS K H' v (dQ p x d)->D.rt v H'):IK K D [some (.int p),some (.str x),some v,s3,s4,s5] H:=by
 obtain⟨p2,cf⟩:=pX p pp;refine abK (p:=p) rfl rfl h ok hd (λY e v H' s' t=>q v H' s' (by rw[e];exact t)) λkt H1 s1=>?_;have h1:=h.tup s1.tup;refine abL (p:=p) rfl rfl rfl h1 ok pp (λv H' s' o=>q v H' (s1.trans s') o) λnb=>?_;cases h1 with
 | @back _ _ e g i=>exact absurd rfl (nb e)
 | @box l y m r g=>
  have t:cy K H1 (.ref l) (.box y m r):=.box g;exact IL rfl t (ou _ ok).2.2.1 (IJ t (ou _ ok).2.2.2 (q _ _ s1 rfl))
 | @times l n g=>
  have t:cy K H1 (.ref l) (.times n):=.times g;refine IL rfl t (by show Str.ofString "times" ≠ _;decide) (IJ t (by show Str.ofString "times" ≠ _;decide) (q _ _ s1 ?_));rw[kt n rfl];rfl
 | @bj l v1 v2 a b g i j=>
  have t:cy K H1 (.ref l) (.bj a b):=.bj g i j;have hd:max a.dep b.dep+1<=60:=hd;exact IL rfl t (by show Str.ofString "then" ≠ _;decide) (abO g i j ok.1 ok.2 hc.1 hc.2 (by lia) (by lia) (by lia) (by lia) λv H' s' o=>q v H' (s1.trans s') o)
 | @bt l v1 v2 a b g i j=>
  have t:cy K H1 (.ref l) (.bt a b):=.bt g i j;have hd:max a.dep b.dep+1<=60:=hd;have fin:∀{r:Option Dw}{v:V}{H':Hp},(nF x b a).or ((i0 x a b).or (i0 x b a))=r->bh H H'->jS K H' v r->D.rt v H':=λe s' o=>q _ _ s' (by show jS K _ _ ((nF x b a).or ((i0 x a b).or (i0 x b a)));rw[e];exact o);refine abM (p:=p) rfl rfl g i j ok.1 (λY e v H' s' t=>fin (r:=some Y) (by rw[e];rfl) (s1.trans s') t) λe1=>?_;refine Qt (p:=p) (i:=1) (j:=2) rfl rfl g t (cc (j:=1) rfl) (cc (j:=2) rfl) i j ok.1 (by lia) (λY e v H' s' t=>fin (r:=some Y) (by rw[e1,e];rfl) (s1.trans s') t) λe2 H2 s2=>?_;refine Qt (p:=p) (i:=2) (j:=1) rfl rfl (s2.cV g) (t.tup s2.tup) (cc (j:=2) rfl) (cc (j:=1) rfl) (j.tup s2.tup) (i.tup s2.tup) ok.2 (by lia) (λY e v H' s' t=>fin (r:=some Y) (by rw[e1,e2,e];rfl) (s1.trans (s2.trans s')) t) λe3 H3 s3=>?_;exact IJ ((t.tup s2.tup).tup s3.tup) (by show Str.ofString "beside" ≠ _;decide) (fin (r:=none) (by rw[e1,e2,e3];rfl) (s1.trans (s2.trans s3)) rfl)
end
end S21
namespace L2
open PySem PySem.Spec PyProof.Rows
section
variable{X:Cx}
def Qv:R2:=λx y H Q=>∃a o,y=.ref a/\e7 H a x o/\Q (.bl o.isSome) H
theorem abQ(hu:X.A.units+1<cLine):eU X (compareOp .In) Qv:=by
 rintro bc s σ H x y v u Q I rx ry ⟨a,o,rfl,g,q⟩;cases ry;exact V4 hu I g rx λs' I'=>⟨.bl _,H,I',rfl,q⟩
end
end L2
namespace S21
open PySem L2 Bw
variable{H:Hp}{L:List (Str×Str×D1.Dr×D1.Dr)}{X Y:D1.Dr}{bf:List (Key×V)}{p:Int}{q:Str×Str×D1.Dr×D1.Dr}{v:V}{x:Str}
def qk(H:Hp)(cl:Addr)(cs:Str->Option (Dw×Dw)):Prop:=∀x,match cs x with
 |none=>e7 H cl (.str x) none
 |some (A,B)=>∃pr l r,e7 H cl (.str x) (some (.ref pr))/\H pr=some (.lst [.ref l,.ref r])/\H l=some (.lst A.bb)/\H r=some (.lst B.bb)
noncomputable def iw(p:Int)(cs:Str->Option (Dw×Dw))(x:Str)(d:Dw):Option Dw:=match cs x with
 |none=>dQ p x d
 |some (A,B)=>if d.bb=A.bb then some B else none
noncomputable def wD:V->Dat
 | .int n=>.int n
 | .str x=>.str x
 |_=>.none
theorem zd{K:Frag}{H:Hp}:∀{ws:List V},(∀v∈ws,(∃n,v=.int n)\/∃x,v=.str x/\PyData.strOk x=true)->iq K H ws (ws.map wD)/\(ws.map wD).all (kqdOk 7)=true
 | [],_=>⟨.nil,rfl⟩
 |v::ws,h=>by
  obtain⟨a,b⟩:=zd (K:=K) (H:=H) (ws:=ws) λu hu=>h u (e9 _ hu);rcases h v c6 with⟨n,rfl⟩|⟨x,rfl,hx⟩
  ·exact⟨.cons (.int n) a,by rw[ee,nM,b];exact uv _⟩
  ·exact⟨.cons (.str x) a,by rw[ee,nM,b];show(kqdOk 7 (.str x)&&true)=true;rw[rh 7 hx];rfl⟩
theorem lT{p:Int}:∀{d:Dw},d.ok p->∀v∈d.bb,(∃n,v=.int n)\/∃x,v=.str x/\PyData.strOk x=true
 | .box x l r,h,v,hv=>by rw[dP.mp hv];exact .inr ⟨x,rfl,Ih _ h⟩
 | .times n,_,v,hv=>by
  rcases(dI.mp hv)with(e|e)
  ·rw[e];exact .inr ⟨_,rfl,Ij⟩
  ·rw[dP.mp e];exact .inl ⟨n,rfl⟩
 | .back d,h,v,hv=>by
  rcases(dI.mp hv)with(e|e)
  ·rw[e];exact .inr ⟨_,rfl,Pw⟩
  ·exact lT (d:=d) h v e
 | .bt a b,h,v,hv=>by
  rcases(dI.mp hv)with(e|e)
  ·rw[e];exact .inr ⟨_,rfl,Px⟩
  ·rcases(iG.mp e)with(e|e)
   ·exact lT (d:=a) h.1 v e
   ·exact lT (d:=b) h.2 v e
 | .bj a b,h,v,hv=>by
  rcases(dI.mp hv)with(e|e)
  ·rw[e];exact .inr ⟨_,rfl,Py⟩
  ·rcases(iG.mp e)with(e|e)
   ·exact lT (d:=a) h.1 v e
   ·exact lT (d:=b) h.2 v e
theorem Qw:∀{as bs:List V},(∀v∈as,(∃n,v=.int n)\/∃x,v=.str x/\PyData.strOk x=true)->(∀v∈bs,(∃n,v=.int n)\/∃x,v=.str x/\PyData.strOk x=true)->as.map wD=bs.map wD->as=bs
 | [],[],_,_,_=>rfl
 | [],_::_,_,_,h=>nomatch h
 |_::_,[],_,_,h=>nomatch h
 |a::as,b::bs,ha,hb,h=>by
  have h:=iP h;have e:=Qw (λv hv=>ha v (e9 _ hv)) (λv hv=>hb v (e9 _ hv)) h.2;have h1:=h.1;rcases ha a c6 with⟨n,rfl⟩|⟨x,rfl,_⟩
  ·rcases hb b c6 with⟨m,rfl⟩|⟨y,rfl,_⟩
   ·rw[e,Dat.int.inj h1]
   ·cases h1
  ·rcases hb b c6 with⟨m,rfl⟩|⟨y,rfl,_⟩
   ·cases h1
   ·rw[e,Dat.str.inj h1]
def Qx(K:Frag)(i:Int):TE:=bw (gJ K) (EI (br 4) (br 1)) (tC (.int i))
def IM(K:Frag):TS:=cu (cU (eM (bw Qv (br 1) (br 4))) (cu (cU (eM (bw (o8 K false) (br 3) (Qx K 0))) (dG (ij (BX K) [] E0 (bo (Qx K 1) bQ))) eA) (dG (tC .cC))) eA) (IK K)
theorem abR{D:Ends}{d:Dw}{pa cl:Addr}{s5:Option V}{cs:Str->Option (Dw×Dw)}(h:cy K H v d)(ok:d.ok p)(hc:d.clean)(hd:d.dep<=60)(pp:p∈eZ)(gp:H pa=some (.lst d.bb))(pB:qk H cl cs)
  (hk:∀x A B,cs x=some (A,B)->A.ok p/\B.ok p/\B.bb.length<=200) (q:∀v H',bh H H'->jS K H' v (iw p cs x d)->D.rt v H'):IM K D [some (.int p),some (.str x),some v,some (.ref pa),some (.ref cl),s5] H:=by
 have hx:=pB x;cases e:cs x with
 |none=>
  rw[e]at hx;refine⟨_,rfl,_,rfl,cl,none,rfl,hx,_,rfl,dE ?_⟩;exact abP h ok hc hd pp λv H' s' o=>q v H' s' (by unfold iw;rw[e];exact o)
 |some AB=>
  obtain⟨A,B⟩:=AB;rw[e]at hx;obtain⟨pr,l,r,g,Qy,gl,gr⟩:=hx;obtain⟨oA,oB,lB⟩:=hk x A B e;refine⟨_,rfl,_,rfl,cl,_,rfl,g,_,rfl,eE ?_⟩;have w1:=lT ok;have w2:=lT oA;obtain⟨a1,a2⟩:=zd (K:=K) (H:=H) w1;obtain⟨b1,b2⟩:=zd (K:=K) (H:=H) w2;refine⟨_,rfl,_,rfl,_,rfl,cl,_,rfl,g,pr,_,0,_,rfl,rfl,.of Qy,cc (j:=0) rfl,_,_,.list (.of gp) a1,.list (.of gl) b1,a2,b2,_,rfl,?_⟩;by_cases c:d.bb=A.bb
  ·refine B4 (by rw[c]) ?_;refine⟨_,rfl,_,rfl,cl,_,rfl,g,pr,_,1,_,rfl,rfl,.of Qy,cc (j:=1) rfl,p,r,B,rfl,.of gr,oB,lB,λv H' s' t=>q v H' s' ?_⟩;unfold iw;rw[e];show jS K H' v (if d.bb=A.bb then some B else none)
   rw[ae c];exact t
  ·refine B5 (λz=>c (Qw w1 w2 (Dat.list.inj z))) ?_;refine q _ _ (.refl _) ?_;unfold iw;rw[e];show jS K H .cC (if d.bb=A.bb then some B else none)
   rw[af c];rfl
def Qz(K:Frag)(cs:Str->Option (Dw×Dw)):Sp:=λvs H Q _=>∃(p:Int)(x:Str)(v:V)(d:Dw)(pa cl:Addr),vs=[.int p,.str x,v,.ref pa,.ref cl]/\cy K H v d/\d.ok p/\d.clean/\d.dep<=60/\p∈eZ/\H pa=some (.lst d.bb)/\qk H cl cs/\
 (∀x A B,cs x=some (A,B)->A.ok p/\B.ok p/\B.bb.length<=200)/\∀v H',bh H H'->jS K H' v (iw p cs x d)->Q v H'
theorem IP:dD ["p","rule","tree","part","closed","found"] ["p","rule","tree","part","closed"] (cN Fj):=dU rfl rfl rfl (by decide +kernel) rfl
theorem abS{f fT fU fJ fN:Addr}{fd lJ yr qS lU:FuncData}{cs:Str->Option (Dw×Dw)}(F:c9 K "_law_fit" "_law_fit" Fj f fd)
  (GT:ck P w K mg base cA 1 fT lJ ["words"] (BX K)) (kT:Kp K fT) (bT:Binds K lJ ["words"] []) (mT:Mg mg "_law_tree" fT)
  (GU:ck P w K mg base cA 1 fU yr ["p","rule","one"] (IE K)) (kU:Kp K fU) (bU:Binds K yr ["p","rule","one"] []) (mU:Mg mg "_law_turns" fU)
  (GJ:ck P w K mg base cA 62 fJ qS ["rule","one","other"] (Iv K)) (kJ:Kp K fJ) (bJ:Binds K qS ["rule","one","other"] []) (mJ:Mg mg "_law_joint" fJ)
  (GN:ck P w K mg base cA 1 fN lU ["p","rule","one","other"] (Io K)) (kN:Kp K fN) (bN:Binds K lU ["p","rule","one","other"] []) (mN:Mg mg "_law_numbers" fN) :
  ck P w K mg base cA 63 f fd ["p","rule","tree","part","closed"] (Qz K cs):=by
 refine F.ok IP (λvs H Q E h=>?_) (λcI A outer s H vs Q E hr h=>?_)
 ·obtain⟨p,x,v,d,pa,cl,rfl,_⟩:=h;rfl
 ·obtain⟨p,x,v,d,pa,cl,rfl,h,ok,hc,hd,pp,gp,pB,hk,q⟩:=h;have hu:=hr.units;have eJ:=nh hr;have r1:dS 1 _:=hr.mono (by lia);refine⟨IM K,?_,abR h ok hc hd pp gp pB hk q⟩;unfold IM IK IF IG II B7 B8 Qu;refine bD (cO (cj (abQ eJ) (pv 1) (pv 4) rfl) (bD (cO (cj (LX hu) (pv 3) (bO (de K rfl) (lF eJ (pv 4) (pv 1)) bp) (cm _)) (bK (cE (cZ GT r1 rfl mT kT bT .nil cX (bg (bO (de K rfl) (lF eJ (pv 4) (pv 1)) bp) bq)))) cW) (bK (cE gW))) cW) ?_;refine bD (cO (PW.pt (fQ (cj cS (pv 1) bI (cm _)) (iB (cj (vN hu) (pv 2) (dh (bg bI (bg bp bq))) (cm _))))) (bK (cE (dh (bg bI bq)))) cW) ?_;refine bD (cO (PW.pt (fQ (cj cS (pv 1) bI (cm _)) (iB (cj (vN hu) (pv 2) (dh (bg bI (bg bp bq))) (cm _))))) (bK (cE (dh (bg bI (bg (dh (bg bI bq)) (bg (dh (bg bI bq)) bq)))))) cW) ?_;refine bD (cO (cj cS (bO (cJ K rfl) (pv 2) bp) bI (cm _)) (bK (cE (cZ GU r1 rfl mU kU bU .nil cX (bg (pv 0) (bg (pv 1) (bg (bO (cJ K rfl) (pv 2) bp) bq)))))) cW) ?_;refine bD (cO (PW.pt (fQ (cj cS (bO (cJ K rfl) (pv 2) bp) bI (cm _)) (fQ (cj cS (pv 1) bI (cm _)) (iB (cj cS (bO (cJ K rfl) (bO (cJ K rfl) (pv 2) bp) bp) bI (cm _)))))) (bK (cE (dh (bg bI (bg (bO (cJ K rfl) (bO (cJ K rfl) (pv 2) bp) bp) (bg (dh (bg bI (bg (bO (cJ K rfl) (bO (cJ K rfl) (pv 2) bp) bp) (bg (bO (cJ K rfl) (pv 2) bp) bq)))) bq)))))) cW) ?_;refine bD (cO (PW.pt (fQ (cj cS (bO (cJ K rfl) (pv 2) bp) bI (cm _)) (fQ (cj cS (pv 1) bI (cm _)) (iB (cj (vN hu) (bO (cJ K rfl) (pv 2) bp) (dh (bg bI bq)) (cm _)))))) (bK (cE (bO (cJ K rfl) (pv 2) bp))) cW) ?_;refine bD (cO (PW.pt (fQ (cj cS (bO (cJ K rfl) (pv 2) bp) bI (cm _)) (fQ (cj cS (pv 1) bI (cm _)) (iB (cj (vN hu) (bO (cJ K rfl) (pv 2) bp) (dh (bg bI bq)) (cm _)))))) (bK (cE (bO (cJ K rfl) (pv 2) bp))) cW) ?_;refine bD (cO (cj zY (bO (cJ K rfl) (pv 2) bp) bI (cm _)) (bK (cE gW)) cW) ?_;refine bD (cx (i:=5) IP.nd rfl (.inl rfl) (cZ GJ hr rfl mJ kJ bJ .nil cX (bg (pv 1) (bg (bO (cJ K rfl) (pv 2) bp) (bg (bO (cJ K rfl) (pv 2) bp) bq))))) ?_;refine bD (cO (cj zZ (pv 5) gW (cm _)) (bK (cx (i:=5) IP.nd rfl (.inl rfl) (cZ GN r1 rfl mN kN bN .nil cX (bg (pv 0) (bg (pv 1) (bg (bO (cJ K rfl) (pv 2) bp) (bg (bO (cJ K rfl) (pv 2) bp) bq))))))) cW) ?_;exact bK (cE (pv 5))
theorem abT{d Y:Dw}(ok:d.ok p)(w:d.bb.length<=200)(h:e8 p x d=some Y):Mv p x (.back d) Y:=by
 cases d with
 |box y l r=>
  simp[e8,iu,ia,iL,iM,iN]at h;obtain⟨⟨rfl,hy⟩,rfl⟩:=h;rcases hy with rfl|rfl|rfl
  ·exact abA
  ·exact abB
  ·exact abC
 |times n=>
  simp[e8,iu,ia,iL,iM,iN]at h;obtain⟨⟨rfl,hn⟩,rfl⟩:=h;exact abz ok.1 ok.2 hn
 |back e=>
  simp[e8,iu,ia,iL,iM,iN]at h;obtain⟨rfl,rfl⟩:=h;have w:e.bb.length+1<=200:=w;exact abj ok (by lia)
 |bt a b=>
  simp[e8,iu,ia,iL,iM,iN]at h;obtain⟨rfl,rfl⟩:=h;have w:(a.bb++b.bb).length+1<=200:=w;rw[cL]at w;exact abl ok.1 (by lia) ok.2 (by lia)
 |bj a b=>
  simp[e8,iu,ia,iL,iM,iN]at h;obtain⟨rfl,rfl⟩:=h;have w:(a.bb++b.bb).length+1<=200:=w;rw[cL]at w;exact abk ok.1 (by lia) ok.2 (by lia)
section
variable{p:Int}{x:Str}{a b Y:Dw}
theorem abU(oa:a.ok p)(ob:b.ok p)(wa:a.bb.length<=200)(wb:b.bb.length<=200)(h:tZ x b a=some Y):Mv p x (.bj a b) Y:=by
 cases a with
 |bj c d=>
  simp[tZ]at h;obtain⟨rfl,rfl⟩:=h;have w:(c.bb++d.bb).length+1<=200:=wa;rw[cL]at w;exact abm oa.1 (by lia) oa.2 (by lia) ob wb
 |box y l r=>cases h
 |times n=>cases h
 |back e=>cases h
 |bt c d=>cases h
theorem QA(h:a.tY=true):∃l r,a=.box (Str.ofString "id") l r:=by
 cases a with
 |box y l r=>exact⟨l,r,by rw[aM (show decide (y=Str.ofString "id")=true from h)]⟩
 |times n=>cases h
 |back e=>cases h
 |bt c d=>cases h
 |bj c d=>cases h
theorem abV(ob:b.ok p)(wb:b.bb.length<=200)(h:lS x a b=some Y):Mv p x (.bj a b) Y:=by
 unfold lS at h;split at h
 ·rename_i c
  cases h;obtain⟨rfl,hi⟩:=c;obtain⟨l,r,rfl⟩:=QA hi;exact abp ob wb
 ·cases h
theorem abW(h:¬a.tY=true)(oa:a.ok p):j8 (It2.bu a).head≠Str.ofString "id":=by
 cases a with
 |box y l r=>exact λe=>h (aG e)
 |times n=>show Str.ofString "times" ≠ _;decide
 |back e=>show Str.ofString "back" ≠ _;decide
 |bt c d=>show Str.ofString "beside" ≠ _;decide
 |bj c d=>show Str.ofString "then" ≠ _;decide
theorem abX(oa:a.ok p)(wa:a.bb.length<=200)(h0:lS x a b=none)(h:lS x b a=some Y):Mv p x (.bj a b) Y:=by
 unfold lS at h;split at h
 ·rename_i c
  cases h;obtain⟨rfl,hi⟩:=c;obtain⟨l,r,rfl⟩:=QA hi;refine abq oa wa (abW (λz=>?_) oa);unfold lS at h0;rw[ae ⟨rfl,z⟩]at h0;cases h0
 ·cases h
theorem abY(oa:a.ok p)(ob:b.ok p)(wa:a.bb.length<=200)(wb:b.bb.length<=200)(h:qh x a b=some Y):Mv p x (.bj a b) Y:=by
 unfold qh at h;split at h
 ·rename_i c d e f
  split at h
  ·rename_i z
   cases h;obtain⟨rfl,hm⟩:=z;have w1:(c.bb++d.bb).length+1<=200:=wa;have w2:(e.bb++f.bb).length+1<=200:=wb;rw[cL]at w1 w2;exact abo oa.1 (by lia) oa.2 (by lia) ob.1 (by lia) ob.2 (by lia) hm
  ·cases h
 ·cases h
end
section
variable{p:Int}{x:Str}{a b Y:Dw}
theorem B9(ok:a.ok p)(e:a.hd=Str.ofString "times"):∃n,a=.times n/\0<=n/\n<p:=by
 cases a with
 |times n=>exact⟨n,rfl,ok⟩
 |box y l r=>exact absurd e (ou _ ok).1
 |back d=>exact absurd (show Str.ofString "back"=Str.ofString "times" from e) (by decide)
 |bt c d=>exact absurd (show Str.ofString "beside"=Str.ofString "times" from e) (by decide)
 |bj c d=>exact absurd (show Str.ofString "then"=Str.ofString "times" from e) (by decide)
theorem QB{W:Str}(h1:W≠Str.ofString "times")(h2:W≠Str.ofString "back")(h3:W≠Str.ofString "beside")(h4:W≠Str.ofString "then")(e:a.hd=W):∃l r,a=.box W l r:=by
 cases a with
 |box y l r=>exact⟨l,r,by rw[show y=W from e]⟩
 |times n=>exact absurd e.symm h1
 |back d=>exact absurd e.symm h2
 |bt c d=>exact absurd e.symm h3
 |bj c d=>exact absurd e.symm h4
theorem abZ(oa:a.ok p)(ob:b.ok p)(h:jT p x a b=some Y):Mv p x (.bj a b) Y:=by
 unfold jT at h;rcases iH.mp h with h|⟨_,h⟩
 ·unfold vU at h;split at h
  ·rename_i c
   cases h;obtain⟨rfl,e1,e2⟩:=c;obtain⟨n,rfl,n0,n1⟩:=B9 oa e1;obtain⟨m,rfl,m0,m1⟩:=B9 ob e2;exact abu n0 n1 m0 m1
  ·cases h
 rcases iH.mp h with h|⟨_,h⟩
 ·unfold vV at h;split at h
  ·rename_i c
   cases h;obtain⟨rfl,e1,e2⟩:=c;obtain⟨n,rfl,n0,n1⟩:=B9 oa e1;obtain⟨l,r,rfl⟩:=QB (by decide) (by decide) (by decide) (by decide) e2;exact abx n0 n1
  ·cases h
 ·unfold vW at h;split at h
  ·rename_i c
   cases h;obtain⟨rfl,e1,e2⟩:=c;obtain⟨n,rfl,n0,n1⟩:=B9 ob e2;obtain⟨l,r,rfl⟩:=QB (by decide) (by decide) (by decide) (by decide) e1;exact aby n0 n1
  ·cases h
theorem ab0(oa:a.ok p)(ob:b.ok p)(wa:a.bb.length<=200)(wb:b.bb.length<=200)(h:jm x a b=some Y):Mv p x (.bj a b) Y:=by
 unfold jm at h;rcases iH.mp h with h|⟨_,h⟩
 ·exact abU oa ob wa wb h
 rcases iH.mp h with h|⟨h0,h⟩
 ·exact abV ob wb h
 rcases iH.mp h with h|⟨_,h⟩
 ·exact abX oa wa h0 h
 ·exact abY oa ob wa wb h
end
section
variable{p:Int}{x:Str}{a b d Y:Dw}
theorem QC{W:String}(h:a.qj W=true):∃l r,a=.box (Str.ofString W) l r:=by
 cases a with
 |box y l r=>exact⟨l,r,by rw[aM (show decide (y=Str.ofString W)=true from h)]⟩
 |times n=>cases h
 |back e=>cases h
 |bt c d=>cases h
 |bj c d=>cases h
theorem ab1(h:¬a.qj "empty"=true):j8 (It2.bu a).head≠Str.ofString "empty":=by
 cases a with
 |box y l r=>exact λe=>h (aG e)
 |times n=>show Str.ofString "times" ≠ _;decide
 |back e=>show Str.ofString "back" ≠ _;decide
 |bt c d=>show Str.ofString "beside" ≠ _;decide
 |bj c d=>show Str.ofString "then" ≠ _;decide
theorem ab2(oa:a.ok p)(ob:b.ok p)(wa:a.bb.length<=200)(wb:b.bb.length<=200)(h:(nF x b a).or ((i0 x a b).or (i0 x b a))=some Y):Mv p x (.bt a b) Y:=by
 rcases iH.mp h with h|⟨_,h⟩
 ·cases a with
  |bt c d=>
   simp[nF]at h;obtain⟨rfl,rfl⟩:=h;have w:(c.bb++d.bb).length+1<=200:=wa;rw[cL]at w;exact abn oa.1 (by lia) oa.2 (by lia) ob wb
  |box y l r=>cases h
  |times n=>cases h
  |back e=>cases h
  |bj c d=>cases h
 rcases iH.mp h with h|⟨h0,h⟩
 ·unfold i0 at h;split at h
  ·rename_i c
   cases h;obtain⟨rfl,e⟩:=c;obtain⟨l,r,rfl⟩:=QC e;exact abr ob wb
  ·cases h
 ·unfold i0 at h;split at h
  ·rename_i c
   cases h;obtain⟨rfl,e⟩:=c;obtain⟨l,r,rfl⟩:=QC e;refine abt oa wa (ab1 λz=>?_);unfold i0 at h0;rw[ae ⟨rfl,z⟩]at h0;cases h0
  ·cases h
theorem ab3(ok:d.ok p)(w:d.bb.length<=200)(h:dQ p x d=some Y):Mv p x d Y:=by
 cases d with
 |box y l r=>cases h
 |times n=>
  have h:(if x=Str.ofString "one"/\n=1 then some ua else if x=Str.ofString "nought"/\n=0 then some rB else none)=some Y:=h
  split at h
  ·rename_i c
   cases h;obtain⟨rfl,rfl⟩:=c;exact abv
  ·split at h
   ·rename_i c
    cases h;obtain⟨rfl,rfl⟩:=c;exact abw
   ·cases h
 |back e=>
  have w:e.bb.length+1<=200:=w;exact abT ok (by lia) h
 |bt a b=>
  have w:(a.bb++b.bb).length+1<=200:=w;rw[cL]at w;exact ab2 ok.1 ok.2 (by lia) (by lia) h
 |bj a b=>
  have w:(a.bb++b.bb).length+1<=200:=w;rw[cL]at w;have h:(jm x a b).or (jT p x a b)=some Y:=h;rcases iH.mp h with h|⟨_,h⟩
  ·exact ab0 ok.1 ok.2 (by lia) (by lia) h
  ·exact abZ ok.1 ok.2 h
end
noncomputable def fu:D1.Dr->Pt
 | .id=>.box (Str.ofString "id")
 | .swap=>.box (Str.ofString "swap")
 | .copy=>.box (Str.ofString "copy")
 | .fin=>.box (Str.ofString "end")
 | .add=>.box (Str.ofString "add")
 | .none=>.box (Str.ofString "none")
 | .gZ=>.box (Str.ofString "cup")
 | .empty=>.box (Str.ofString "empty")
 | .times n=>.tn (Str.ofString (toString n)) n
 | .back a=>.back (fu a)
 | .bt a b=>.fZ (fu a) (fu b)
 | .bj a b=>.bj (fu a) (fu b)
theorem ql:∀(X:D1.Dr)(e:List (Str×List V)),(fu X).mt (cw X) e=some e
 | .id,_ | .swap,_ | .copy,_ | .fin,_ | .add,_ | .none,_ | .gZ,_ | .empty,_ | .times _,_=>ae rfl
 | .back a,e=>ql a e
 | .bt a b,e=>by
  show((fu a).mt (cw a) e).bind ((fu b).mt (cw b))=_;rw[ql a];exact ql b e
 | .bj a b,e=>by
  show((fu a).mt (cw a) e).bind ((fu b).mt (cw b))=_;rw[ql a];exact ql b e
theorem pE:∀{d:D1.Dr}(e:List (Str×List V)),d≠X->(fu X).mt (cw d) e=none:=by
 induction X with
 |times n=>
  intro d e h;cases d with
  |times m=>exact af λz=>h (by rw[z])
  |_=>rfl
 |back a ih=>
  intro d e h;cases d with
  |back c=>exact ih e λz=>h (by rw[z])
  |_=>rfl
 |bt a b gL iF=>
  intro d e h;cases d with
  |bt c d=>
   show((fu a).mt (cw c) e).bind ((fu b).mt (cw d))=none;by_cases z:c=a
   ·rw[z,ql a];exact iF e λy=>h (by rw[z,y])
   ·rw[gL e z];rfl
  |_=>rfl
 |bj a b gL iF=>
  intro d e h;cases d with
  |bj c d=>
   show((fu a).mt (cw c) e).bind ((fu b).mt (cw d))=none;by_cases z:c=a
   ·rw[z,ql a];exact iF e λy=>h (by rw[z,y])
   ·rw[gL e z];rfl
  |_=>rfl
 |_=>
  intro d e h;cases d;all_goals first|exact absurd rfl h|rfl|exact af (by decide +kernel)
noncomputable def Ca(a:Str)(P:Pt):Bool:=decide (Txt.split a (Str.ofString " ")=P.text)&&(P.jn&&decide P.lets.Nodup)
def NF(p:Int)(x:Str)(d:D1.Dr):Prop:=∀r,∃cM,iX x=some cM/\kH p x (.bu (cw d)::r) cM none
section
variable{p:Int}{d:D1.Dr}
theorem miss{x a b:Str}{P:Pt}{cM:List (Str×Str)}{r:List It2}{res:Option (List (Str×List V)×Str)}(cf:p<=97)(hd:d.wf p)(hc:Ca a P=true)(hm:P.mt (cw d) []=none)(g:kH p x (.bu (cw d)::r) cM res):kH p x (.bu (cw d)::r) ((a,b)::cM) res:=by
 simp only[Ca,dq,aI]at hc;refine .miss ?_ g
 have:=Qj cf hc.2.1 (ft hd) [] r [] hc.2.2
 rw[gU]at this;rw[hc.1,this,hm]
theorem IQ{a b:Str}(hR:iX x=some [(a,b)])(hc:Ca a (fu X)=true)(cf:p<=97)(hd:d.wf p)(h:d≠X):NF p x d:=λ_=>⟨_,hR,miss cf hd hc (pE [] h) .nil⟩
theorem ab4(cf:p<=97)(hd:d.wf p)(h:∀a,d≠.back (.back a)):NF p (Str.ofString "twice") d:=λ_=>⟨_,(by rfl),miss (P:=.back (.back (.any (Str.ofString "A")))) cf hd (by decide +kernel) (by
 cases d with
 |back a=>
  cases a with
  |back c=>exact absurd rfl (h c)
  |_=>rfl
 |_=>rfl) .nil⟩
theorem ab5(cf:p<=97)(hd:d.wf p)(h:∀a b,d≠.back (.bj a b)):NF p (Str.ofString "turnthen") d:=λ_=>⟨_,(by rfl),miss (P:=.back (.bj (.any (Str.ofString "A")) (.any (Str.ofString "B")))) cf hd (by decide +kernel) (by
 cases d with
 |back a=>
  cases a with
  |bj b c=>exact absurd rfl (h b c)
  |_=>rfl
 |_=>rfl) .nil⟩
theorem ab6(cf:p<=97)(hd:d.wf p)(h:∀a b,d≠.back (.bt a b)):NF p (Str.ofString "turnbeside") d:=λ_=>⟨_,(by rfl),miss (P:=.back (.fZ (.any (Str.ofString "A")) (.any (Str.ofString "B")))) cf hd (by decide +kernel) (by
 cases d with
 |back a=>
  cases a with
  |bt b c=>exact absurd rfl (h b c)
  |_=>rfl
 |_=>rfl) .nil⟩
theorem ab7(cf:p<=97)(hd:d.wf p)(h:∀a b c,d≠.bj (.bj a b) c):NF p (Str.ofString "thread") d:=λ_=>⟨_,(by rfl),miss (P:=.bj (.bj (.any (Str.ofString "A")) (.any (Str.ofString "B"))) (.any (Str.ofString "C"))) cf hd (by decide +kernel) (by
 cases d with
 |bj a z=>
  cases a with
  |bj b c=>exact absurd rfl (h b c z)
  |_=>rfl
 |_=>rfl) .nil⟩
theorem ab8(cf:p<=97)(hd:d.wf p)(h:∀a b c,d≠.bt (.bt a b) c):NF p (Str.ofString "stack") d:=λ_=>⟨_,(by rfl),miss (P:=.fZ (.fZ (.any (Str.ofString "A")) (.any (Str.ofString "B"))) (.any (Str.ofString "C"))) cf hd (by decide +kernel) (by
 cases d with
 |bt a z=>
  cases a with
  |bt b c=>exact absurd rfl (h b c z)
  |_=>rfl
 |_=>rfl) .nil⟩
theorem ab9(cf:p<=97)(hd:d.wf p)(h:∀n m,d≠.bj (.times n) (.times m)):NF p (Str.ofString "scale") d:=λ_=>⟨_,(by rfl),miss (P:=.bj (.tk (Str.ofString "k")) (.tk (Str.ofString "l"))) cf hd (by decide +kernel) (by
 cases d with
 |bj a b=>
  cases a with
  |times n=>
   cases b with
   |times m=>exact absurd rfl (h n m)
   |_=>rfl
  |_=>rfl
 |_=>rfl) .nil⟩
theorem aca(cf:p<=97)(hd:d.wf p)(h:d≠.times 1):NF p (Str.ofString "one") d:=IQ (by rfl) (by decide +kernel) cf hd h
theorem acb(cf:p<=97)(hd:d.wf p)(h:d≠.times 0):NF p (Str.ofString "nought") d:=IQ (by rfl) (by decide +kernel) cf hd h
theorem acd(cf:p<=97)(hd:d.wf p)(h:∀n,d≠.bj (.times n) .copy):NF p (Str.ofString "scalecopy") d:=λ_=>⟨_,(by rfl),miss (P:=.bj (.tk (Str.ofString "k")) (.box (Str.ofString "copy"))) cf hd (by decide +kernel) (by
 cases d with
 |bj a b=>
  cases a with
  |times n=>exact pE (X:=.copy) _ λz=>h n (by rw[z])
  |_=>rfl
 |_=>rfl) .nil⟩
theorem ace(cf:p<=97)(hd:d.wf p)(h:∀n,d≠.bj .add (.times n)):NF p (Str.ofString "scaleadd") d:=λ_=>⟨_,(by rfl),miss (P:=.bj (.box (Str.ofString "add")) (.tk (Str.ofString "k"))) cf hd (by decide +kernel) (by
 cases d with
 |bj a b=>
  show((fu .add).mt (cw a) []).bind _=none;by_cases z:a=.add
  ·rw[z,ql];cases b with
   |times n=>exact absurd (by rw[z]) (h n)
   |_=>rfl
  ·rw[pE [] z];rfl
 |_=>rfl) .nil⟩
theorem acf(cf:p<=97)(hd:d.wf p)(h1:∀a,d≠.bj .id a)(h2:∀a,d≠.bj a .id):NF p (Str.ofString "lone") d:=λ_=>⟨_,(by rfl),
 miss (P:=.bj (.box (Str.ofString "id")) (.any (Str.ofString "A"))) cf hd (by decide +kernel) (by
 cases d with
 |bj a b=>
  show((fu .id).mt (cw a) []).bind _=none;rw[pE [] λz=>h1 b (by rw[z])];rfl
 |_=>rfl) (miss (P:=.bj (.any (Str.ofString "A")) (.box (Str.ofString "id"))) cf hd (by decide +kernel) (by
 cases d with
 |bj a b=>exact pE (X:=.id) _ λz=>h2 a (by rw[z])
 |_=>rfl) .nil)⟩
theorem acg(cf:p<=97)(hd:d.wf p)(h1:∀a,d≠.bt .empty a)(h2:∀a,d≠.bt a .empty):NF p (Str.ofString "bare") d:=λ_=>⟨_,(by rfl),
 miss (P:=.fZ (.box (Str.ofString "empty")) (.any (Str.ofString "A"))) cf hd (by decide +kernel) (by
 cases d with
 |bt a b=>
  show((fu .empty).mt (cw a) []).bind _=none;rw[pE [] λz=>h1 b (by rw[z])];rfl
 |_=>rfl) (miss (P:=.fZ (.any (Str.ofString "A")) (.box (Str.ofString "empty"))) cf hd (by decide +kernel) (by
 cases d with
 |bt a b=>exact pE (X:=.empty) _ λz=>h2 a (by rw[z])
 |_=>rfl) .nil)⟩
theorem ach(cf:p<=97)(hd:d.wf p)(h1:d≠.back .id)(h2:d≠.back .swap)(h3:d≠.back .empty):NF p (Str.ofString "turnid") d:=λ_=>⟨_,(by rfl),
 miss (P:=fu (.back .id)) cf hd (by decide +kernel) (pE [] h1) (miss (P:=fu (.back .swap)) cf hd (by decide +kernel) (pE [] h2) (miss (P:=fu (.back .empty)) cf hd (by decide +kernel) (pE [] h3) .nil))⟩
theorem aci(cf:p<=97)(hd:d.wf p)(h:∀n,d=.back (.times n)->n=0):NF p (Str.ofString "turnscale") d:=λr=>⟨_,(by rfl),by
 by_cases e:∃n,d=.back (.times n)
 ·obtain⟨n,rfl⟩:=e;have hn:=h n rfl;subst hn;refine .Hc (env:=[(Str.ofString "k",[.int 0])]) ?_ (dz.num .nil (by decide) (by have:=hd.2;exact this)) (.scale 0 (by decide +kernel)) .nil
  have:=Qj (P:=.back (.tk (Str.ofString "k"))) cf (by decide +kernel) (ft hd) [] r [] (by decide +kernel)
  rw[gU]at this;rw[show Txt.split (Str.ofString "back times k") (Str.ofString " ")=(Pt.back (.tk (Str.ofString "k"))).text by decide +kernel,this];rfl
 ·refine miss (P:=.back (.tk (Str.ofString "k"))) cf hd (by decide +kernel) ?_ .nil;cases d with
  |back a=>
   cases a with
   |times n=>exact absurd ⟨n,rfl⟩ e
   |_=>rfl
  |_=>rfl⟩
theorem acj(cf:p<=97)(hd:d.wf p)(hl:d.bb.length<=200)(h:∀a b c f,d=.bj (.bt a b) (.bt c f)->a.r≠c.l):NF p (Str.ofString "cross") d:=λr=>⟨_,(by rfl),by
 by_cases e:∃a b c f,d=.bj (.bt a b) (.bt c f)
 ·obtain⟨a,b,c,f,rfl⟩:=e;have dX:=h a b c f rfl;obtain⟨⟨wa,wb⟩,⟨wc,wf⟩,_⟩:=hd;have el:(cw a).bb.length<=200/\(cw b).bb.length<=200/\(cw c).bb.length<=200/\(cw f).bb.length<=200:=by
   rw[mI,mI,mI,mI];have tL:(D1.Dr.bj (.bt a b) (.bt c f)).bb.length=(a.bb.length+b.bb.length+1)+(c.bb.length+f.bb.length+1)+1:=by simp[D1.Dr.bb];lia
   rw[tL]at hl;lia
  have al:=mw.G7 (p:=p) (env:=[(Str.ofString "A",(cw a).bb),(Str.ofString "B",(cw b).bb),(Str.ofString "C",(cw c).bb),(Str.ofString "D",(cw f).bb)]) (cw a) (cw c) (by rfl) (by rfl) (ft wa) (ft wc);rw[aa (show ¬(cw a).lN=(cw c).lM by show ¬(cw a).cq.2=(cw c).cq.1;rw[oE,oE];exact dX)]at al;refine .Hc ?_ (.bu (.bu (.bu (.bu .nil (ft wf) el.2.2.2) (ft wc) el.2.2.1) (ft wb) el.2.1) (ft wa) el.1) al .nil;exact aa6
 ·refine miss (P:=.bj (.fZ (.any (Str.ofString "A")) (.any (Str.ofString "B"))) (.fZ (.any (Str.ofString "C")) (.any (Str.ofString "D")))) cf hd (by decide +kernel) ?_ .nil;cases d with
  |bj a b=>
   cases a with
   |bt a1 a2=>
    cases b with
    |bt b1 b2=>exact absurd ⟨_,_,_,_,rfl⟩ e
    |_=>rfl
   |_=>rfl
  |_=>rfl⟩
end
section
variable{p:Int}{d:D1.Dr}
theorem ack(cf:p<=97)(hd:d.wf p)(h:dQ p (Str.ofString "twice") (cw d)=none):NF p (Str.ofString "twice") d:=
 ab4 cf hd λa e=>by subst e;simp[cw,dQ,e8,iu,ia,iL,iM,iN]at h
theorem acm(cf:p<=97)(hd:d.wf p)(h:dQ p (Str.ofString "turnthen") (cw d)=none):NF p (Str.ofString "turnthen") d:=
 ab5 cf hd λa b e=>by subst e;simp[cw,dQ,e8,iu,ia,iL,iM,iN]at h
theorem acn(cf:p<=97)(hd:d.wf p)(h:dQ p (Str.ofString "turnbeside") (cw d)=none):NF p (Str.ofString "turnbeside") d:=
 ab6 cf hd λa b e=>by subst e;simp[cw,dQ,e8,iu,ia,iL,iM,iN]at h
theorem aco(cf:p<=97)(hd:d.wf p)(h:dQ p (Str.ofString "thread") (cw d)=none):NF p (Str.ofString "thread") d:=
 ab7 cf hd λa b c e=>by subst e;simp[cw,dQ,jm,tZ]at h
theorem acp(cf:p<=97)(hd:d.wf p)(h:dQ p (Str.ofString "stack") (cw d)=none):NF p (Str.ofString "stack") d:=
 ab8 cf hd λa b c e=>by subst e;simp[cw,dQ,nF]at h
theorem acq(cf:p<=97)(hd:d.wf p)(h:dQ p (Str.ofString "one") (cw d)=none):NF p (Str.ofString "one") d:=
 aca cf hd λe=>by subst e;simp[cw,dQ]at h
theorem acr(cf:p<=97)(hd:d.wf p)(h:dQ p (Str.ofString "nought") (cw d)=none):NF p (Str.ofString "nought") d:=
 acb cf hd λe=>by subst e;simp[cw,dQ]at h
theorem acs(cf:p<=97)(hd:d.wf p)(h:dQ p (Str.ofString "scale") (cw d)=none):NF p (Str.ofString "scale") d:=
 ab9 cf hd λn m e=>by subst e;simp[cw,dQ,jT,vU,Dw.hd]at h
theorem acu(cf:p<=97)(hd:d.wf p)(h:dQ p (Str.ofString "scalecopy") (cw d)=none):NF p (Str.ofString "scalecopy") d:=
 acd cf hd λn e=>by subst e;simp[cw,dQ,jT,vV,Dw.hd]at h
theorem acv(cf:p<=97)(hd:d.wf p)(h:dQ p (Str.ofString "scaleadd") (cw d)=none):NF p (Str.ofString "scaleadd") d:=
 ace cf hd λn e=>by subst e;simp[cw,dQ,jT,vW,Dw.hd]at h
theorem acw(cf:p<=97)(hd:d.wf p)(h:dQ p (Str.ofString "lone") (cw d)=none):NF p (Str.ofString "lone") d:=
 acf cf hd (λa e=>by subst e;simp[cw,dQ,jm,lS,Dw.tY]at h) λa e=>by subst e;simp[cw,dQ,jm,lS,Dw.tY]at h
theorem acx(cf:p<=97)(hd:d.wf p)(h:dQ p (Str.ofString "bare") (cw d)=none):NF p (Str.ofString "bare") d:=
 acg cf hd (λa e=>by subst e;simp[cw,dQ,i0,Dw.qj]at h) λa e=>by subst e;simp[cw,dQ,i0,Dw.qj]at h
theorem acy(cf:p<=97)(hd:d.wf p)(h:dQ p (Str.ofString "turnid") (cw d)=none):NF p (Str.ofString "turnid") d:=
 ach cf hd (λe=>by subst e;simp[cw,dQ,e8,ia]at h) (λe=>by subst e;simp[cw,dQ,e8,ia]at h) λe=>by subst e;simp[cw,dQ,e8,ia]at h
theorem acz(cf:p<=97)(hd:d.wf p)(h:dQ p (Str.ofString "turnscale") (cw d)=none):NF p (Str.ofString "turnscale") d:=
 aci cf hd λn e=>by
  subst e;by_cases z:n=0
  ·exact z
  ·simp[cw,dQ,e8,iu,z]at h
theorem acA(cf:p<=97)(hd:d.wf p)(hl:d.bb.length<=200)(h:dQ p (Str.ofString "cross") (cw d)=none):NF p (Str.ofString "cross") d:=
 acj cf hd hl λa b c f e z=>by
  subst e;have w:(cw a).lN=(cw c).lM:=by
   show(cw a).cq.2=(cw c).cq.1;rw[oE,oE];exact z
  have h:(jm (Str.ofString "cross") (.bt (cw a) (cw b)) (.bt (cw c) (cw f))).or (jT p (Str.ofString "cross") (.bt (cw a) (cw b)) (.bt (cw c) (cw f)))=none:=h;have h1:=(Option.or_eq_none_iff.mp h).1;unfold jm at h1;have h2:=(Option.or_eq_none_iff.mp (Option.or_eq_none_iff.mp (Option.or_eq_none_iff.mp h1).2).2).2;have h3:qh (Str.ofString "cross") (.bt (cw a) (cw b)) (.bt (cw c) (cw f))=some (.bt (.bj (cw a) (cw c)) (.bj (cw b) (cw f))):=ae ⟨rfl,w⟩;rw[h2]at h3;cases h3
end
noncomputable def IS:D1.Wd->Option Str
 | .w x=>some (Str.ofString x)
 | .n _=>none
theorem IT:∀{l:List Str}{ws:List D1.Wd},l.map some=ws.map IS->l.map V.str=ws.map dO
 | [],[],_=>rfl
 | [],_::_,h=>nomatch h
 |_::_,[],h=>nomatch h
 |a::l,.w x::ws,h=>by
  have h1:some a=some (Str.ofString x):=(iP h).1;rw[ee,ee,IT (iP h).2,eF h1];rfl
 |a::l,.n _::ws,h=>by
  have h1:some a=none:=(iP h).1;cases h1
noncomputable def IU(y:Str)(X Y:D1.Dr):Bool:=decide (y.length<=100)&&match Txt.split y (Str.ofString " = ") with
 | [a,b]=>decide (a.length<=100)&&decide (b.length<=100)&&decide ((Txt.split a (Str.ofString " ")).map some=X.bb.map IS)&&decide ((Txt.split b (Str.ofString " ")).map some=Y.bb.map IS)
 |_=>false
structure IV(y:Str)(X Y:D1.Dr):Prop where
 ly:y.length<=100
 sp:∃a b,Txt.split y (Str.ofString " = ")=[a,b]/\(a.length<=100/\b.length<=100)/\(Txt.split a (Str.ofString " ")).map V.str=X.bb.map dO/\(Txt.split b (Str.ofString " ")).map V.str=Y.bb.map dO
theorem acB{y:Str}(h:IU y X Y=true):IV y X Y:=by
 unfold IU at h;rw[dq,aI]at h;obtain⟨h0,h⟩:=h;split at h
 ·rename_i a b e
  simp only[dq,aI]at h;exact⟨h0,a,b,e,⟨h.1.1.1,h.1.1.2⟩,IT h.1.2,IT h.2⟩
 ·cases h
noncomputable abbrev mK(x y:String)(X Y:D1.Dr):Str×Str×D1.Dr×D1.Dr:=(Str.ofString x,Str.ofString y,X,Y)
noncomputable def ic:List (Str×Str×D1.Dr×D1.Dr):=[mK "undo" "then swap swap = beside id id" (.bj .swap .swap) (.bt .id .id),mK "copyend" "then copy beside end id = id" (.bj .copy (.bt .fin .id)) .id,
 mK "copyturn" "then copy swap = copy" (.bj .copy .swap) .copy,mK "copycopy" "then copy beside copy id = then copy beside id copy" (.bj .copy (.bt .copy .id)) (.bj .copy (.bt .id .copy)),
 mK "addnone" "then beside none id add = id" (.bj (.bt .none .id) .add) .id,mK "addturn" "then swap add = add" (.bj .swap .add) .add,mK "addadd" "then beside add id add = then beside id add add" (.bj (.bt .add .id) .add) (.bj (.bt .id .add) .add),
 mK "sumcopy" "then add copy = then beside copy copy then beside id beside swap id beside add add" (.bj .add .copy) (.bj (.bt .copy .copy) (.bj (.bt .id (.bt .swap .id)) (.bt .add .add))),mK "sumend" "then add end = beside end end" (.bj .add .fin) (.bt .fin .fin),
 mK "nonecopy" "then none copy = beside none none" (.bj .none .copy) (.bt .none .none),mK "noneend" "then none end = empty" (.bj .none .fin) .empty,
 mK "bend" "then beside cup id beside id back cup = id" (.bj (.bt .gZ .id) (.bt .id (.back .gZ))) .id,mK "meet" "then copy back copy = id" (.bj .copy (.back .copy)) .id]
noncomputable def jB:List (Key×V):=ic.map λq=>(.inr q.1,.str q.2.1)
noncomputable def gM(x:Str):Option (Dw×Dw):=(ic.find? λq=>decide (q.1=x)).map λq=>(cw q.2.2.1,cw q.2.2.2)
noncomputable def oF:D1.Dr->Bool
 | .times _=>false
 | .back d=>oF d
 | .bt a b=>oF a&&oF b
 | .bj a b=>oF a&&oF b
 |_=>true
theorem rC{p:Int}:∀{d:D1.Dr},oF d=true->(cw d).ok p
 | .times _,h=>nomatch h
 | .back d,h=>rC (d:=d) h
 | .bt _ _,h=>have h:=zG.mp h;⟨rC h.1,rC h.2⟩
 | .bj _ _,h=>have h:=zG.mp h;⟨rC h.1,rC h.2⟩
 | .id,_=>ft (d:=.id) True.intro
 | .swap,_=>ft (d:=.swap) True.intro
 | .copy,_=>ft (d:=.copy) True.intro
 | .fin,_=>ft (d:=.fin) True.intro
 | .add,_=>ft (d:=.add) True.intro
 | .none,_=>ft (d:=.none) True.intro
 | .gZ,_=>ft (d:=.gZ) True.intro
 | .empty,_=>ft (d:=.empty) True.intro
noncomputable def QD(q:Str×Str×D1.Dr×D1.Dr):Bool:=IU q.2.1 q.2.2.1 q.2.2.2&&decide (q.2.2.1.bb.length<=60)&&decide (q.2.2.2.bb.length<=60)&&oF q.2.2.1&&oF q.2.2.2&&decide ((ic.find? λr=>decide (r.1=q.1)).map (·.2.1)=some q.2.1)
theorem acC:ic.all QD=true:=by decide +kernel
theorem Cb(h:q∈ic):IV q.2.1 q.2.2.1 q.2.2.2/\q.2.2.1.bb.length<=60/\q.2.2.2.bb.length<=60/\oF q.2.2.1=true/\oF q.2.2.2=true/\(ic.find? λr=>decide (r.1=q.1)).map (·.2.1)=some q.2.1:=by
 have z:=fh.mp acC q h;unfold QD at z;simp only[dq,aI]at z;exact⟨acB z.1.1.1.1.1,z.1.1.1.1.2,z.1.1.1.2,z.1.1.2,z.1.2,z.2⟩
theorem QE(e:q.1=x):(q::L).find? (λq=>decide (q.1=x))=some q:=List.find?_cons_of_pos (p:=λq:Str×Str×D1.Dr×D1.Dr=>decide (q.1=x)) (aG e)
theorem lU(e:¬q.1=x):(q::L).find? (λq=>decide (q.1=x))=L.find? (λq=>decide (q.1=x)):=List.find?_cons_of_neg (p:=λq:Str×Str×D1.Dr×D1.Dr=>decide (q.1=x)) (by rw[aa e];decide)
theorem QF:∀(L:List (Str×Str×D1.Dr×D1.Dr))(x:Str),c7 (κ:=Key) (L.map λq=>(.inr q.1,.str q.2.1)) (.inr x)=(L.find? λq=>decide (q.1=x)).map λq=>V.str q.2.1
 | [],x=>rfl
 |q::L,x=>by
  by_cases e:q.1=x
  ·rw[ee,lD (ai Sum.inr e),QE e];rfl
  ·rw[ee,lE (λz=>e (Sum.inr.inj z)),lU e];exact QF L x
def pF(H:Hp)(v:V)(X Y:D1.Dr):Prop:=∃pr l r,v=.ref pr/\H pr=some (.lst [.ref l,.ref r])/\H l=some (.lst (cw X).bb)/\H r=some (.lst (cw Y).bb)
theorem pF.mono{H':Hp}(h:pF H v X Y)(s:bh H H'):pF H' v X Y:=let ⟨pr,l,r,e,a,b,c⟩:=h;⟨pr,l,r,e,s _ _ a,s _ _ b,s _ _ c⟩
def jo(H:Hp)(bf:List (Key×V))(L:List (Str×Str×D1.Dr×D1.Dr)):Prop:=Paired (λkv q=>kv.1=Sum.inr q.1/\pF H kv.2 q.2.2.1 q.2.2.2) bf L
theorem jo.snoc(h:jo H bf L)(g:pF H v q.2.2.1 q.2.2.2):jo H (bf++[(.inr q.1,v)]) (L++[q]):=by
 unfold jo at h |-;induction h with
 |nil=>exact .cons ⟨rfl,g⟩ .nil
 |cons a _ i=>exact .cons a i
theorem jo.mono{H H':Hp}{bf:List (Key×V)}{L:List (Str×Str×D1.Dr×D1.Dr)}(h:jo H bf L)(s:bh H H'):jo H' bf L:=Paired.uz h λ_ _ z=>⟨z.1,z.2.mono s⟩
theorem jo.keys(h:jo H bf L):bf.map (·.1)=(L.map (·.1)).map Sum.inr:=by
 unfold jo at h;induction h with
 |nil=>rfl
 |cons a _ i=>rw[ee,ee,ee,i,a.1]
theorem jo.get(h:jo H bf L)(x:Str):match L.find? (λq=>decide (q.1=x))with|none=>c7 (κ:=Key) bf (.inr x)=none|some q=>∃v,c7 (κ:=Key) bf (.inr x)=some v/\pF H v q.2.2.1 q.2.2.2:=by
 unfold jo at h;induction h with
 |nil=>rfl
 | @cons kv q bf L a _ i=>
  by_cases e:q.1=x
  ·rw[QE e];exact⟨kv.2,lD (a.1.trans (ai Sum.inr e)),a.2⟩
  ·rw[lU e,lE (p:=kv) (λz=>e (Sum.inr.inj (a.1.symm.trans z)))];exact i
theorem QG:∀(more bf:List (Key×V)),((bf++more).map (·.1)).Nodup->nU bf more=bf++more
 | [],bf,_=>by rw[gU];rfl
 |p::more,bf,h=>by
  have hv:c7 bf p.1=none:=by
   unfold c7;rw[Option.map_eq_none_iff,List.find?_eq_none];intro q hq z;rw[aI]at z;rw[ig,ee,rS]at h;exact h.2.2 q.1 (List.mem_map_of_mem hq) p.1 c6 z
  show nU (fq bf p.1 p.2) more=_;rw[AF _ hv,QG more (bf++[(p.1,p.2)]) (by rw[fg];exact h),fg];rfl
theorem acD:((ic.map (·.1)).map (Sum.inr:Str->Key)).Nodup:=by decide +kernel
theorem jo.clH{cl:Addr}(h:jo H bf ic)(g:H cl=some (.dK (nU [] bf))):qk H cl gM:=by
 rw[QG bf [] (by rw[List.nil_append,h.keys];exact acD),List.nil_append]at g;intro x;have z:=h.get x;have dg:=e7.k (k:=Sum.inr x) g;unfold gM;cases e:ic.find? (λq=>decide (q.1=x)) with
 |none=>
  rw[e]at z;rw[show c7 (κ:=Key) bf (.inr x)=none from z]at dg
  exact dg
 |some q=>
  rw[e]at z;obtain⟨v,ev,pr,l,r,rfl,a,b,c⟩:=z;rw[ev]at dg;exact⟨pr,l,r,dg,a,b,c⟩
theorem acE{A B:Dw}(h:gM x=some (A,B)):A.ok p/\B.ok p/\B.bb.length<=200:=by
 unfold gM at h;obtain⟨q,hq,e⟩:=lj.mp h;cases e;obtain⟨_,_,h2,h3,h4,_⟩:=Cb (ur hq);exact⟨rC h3,rC h4,by rw[kO,cB];lia⟩
def IW:V->List V->Hp->VK->Prop:=λx xs H Q=>∃z j6,x=.str z/\xs=[.str j6]/\(j6.length==0)=false/\z.length+2<=sizeLine/\(Txt.split z j6).length<=sizeLine/\∀l,H l=none->Q (.ref l) (upd H l (.lst ((Txt.split z j6).map V.str)))
def IX(K:Frag):TE:=ve (wX K (o4 K "str" IW (EI (br 1) (br 0)) (bo (tC (.str " = ")) bQ))) 1 [] (bY 0) vd (o4 K "str" IW (br 0) (bo (tC (.str " ")) bQ))
def wg:List (String×String)->TS->TS
 | [],u=>u
 |q::L,u=>cu (Mp (br 0) (tC (.str (Str.ofString q.1))) (tC (.str (Str.ofString q.2)))) (wg L u)
noncomputable abbrev putL(L:List (String×String))(bf:List (Key×V)):List (Key×V):=L.foldl (λbf q=>fq bf (.inr (Str.ofString q.1)) (.str (Str.ofString q.2))) bf
theorem QH{D:Ends}{u:TS}{H0:Hp}{a:Addr}:∀(L:List (String×String))(bf:List (Key×V)),bf.length+L.length<=100->u D [some (.ref a)] (upd H0 a (.dK (putL L bf)))->wg L u D [some (.ref a)] (upd H0 a (.dK bf))
 | [],_,_,h=>h
 |q::L,bf,hl,h=>by
  have tL:bf.length+(L.length+1)<=100:=hl;unfold wg;refine⟨_,rfl,a,_,rfl,nS.k (k:=.inr (Str.ofString q.1)) bz (jF (by lia:bf.length<100) (by decide)),?_⟩;rw[zJ];refine QH L _ ?_ h
  have:=AE bf (Sum.inr (Str.ofString q.1):Key) (.str (Str.ofString q.2))
  lia
noncomputable def Cc:List (String×String):=[("copyturn","then copy swap = copy"),("copycopy","then copy beside copy id = then copy beside id copy"),("addnone","then beside none id add = id"),("addturn","then swap add = add"),("addadd","then beside add id add = then beside id add add"),("sumcopy","then add copy = then beside copy copy then beside id beside swap id beside add add"),("sumend","then add end = beside end end"),("nonecopy","then none copy = beside none none"),("noneend","then none end = empty"),("bend","then beside cup id beside id back cup = id"),("meet","then copy back copy = id")]
noncomputable def QI:List (Key×V):=[(.inr (Str.ofString "undo"),.str (Str.ofString "then swap swap = beside id id")),(.inr (Str.ofString "copyend"),.str (Str.ofString "then copy beside end id = id"))]
theorem acF:putL Cc (nU [] QI)=jB:=by kernel_rfl
def QJ(K:Frag):TE:=Oj (ve (N8 (br 0)) 1 [0] (bY 0) vd (eX (bo (br 0) (bo (IX K) bQ))))
theorem pF.BK{a:Addr}{o:Obj}{u u':HO}(g:H a=some (.dM o u))(h:pF H v X Y):pF (upd H a u') v X Y:=by
 obtain⟨pr,l,r,e,h1,h2,h3⟩:=h;have ne:∀{b:Addr}{xs:List V},H b=some (.lst xs)->(upd H a u') b=some (.lst xs):=λ{b xs} hb=>by rw[cH (λz=>by rw[z,g]at hb;cases hb)];exact hb
 exact⟨pr,l,r,e,ne h1,ne h2,ne h3⟩
def Cd(K:Frag):TS:=cu (cR (Mw [(tS "undo",tS "then swap swap = beside id id"),(tS "copyend",tS "then copy beside end id = id")]) (bY 0)) (wg Cc (dG (lA (Og K) (bo (QJ K) bQ))))
section
variable{K:Frag}
theorem acG{sd:Addr}{y:Str}{R:VK}(hg:e7 H sd (.str x) (some (.str y)))(hp:IV y X Y)(hX:X.bb.length<=60)(hY:Y.bb.length<=60)(q:∀v H',bh H H'->pF H' v X Y->R v H'):IX K [some (.str x),some (.ref sd)] H R:=by
 obtain⟨hy,a,b,e,⟨la,lb⟩,ea,eb⟩:=hp;have z:=kq;have hw:∀{d:D1.Dr}{x:Str},x.length<=100->(Txt.split x (Str.ofString " ")).map V.str=d.bb.map dO->d.bb.length<=60->x.length+2<=sizeLine/\(Txt.split x (Str.ofString " ")).length<=sizeLine:=λh1 h2 h3=>⟨by lia,by have:=ai List.length h2;rw[cB,cB]at this;lia⟩;refine⟨_,rfl,_,rfl,sd,_,rfl,hg,rfl,y,Str.ofString " = ",rfl,rfl,by decide +kernel,by lia,by rw[e];show 2<=sizeLine;decide,λl hl=>?_⟩;rw[e];have s1:=bh.upd (o:=.lst ([a,b].map V.str)) hl;have g1:(upd H l (.lst ([a,b].map V.str))) l=some (.lst ([a,b].map V.str)):=bz;generalize upd H l (.lst ([a,b].map V.str))=H1 at s1 g1 |-;refine⟨l,rfl,⟨_,.of g1⟩,Ex (cp:=[]) (λi H' zs=>∃ls:List Addr,zs=ls.map V.ref/\ls.length=i/\∀(j:Nat) l d,ls[j]?=some l->[X,Y][j]?=some d->H' l=some (.lst (cw d).bb)) (.of g1) (by show 2<=sizeLine;decide) ⟨[],rfl,rfl,λj l d e=>by cases e⟩ (λi H' zs ⟨ls,h1,h2,_⟩=>by rw[h1,cB,h2];exact cF _) ?_ ?_⟩
 ·rintro i v H' zs hx sm ⟨ls,rfl,hl,hs⟩;obtain⟨t,d,ev,ed,ht,et,hd⟩:∃t d,v=.str t/\[X,Y][i]?=some d/\t.length<=100/\(Txt.split t (Str.ofString " ")).map V.str=d.bb.map dO/\d.bb.length<=60:=by
   match i,hx with
   |0,hx=>cases hx;exact⟨a,X,rfl,rfl,la,ea,hX⟩
   |1,hx=>cases hx;exact⟨b,Y,rfl,rfl,lb,eb,hY⟩
  subst ev;obtain⟨w1,w2⟩:=hw ht et hd;refine EB ⟨_,rfl,rfl,t,Str.ofString " ",rfl,rfl,by decide +kernel,w1,w2,λl2 h2=>⟨⟨[_],rfl,rfl⟩,sm.trans (.upd h2),ls++[l2],by rw[ig];rfl,by rw[cL,hl];rfl,λj l' d' e1 e2=>?_⟩⟩;by_cases hj:j<ls.length
  ·rw[lg hj]at e1;exact bh.upd h2 _ _ (hs j l' d' e1 e2)
  ·have:j=ls.length:=by have:=(fO.mp e1).1;rw[cL]at this;simp at this;lia
   subst this;rw[kZ (cF _),Nat.sub_self]at e1;cases e1;rw[hl,ed]at e2;cases e2;rw[bz,et,kO]
 ·rintro H' zs sm ⟨ls,rfl,hl,hs⟩ p hp
  match ls,hl,hs with
  | [l1,l2],_,hs=>exact q _ _ (s1.trans (sm.trans (.upd hp))) ⟨p,l1,l2,rfl,bz,bh.upd hp _ _ (hs 0 l1 X rfl rfl),bh.upd hp _ _ (hs 1 l2 Y rfl rfl)⟩
theorem acH{D:Ends}(q:∀cl H',bh H H'->qk H' cl gM->D.rt (.ref cl) H'):Cd K D [none] H:=by
 unfold Cd;refine fz ?_;intro sd QK;show(upd H sd (.dK [])) sd=some (.dK [])/\_;refine⟨bz,QI,rfl,by decide,?_⟩;rw[zJ];refine QH Cc _ (by show _<=100;decide +kernel) ?_;rw[acF];have z:=kq;have g0:(upd H sd (.dK jB)) sd=some (.dK jB):=bz;refine⟨sd,jB,g0,_,rfl,sd,jB,rfl,g0,λo=>?_⟩;have gB:(upd (upd H sd (.dK jB)) sd (.dM o (.dK jB))) sd=some (.dM o (.dK jB)):=bz;have sB:bh H (upd (upd H sd (.dK jB)) sd (.dM o (.dK jB))):=by rw[zJ];exact .upd QK
 generalize upd (upd H sd (.dK jB)) sd (.dM o (.dK jB))=B at gB sB |-;have cT:jB.length=13:=by decide +kernel
 have hR:ic.length=13:=by decide +kernel
 refine Y0 (cp:=[some (.ref sd)]) (λi H' zs=>∃bf,eP K H' zs bf/\jo H' bf (ic.take i)) gB (by lia) ⟨[],.nil,.nil⟩ (λi H' zs ⟨bf,h1,h2⟩=>by rw[h1.1,Paired.length h2];exact List.length_take_le _ _) ?_ ?_
 ·rintro i kv H' zs hk sm ⟨bf,h1,h2⟩;have iT:(ic.map λq=>((.inr q.1,.str q.2.1):Key×V))[i]?=some kv:=hk;rw[fw]at iT;obtain⟨r,er,HI⟩:=lj.mp iT;subst HI;obtain⟨hp,hX,hY,_,_,hf⟩:=Cb (iO er);have dg:=BC (k:=Sum.inr r.1) (Or.inr ⟨o,sm _ _ gB⟩:Rd H' sd (.dK jB));have ev:c7 (κ:=Key) jB (.inr r.1)=some (.str r.2.1):=by
   refine(QF ic r.1).trans ?_
   have:=ai (Option.map V.str) hf
   rw[Option.map_map]at this;exact this
  rw[ev]at dg;refine EB ⟨_,rfl,acG dg hp hX hY λv H2 s2 hv=>⟨by show 2<=sizeLine;lia,λt ht=>⟨⟨[_],rfl,rfl⟩,sm.trans (s2.trans (.upd ht)),bf++[(.inr r.1,v)],?_,?_⟩⟩⟩
  ·exact(h1.mono (s2.trans (.upd ht))).snoc (kv:=(Sum.inr r.1,v)) (.of bz)
  ·rw[rP,er];exact jo.snoc (q:=r) (h2.mono (s2.trans (.upd ht))) (hv.mono (.upd ht))
 ·rintro H' zs sm ⟨bf,h1,h2⟩ l hl;rw[cT,<- hR,uo]at h2;have gS:=sm _ _ gB;have nl:l≠sd:=λe=>by rw[e,gS]at hl;cases hl
  refine⟨⟨o,by rw[cH (fe nl)];exact gS⟩,?_⟩;have QL:(upd H' l (.lst zs)) sd=some (.dM o (.dK jB)):=by rw[cH (fe nl)];exact gS
  have pz:eP K (upd (upd H' l (.lst zs)) sd (.dK jB)) zs bf:=⟨h1.1,λi x kv e1 e2=>let ⟨t,e,g⟩:=h1.2 i x kv e1 e2;⟨t,e,OC QL ((bh.upd hl).cV g)⟩⟩;have pA:jo (upd (upd H' l (.lst zs)) sd (.dK jB)) bf ic:=Paired.uz (h2.mono (.upd hl)) λ_ _ z=>⟨z.1,z.2.BK QL⟩;refine⟨l,zs,bf,rfl,by rw[cH nl];exact bz,pz,λp hp=>q p _ ((((sB.trans sm).trans (.upd hl)).put QK).trans (.upd hp)) (jo.clH (pA.mono (.upd hp)) bz)⟩
end
noncomputable abbrev nCl:List Str:=["said"]
theorem QM:dD ["said"] [] (cN AO):=dU rfl rfl rfl (by decide +kernel) rfl
theorem acI:(["rule","said"]:List Str).Nodup:=by decide +kernel
theorem acJ:(["side"]:List Str).Nodup:=by decide +kernel
def QN(_K:Frag):Sp:=λvs H Q _=>vs=[]/\∀cl H',bh H H'->qk H' cl gM->Q (.ref cl) H'
theorem acK{f:Addr}{fd:FuncData}(F:c9 K "_law_closed" "_law_closed" AO f fd)(hDc:mg "dict"=none):ck P w K mg base cA 1 f fd [] (QN K):=by
 refine F.ok QM (λvs H Q E h=>?_) (λcI A outer s H vs Q E hr h=>?_)
 ·obtain⟨rfl,_⟩:=h;rfl
 ·obtain⟨rfl,q⟩:=h;have eJ:=nh hr;refine⟨Cd K,?_,acH q⟩;unfold Cd Cc;refine bD ?_ ?_
  ·refine cx (i:=0) ?_ ?_ ?_ ?_ ?_ ?_
   ·exact QM.nd
   ·rfl
   ·exact Or.inr rfl
   ·exact Wf (Mt bI bI (Mt bI bI We)) rfl rfl (by simp) (by decide)
   ·rfl
   ·exact .inl rfl
  iterate 11
   unfold wg;refine bD (xI eJ (pv 0) bI bI rfl) ?_
  unfold wg;refine bK ?_;refine cE ?_;refine oX (YV (K:=K) rfl rfl) rfl hDc Y1 ?_;refine bg ?_ bq;unfold QJ;refine YY ?_;refine As (N:=["rule","said"]) (own:=1) (caps:=[0]) rfl ?_ ?_ ?_ ?_ ?_
  ·exact N9 (pv 0)
  ·exact(show j0 nCl (cN AO) ["rule","said"] 1 [0] _ from .mk' (by decide +kernel))
  ·exact λ_ _ _ _ _=>eL (i:=0) acI rfl (.inl rfl)
  ·exact λ_ _ _ _ _=>xv
  ·intro _ _ _ _ _;refine dh ?_;refine bg ?_ ?_ ?_
   ·exact pv 0
   ·refine bg ?_ ?_ ?_
    ·unfold IX IW;refine As (N:=["side"]) (own:=1) (caps:=[]) rfl ?_ ?_ ?_ ?_ ?_
     ·exact qM K rfl (jv zE Dl Dm x8 (lF eJ (pv 1) (pv 0)) (bg bI bq))
     ·exact .mk' (by kernel_rfl)
     ·exact λ_ _ _ _ _=>eL (i:=0) acJ rfl (.inl rfl)
     ·exact λ_ _ _ _ _=>xv
     ·exact λ_ _ _ _ _=>jv zE Dl Dm x8 (pv 0) (bg bI bq)
    ·exact bq
    ·rfl
   ·rfl
end S21
namespace L2
open PySem PySem.Spec PyProof.Rows PySem.W
section
variable{prog:Program}{w:World}{A:Around}{E:QV}{s:Shared}{d:Addr}{es:Array DictEntry}{ep:Nat}
theorem acL{Q:List Value->Shared->Prop}(hh:A.handled=none)(lo:(d==sysModules)=false)(hm:j9 s.heap d es ep)(hz:es.size<=sizeLine)
  (hQ:∀(h':Heap)(tk:Nat)(acc:Array Value),(∀b o,s.heap.get? b=some o->h'.get? b=some o)->s.heap.objs.size<=h'.objs.size->ItemsOf (λi v=>∃e,es[i]?=some e/\v=e.key) acc es.size->Q acc.toList { s with heap:=h',toks:=tk }) :
  wpAny (model prog w) A (collect (.ref d)) Q E s:=by
 have cY:=hm.lt;unfold collect;refine ak (wpAny_runValue (aL F.entry_proto_collect ?_));rw[Around.under_plainId F.plain_proto_collect _];show wpAny _ A.in1 (newList [] >>= λl=>again (.builtin "list.__iadd__" ⟨[l,.ref d],[]⟩)) _ _ s;refine ak (aF ?_);have key:∀R:Result->Shared->Prop,(∀(h':Heap)(tk:Nat)(acc:Array Value)(c:Nat),(∀b o,s.heap.get? b=some o->h'.get? b=some o)->h'.get? s.heap.objs.size=some { cls:=.type "list",dict:=none,data:=.seq acc c,slots:=#[] }->ItemsOf (λi v=>∃e,es[i]?=some e/\v=e.key) acc es.size->R (.ok (.ret (.ref s.heap.objs.size))) { s with heap:=h',toks:=tk })->
   codeAny (model prog w) A (.builtin "list.__iadd__" ⟨[.ref s.heap.objs.size,.ref d],[]⟩) R { s with heap:=s.heap.push { cls:=.type "list",data:=.seq #[] } }:=λR hR=>by
  refine aL F.entry_list_iadd ?_;rw[Around.under_plainId F.plain_list_iadd _];exact kdl_extend (s:={ s with heap:=s.heap.push { cls:=.type "list",data:=.seq #[] } }) (Ya (es:=es) (ep:=ep) lo) hh (hm.up λo e=>dJ _ e) s.heap.objs.size (Nat.ne_of_gt cY) (Nat.ne_of_gt cY) _ 0 (gT _ rfl) (λh' tk yY c' hk hS yQ=>hR h' tk yY c' (λb o e=>hk b o (fK (dH e)) (dJ _ e)) hS yQ) hz
 refine au ⟨aX F.plain_list_iadd _,key _ λh' tk acc c k1 k2 k3=>?_⟩;show wpAny _ A (load s.heap.objs.size >>= _) _ _ _;refine ak (wpAny_load k2 ?_);exact au (hQ h' tk acc k1 (Nat.le_of_lt (dH k2)) k3)
end
section
variable{X:Cx}
noncomputable abbrev jq(k:KP):List Key:=[.inl k.1,.inr k.2]
def acM(K:Frag):List V->Hp->VK->Prop:=λvs H Q=>∃(a:Addr)(bf:List (List Key×V))(ks:List KP),vs=[.ref a]/\Rd H a (.dT bf)/\bf.map Prod.fst=ks.map jq/\ks.Nodup/\ks.length<64/\∀(l':Addr)(lR:List V)(iY:List KP),H l'=none->eP K H lR (iY.map hZ)->iY.Perm ks->iY.Pairwise (λa b=>iD a b=true)->Q (.ref l') (upd H l' (.lst lR))
theorem QO{K:Frag}{H:Hp}:∀{bf:List (List Key×V)}{xs:List (List Key×Addr×Value)}{ks:List KP},KT H bf xs->bf.map Prod.fst=ks.map jq->eP K H (xs.map λq=>V.ref q.2.1) (ks.map hZ)
 |_,_,[],.nil,_=>.nil
 |_,_,_::_,.nil,h=>nomatch h
 |_,_,[],.cons _ _,h=>nomatch h
 |_,_,k::ks,.cons (a:=p) (b:=q) hq t,h=>by
  have h:=iP h;refine eP.cons (.of ?_) (QO t h.2);rw[hq.2.1,show p.1=jq k from h.1]
  rfl
theorem acN(K:Frag)(hK:X.K=K)(hc:X.calm=true):eW X (.builtin "sorted") (acM K):=by
 subst hK;intro bc s σ H vs us Q I r h;obtain⟨a,bf,ks,rfl,g,hk,nd,kI,q⟩:=h;obtain⟨u,rfl,ru⟩:=vals1 r;cases ru;obtain⟨z,lo,xs,rel,o,es,ep,hm,ed,dd,he,_,_⟩:=pZ I.bZ g;have hxl:xs.length=ks.length:=by rw[<- rel.length];have:=ai List.length hk;rwa[cB,cB]at this
 have hes:es.size=ks.length:=by rw[<- pK,he,cB,hxl]
 have rv:Vals (xs.map λq=>V.ref q.2.1) (es.toList.map λe=>e.key):=by
  rw[he,List.map_map];exact Paired.of_get (by rw[cB,cB]) λi x u e1 e2=>by
   rw[fw]at e1 e2;obtain⟨y,ey,rfl⟩:=lj.mp e1;rw[ey]at e2;cases e2;exact rfl
 refine Oy I rv (QO rel hk) nd kI (λQ' k=>acL (I.ok.hd hc) lo ⟨o,hm,ed,dd⟩ (by rw[hes];exact dj (Nat.le_of_lt kI) (by decide)) λh' tk acc k1 k2 hI=>?_) λD s' lR iY hD I' Hw pm pw=>⟨.ref D,_,I',rfl,q D lR iY hD Hw pm pw⟩;have ev:acc.toList=es.toList.map λe=>e.key:=by
  refine List.ext_getElem? λj=>?_;rw[fw];cases ej:acc.toList[j]? with
  |some v=>
   obtain⟨e,h1,h2⟩:=hI.2 j v (by rw[<- Dh];exact ej);rw[Dh,h1,h2];rfl
  |none=>
   have hj:acc.size<=j:=by
    have:=List.getElem?_eq_none_iff.mp ej
    rwa[pK]at this
   rw[zF (by rw[pK,<- hI.1];exact hj)];rfl
 rw[ev];exact k h' tk k1 k2
def QP:List V->Hp->VK->Prop:=λvs H Q=>∃(l:Addr)(ss:List Str),vs=[.ref l]/\H l=some (.lst (ss.map V.str))/\ss.length<64/\∀(l':Addr)(wj:List Str),H l'=none->wj.Perm ss->Q (.ref l') (upd H l' (.lst (wj.map V.str)))
theorem QQ:∀{its:List Value}{ss:List Str},Vals (ss.map V.str) its->StrsAre its ss
 |_,[],.nil=>.nil
 |_,s::ss,.cons ⟨t,e⟩ r=>by rw[e];exact .cons s t (QQ r)
theorem QR:∀{its:List Value}{ss:List Str},StrsAre its ss->Vals (ss.map V.str) its
 |_,_,.nil=>.nil
 |_,_,.cons _ t r=>.cons ⟨t,rfl⟩ (QR r)
theorem acO:eW X (.builtin "sorted") QP:=by
 intro bc s σ H vs us Q I r h;obtain⟨l,ss,rfl,g,kI,q⟩:=h;obtain⟨u,rfl,ru⟩:=vals1 r;cases ru;obtain⟨its,rv,pl,hz⟩:=I.list (.of g);have hl:its.length<64:=by rw[<- rv.length,cB];exact kI
 refine sorted_strs pl.isList (QQ rv) hl λoh wj h1 h2 _=>?_;obtain⟨e,he⟩:=sortedAll_at s.heap its oh;have I1:Inv X bc σ H { s with heap:=sortedAll s.heap its oh }:=I.kept (t':=s.toks) λ_ _=>sortedAll_old;have fp:je X bc H (s.heap.objs.size+1):=I.l8 (Nat.le_succ _) (I.bZ.fresh (Nat.le_succ _));have I2:=I1.xx (o:=.lst (wj.map V.str)) fp ⟨by rw[cB,h2.length_eq];exact dj (Nat.le_of_lt kI) (by decide),oh.toList,e,QR h1,he⟩;exact⟨.ref _,_,I2,rfl,q _ _ fp.1 h2⟩
end
end L2
namespace S21
open PySem L2 Bw
variable{H H':Hp}{L:List (KP×List V)}{Y:Dw}{a b d:D1.Dr}{cl dk f:Addr}{ds:List D1.Dr}{fd:FuncData}{i n:Nat}{bf:List (List Key×V)}{p:Int}{q:Str×Str×D1.Dr×D1.Dr}{rs:List Str}{x:Str}{σ:St}
noncomputable def IY:List Expr->Option (List Str)
 | []=>some []
 |e::es=>match e with
  | .Constant (.str x) _ _=>(IY es).map (x::·)
  |_=>none
def ub(xs:List Str):TA:=λ_ H Q=>Q (xs.map V.str) H
theorem ze{X:Cx}:∀(es:List Expr)(xs:List Str),IY es=some xs->PA X es (ub xs)
 | [],xs,h=>by
  cases h;exact bq
 |e::es,xs,h=>by
  unfold IY at h;split at h
  case h_2=>cases h
  case h_1 x j pos=>
   obtain⟨ms,em,rfl⟩:=lj.mp h;exact bg bI (ze es ms em) rfl
noncomputable def QS:List Str:=(["addadd","addnone","addturn","bare","bend","copycopy","copyend","copyturn","cross","lone","meet"]:List String).map Str.ofString
noncomputable def QT:List Str:=(["noneend","nonecopy","nought","one","scale","scaleadd","scalecopy","stack","sumcopy"]:List String).map Str.ofString
noncomputable def QU:List Str:=(["sumend","thread","turnbeside","turnid","turnscale","turnthen","twice","undo"]:List String).map Str.ofString
noncomputable def jr:List Str:=(QS++QT)++QU
def Ce:TS:=cu (cR (cP (ub QS)) (bY 0)) (cu (cR (bw eB (br 0) (cP (ub QT))) (bY 0)) (dG (lA QP (bo (bw eB (br 0) (cP (ub QU))) bQ))))
theorem IZ{L:List Str}{R:VK}(hL:L.length<=1000)(q:∀a,H a=none->R (.ref a) (upd H a (.lst (L.map V.str)))):cP (ub L) σ H R:=
 ⟨by rw[cB];exact dj hL (by decide),q⟩
theorem QW{L M:List Str}{R:VK}{a:Addr}(hi:σ[i]?=some (some (.ref a)))(g:H a=some (.lst (L.map V.str)))(hL:L.length+M.length<=1000)(q:∀c H',bh H H'->H' c=some (.lst ((L++M).map V.str))->R (.ref c) H'):bw eB (br i) (cP (ub M)) σ H R:=by
 refine n8 ⟨_,hi,IZ (by lia) λb hb=>⟨a,b,_,_,rfl,rfl,bh.upd hb _ _ g,bz,by rw[cB,cB];exact dj hL (by decide),λc hc=>?_⟩⟩;exact q c _ ((bh.upd hb).trans (.upd hc)) (by rw[bz,ig])
theorem acP{D:Ends}(q:∀l (ss:List Str) H',bh H H'->H' l=some (.lst (ss.map V.str))->ss.Perm jr->D.rt (.ref l) H'):Ce D [none] H:=by
 unfold Ce;refine fz (IZ (by decide) λa ha=>?_);refine fz (QW (a:=a) rfl bz (by decide) λb H1 s1 g1=>?_);refine QW (a:=b) rfl g1 (by decide) λc H2 s2 g2=>?_;exact⟨c,jr,rfl,g2,by decide,λl' wj h' hp=>q l' wj _ ((((bh.upd ha).trans s1).trans s2).trans (.upd h')) bz hp⟩
theorem I0:dD ["some"] [] (cN Fo):=dU rfl rfl rfl (by decide +kernel) rfl
def QX(_K:Frag):Sp:=λvs H Q _=>vs=[]/\∀l (ss:List Str) H',bh H H'->H' l=some (.lst (ss.map V.str))->ss.Perm jr->Q (.ref l) H'
theorem acQ(F:c9 K "_law_rules" "_law_rules" Fo f fd)(hS:mg "sorted"=none):ck P w K mg base cA 1 f fd [] (QX K):=by
 refine F.ok I0 (λvs H Q E h=>?_) (λcI A outer s H vs Q E hr h=>?_)
 ·obtain⟨rfl,_⟩:=h;rfl
 ·obtain⟨rfl,q⟩:=h;refine⟨Ce,?_,acP q⟩;unfold Ce;refine bD ?_ ?_
  ·refine cx (i:=0) ?_ ?_ ?_ ?_ ?_ ?_
   ·exact I0.nd
   ·rfl
   ·exact Or.inl rfl
   ·refine cK ?_;refine ze _ _ ?_
    kernel_rfl
   ·rfl
   ·exact .inl rfl
  refine bD ?_ ?_
  ·refine cx (i:=0) ?_ ?_ ?_ ?_ ?_ ?_
   ·exact I0.nd
   ·rfl
   ·exact Or.inl rfl
   ·refine bH eD (pv 0) ?_;refine cK ?_;refine ze _ _ ?_
    kernel_rfl
   ·rfl
   ·exact .inl rfl
  refine bK ?_;refine cE ?_;refine gu acO rfl hS Hr ?_;refine bg ?_ bq;refine bH eD (pv 0) ?_;refine cK ?_;refine ze _ _ ?_
  kernel_rfl
noncomputable def Cf:List V:=(["id","swap","copy","end","add","none","cup","empty","times","back","beside","then"]:List String).map λx=>V.str (Str.ofString x)
noncomputable def iA(v:V):Nat:=Cf.findIdx λu=>decide (u=v)
noncomputable def Cg:D1.Dr->Nat
 | .id=>0 | .swap=>1 | .copy=>2 | .fin=>3 | .add=>4 | .none=>5 | .gZ=>6 | .empty=>7 | .times _=>8 | .back _=>9 | .bt _ _=>10 | .bj _ _=>11
theorem acR:(Cf.map iA)=List.range 12:=by decide +kernel
theorem mO{v:V}(h:Cf[i]?=some v):iA v=i:=by
 have e:=ai (λl=>l[i]?) acR;simp only[fw,h,Option.map_some]at e;have hi:i<12:=(fO.mp h).1;rw[List.getElem?_range hi]at e;exact eF e
theorem Ja:∀d:D1.Dr,∃v t,(cw d).bb=v::t/\iA v=Cg d
 | .id=>⟨_,_,rfl,mO (i:=0) rfl⟩
 | .swap=>⟨_,_,rfl,mO (i:=1) rfl⟩
 | .copy=>⟨_,_,rfl,mO (i:=2) rfl⟩
 | .fin=>⟨_,_,rfl,mO (i:=3) rfl⟩
 | .add=>⟨_,_,rfl,mO (i:=4) rfl⟩
 | .none=>⟨_,_,rfl,mO (i:=5) rfl⟩
 | .gZ=>⟨_,_,rfl,mO (i:=6) rfl⟩
 | .empty=>⟨_,_,rfl,mO (i:=7) rfl⟩
 | .times _=>⟨_,_,rfl,mO (i:=8) rfl⟩
 | .back _=>⟨_,_,rfl,mO (i:=9) rfl⟩
 | .bt _ _=>⟨_,_,rfl,mO (i:=10) rfl⟩
 | .bj _ _=>⟨_,_,rfl,mO (i:=11) rfl⟩
theorem zf{r s:List V}(h:(cw a).bb++r=(cw b).bb++s):Cg a=Cg b:=by
 obtain⟨v,t,e1,e2⟩:=Ja a;obtain⟨u,w,e3,e4⟩:=Ja b;rw[e1,e3]at h;rw[<- e2,<- e4,(iP h).1]
theorem acS:∀(a b:D1.Dr){r s:List V},(cw a).bb++r=(cw b).bb++s->a=b/\r=s:=by
 intro a;induction a with
 |times n=>
  intro b r s h;have e:=zf h;cases b with
  |times m=>
   have h2:=(iP (iP h).2);exact⟨by rw[V.int.inj h2.1],h2.2⟩
  |_=>cases e
 |back a ih=>
  intro b r s h;have e:=zf h;cases b with
  |back c=>
   obtain⟨rfl,h2⟩:=ih c (iP h).2;exact⟨rfl,h2⟩
  |_=>cases e
 |bt a c gL Jb=>
  intro b r s h;have e:=zf h;cases b with
  |bt a' c'=>
   have h1:((cw a).bb++(cw c).bb)++r=((cw a').bb++(cw c').bb)++s:=(iP h).2;rw[fg,fg]at h1;obtain⟨rfl,h2⟩:=gL a' h1;obtain⟨rfl,h3⟩:=Jb c' h2;exact⟨rfl,h3⟩
  |_=>cases e
 |bj a c gL Jb=>
  intro b r s h;have e:=zf h;cases b with
  |bj a' c'=>
   have h1:((cw a).bb++(cw c).bb)++r=((cw a').bb++(cw c').bb)++s:=(iP h).2;rw[fg,fg]at h1;obtain⟨rfl,h2⟩:=gL a' h1;obtain⟨rfl,h3⟩:=Jb c' h2;exact⟨rfl,h3⟩
  |_=>cases e
 |_=>
  intro b r s h;have e:=zf h;cases b<;>first|exact⟨rfl,(iP h).2⟩|cases e
theorem QY(h:(cw a).bb=(cw b).bb):a=b:=(acS a b (r:=[]) (s:=[]) (by rw[h])).1
theorem wk{p:Int}:∀{Y:D1.Dr},oF Y=true->(fu Y).kK p []=some (cw Y).bb
 | .times _,h=>nomatch h
 | .back a,h=>by show((fu a).kK p []).map _=_;rw[wk (Y:=a) h];rfl
 | .bt a b,h=>by
  have h:=zG.mp h;show((fu a).kK p []).bind _=_;rw[wk h.1];show((fu b).kK p []).map _=_;rw[wk h.2];rfl
 | .bj a b,h=>by
  have h:=zG.mp h;show((fu a).kK p []).bind _=_;rw[wk h.1];show((fu b).kK p []).map _=_;rw[wk h.2];rfl
 | .id,_ | .swap,_ | .copy,_ | .fin,_ | .add,_ | .none,_ | .gZ,_ | .empty,_=>by rfl
noncomputable def QZ(q:Str×Str×D1.Dr×D1.Dr):Bool:=match iX q.1 with
 |some [(a,b)]=>pC a b (fu q.2.2.1) (fu q.2.2.2)&&(decide (q.1 ≠ "cross")&&decide (q.1 ≠ "turnscale"))
 |_=>false
theorem acT:ic.all QZ=true:=by decide +kernel
theorem Q0(h:q∈ic):∃a b,iX q.1=some [(a,b)]/\pC a b (fu q.2.2.1) (fu q.2.2.2)=true/\q.1 ≠ "cross"/\q.1 ≠ "turnscale":=by
 have z:=fh.mp acT q h;unfold QZ at z;split at z
 ·rename_i a b e
  simp only[dq,aI]at z;exact⟨a,b,e,z⟩
 ·cases z
theorem acU(h:q∈ic):Mv p q.1 (cw q.2.2.1) (cw q.2.2.2):=by
 obtain⟨a,b,hR,hc,h1,h2⟩:=Q0 h;exact kj _ _ hR hc (ql _ []) (wk (Cb h).2.2.2.2.1) .nil (.any h1 h2)
theorem acV(h:q∈ic)(cf:p<=97)(hd:d.wf p)(hn:d≠q.2.2.1):NF p q.1 d:=by
 obtain⟨a,b,hR,hc,_⟩:=Q0 h;simp only[pC,dq,aI]at hc;exact IQ hR (by simp only[Ca,dq,aI];exact⟨hc.1,hc.2.1,hc.2.2.1⟩) cf hd hn
noncomputable def Ci:List Str:=(["twice","turnthen","turnbeside","thread","stack","cross","lone","bare","scale","one","nought","scalecopy","scaleadd","turnscale","turnid"]:List String).map Str.ofString
theorem KL:jr.all (λx=>Ci.contains x||(ic.find? λq=>decide (q.1=x)).isSome)=true:=by decide +kernel
theorem acW(h:x∈Ci)(cf:p<=97)(hd:d.wf p)(hl:d.bb.length<=200)(hn:dQ p x (cw d)=none):NF p x d:=by
 unfold Ci at h;simp only[ee,List.map_nil,dI,uq,or_false]at h;rcases h with rfl|rfl|rfl|rfl|rfl|rfl|rfl|rfl|rfl|rfl|rfl|rfl|rfl|rfl|rfl
 ·exact ack cf hd hn
 ·exact acm cf hd hn
 ·exact acn cf hd hn
 ·exact aco cf hd hn
 ·exact acp cf hd hn
 ·exact acA cf hd hl hn
 ·exact acw cf hd hn
 ·exact acx cf hd hn
 ·exact acs cf hd hn
 ·exact acq cf hd hn
 ·exact acr cf hd hn
 ·exact acu cf hd hn
 ·exact acv cf hd hn
 ·exact acz cf hd hn
 ·exact acy cf hd hn
theorem Q3(hd:d.wf p)(hl:d.bb.length<=200)(h:iw p gM x (cw d)=some Y):Mv p x (cw d) Y:=by
 have w:(cw d).bb.length<=200:=by rw[kO,cB];exact hl
 unfold iw gM at h;cases e:ic.find? (λq=>decide (q.1=x)) with
 |none=>
  rw[e]at h;exact ab3 (ft hd) w h
 |some q=>
  rw[e]at h;have h:(if(cw d).bb=(cw q.2.2.1).bb then some (cw q.2.2.2)else none)=some Y:=h
  split at h
  ·rename_i c
   cases h;have ex:q.1=x:=aM (List.find?_some (p:=λq:Str×Str×D1.Dr×D1.Dr=>decide (q.1=x)) e);rw[QY c,<- ex];exact acU (ur e)
  ·cases h
theorem Q4(cf:p<=97)(hd:d.wf p)(hl:d.bb.length<=200)(hx:x∈jr)(h:iw p gM x (cw d)=none):NF p x d:=by
 have z:=fh.mp KL x hx;unfold iw gM at h;cases e:ic.find? (λq=>decide (q.1=x)) with
 |none=>
  rw[e]at h z;have z:Ci.contains x=true:=by simpa using z
  exact acW (jV.mp z) cf hd hl h
 |some q=>
  rw[e]at h;have h:(if(cw d).bb=(cw q.2.2.1).bb then some (cw q.2.2.2)else none)=none:=h
  split at h
  ·cases h
  ·rename_i c
   have ex:q.1=x:=aM (List.find?_some (p:=λq:Str×Str×D1.Dr×D1.Dr=>decide (q.1=x)) e);rw[<- ex];exact acV (ur e) cf hd λy=>c (by rw[y])
noncomputable def nl:D1.Dr->D1.Dr->Str
 | .bj _ _,_ => "thread"
 | .bt a _,.bt c _=>if a.r=c.l then"cross" else"bend"
 | .bt .none _,_ => "addnone"
 | .bt _ _,_ => "addadd"
 | .times _,.times _ => "scale"
 | .times _,_ => "scalecopy"
 | .add,.times _ => "scaleadd"
 | .add,.copy => "sumcopy"
 | .add,_ => "sumend"
 | .swap,.swap => "undo"
 | .swap,_ => "addturn"
 | .copy,.swap => "copyturn"
 | .copy,.bt .fin _ => "copyend"
 | .copy,.bt _ _ => "copycopy"
 | .copy,_ => "meet"
 | .none,.copy => "nonecopy"
 |_,_ => "noneend"
noncomputable def bk:D1.Dr->Str
 | .back _ => "twice"
 | .bj _ _ => "turnthen"
 | .bt _ _ => "turnbeside"
 | .times _ => "turnscale"
 |_ => "turnid"
noncomputable def mQ:D1.Dr->List Str
 | .bj a b=>["lone",nl a b]
 | .bt (.bt _ _) _=>["bare","stack"]
 | .bt _ _=>["bare"]
 | .back a=>[bk a]
 | .times n=>[if n=1 then"one" else"nought"]
 |_=>[]
theorem wm(h:(cw a).hd=x)(hx:Cf[i]?=some (.str x)):Cg a=i:=by
 obtain⟨v,t,e1,e2⟩:=Ja a
 have:v=.str (cw a).hd:=by cases a<;>cases e1<;>rfl
 rw[<- e2,this,h];exact mO hx
theorem acX(h:e8 p x (cw a)=some Y):x=bk a:=by
 cases a with
 |times n=>
  simp[cw,e8,iu,ia,iL,iM,iN]at h;exact h.1.1
 |back c=>
  simp[cw,e8,iu,ia,iL,iM,iN]at h;exact h.1
 |bt c d=>
  simp[cw,e8,iu,ia,iL,iM,iN]at h;exact h.1
 |bj c d=>
  simp[cw,e8,iu,ia,iL,iM,iN]at h;exact h.1
 |_=>
  simp[cw,e8,iu,ia,iL,iM,iN]at h;first|exact h.1.1|exact h.1
theorem acY(h:(nF x (cw b) (cw a)).or ((i0 x (cw a) (cw b)).or (i0 x (cw b) (cw a)))=some Y):x∈mQ (.bt a b):=by
 have bare:∀{c:D1.Dr},Str.ofString "bare"∈mQ (.bt c b):=λ{c}=>by cases c<;>exact c6
 have ba:∀{u v:Dw},i0 x u v=some Y->x=Str.ofString "bare":=λ{u v} h=>by
  unfold i0 at h;split at h
  ·rename_i c;exact c.1
  ·cases h
 rcases iH.mp h with h|⟨_,h⟩
 ·cases a with
  |bt c d=>
   have h:(if x=Str.ofString "stack" then some (Dw.bt (cw c) (.bt (cw d) (cw b)))else none)=some Y:=h
   split at h
   ·rename_i c;rw[c];exact e9 _ c6
   ·cases h
  |_=>cases h
 ·rcases iH.mp h with h|⟨_,h⟩
  ·rw[ba h];exact bare
  ·rw[ba h];exact bare
theorem acZ(h:(jm x (cw a) (cw b)).or (jT p x (cw a) (cw b))=some Y):x=Str.ofString "lone"\/x=nl a b:=by
 have ln:∀{u v:Dw},lS x u v=some Y->x=Str.ofString "lone":=λ{u v} h=>by
  unfold lS at h;split at h
  ·rename_i c;exact c.1
  ·cases h
 rcases iH.mp h with h|⟨_,h⟩
 ·rcases iH.mp h with h|⟨_,h⟩
  ·cases a with
   |bj c d=>
    have h:(if x=Str.ofString "thread" then some (Dw.bj (cw c) (.bj (cw d) (cw b)))else none)=some Y:=h
    split at h
    ·rename_i c;exact .inr c
    ·cases h
   |_=>cases h
  ·rcases iH.mp h with h|⟨_,h⟩
   ·exact .inl (ln h)
   ·rcases iH.mp h with h|⟨_,h⟩
    ·exact .inl (ln h)
    ·cases a with
     |bt c d=>
      cases b with
      |bt e f=>
       have h:(if x=Str.ofString "cross"/\(cw c).lN=(cw e).lM then some (Dw.bt (.bj (cw c) (cw e)) (.bj (cw d) (cw f)))else none)=some Y:=h
       split at h
       ·rename_i z
        have w:c.r=e.l:=by
         have z2:(cw c).cq.2=(cw e).cq.1:=z.2;rw[oE,oE]at z2;exact z2
        refine .inr ?_;show x=if c.r=e.l then Str.ofString "cross" else Str.ofString "bend"
        rw[ae w];exact z.1
       ·cases h
      |_=>cases h
     |_=>cases h
 ·rcases iH.mp h with h|⟨_,h⟩
  ·unfold vU at h;split at h
   ·rename_i z
    have ha:=wm (i:=8) z.2.1 rfl;have hb:=wm (i:=8) z.2.2 rfl;refine .inr (z.1.trans ?_);cases a with
    |times n=>
     cases b with
     |times m=>rfl
     |_=>cases hb
    |_=>cases ha
   ·cases h
  ·rcases iH.mp h with h|⟨_,h⟩
   ·unfold vV at h;split at h
    ·rename_i z
     have ha:=wm (i:=8) z.2.1 rfl;have hb:=wm (i:=2) z.2.2 rfl;refine .inr (z.1.trans ?_);cases a with
     |times n=>
      cases b with
      |copy=>rfl
      |_=>cases hb
     |_=>cases ha
    ·cases h
   ·unfold vW at h;split at h
    ·rename_i z
     have ha:=wm (i:=4) z.2.1 rfl;have hb:=wm (i:=8) z.2.2 rfl;refine .inr (z.1.trans ?_);cases a with
     |add=>
      cases b with
      |times m=>rfl
      |_=>cases hb
     |_=>cases ha
    ·cases h
theorem ac0:∀{e:D1.Dr},dQ p x (cw e)=some Y->x∈mQ e
 | .id,h | .swap,h | .copy,h | .fin,h | .add,h | .none,h | .gZ,h | .empty,h=>nomatch h
 | .times n,h=>by
  have h:(if x=Str.ofString "one"/\n=1 then some ua else if x=Str.ofString "nought"/\n=0 then some rB else none)=some Y:=h
  show x∈[if n=1 then Str.ofString "one" else Str.ofString "nought"]
  split at h
  ·rename_i c
   rw[ae c.2,c.1];exact c6
  ·split at h
   ·rename_i c
    rw[af (by lia),c.1];exact c6
   ·cases h
 | .back a,h=>by rw[acX (a:=a) h];exact c6
 | .bt a b,h=>acY h
 | .bj a b,h=>by
  rcases acZ (a:=a) (b:=b) h with e|e
  ·rw[e];exact c6
  ·rw[e];exact e9 _ c6
theorem ac1:ic.all (λq=>(mQ q.2.2.1).contains q.1)=true:=by decide +kernel
theorem ac2{e:D1.Dr}(h:iw p gM x (cw e)=some Y):x∈mQ e:=by
 unfold iw gM at h;cases f:ic.find? (λq=>decide (q.1=x)) with
 |none=>
  rw[f]at h;exact ac0 h
 |some q=>
  rw[f]at h;have h:(if(cw e).bb=(cw q.2.2.1).bb then some (cw q.2.2.2)else none)=some Y:=h
  split at h
  ·rename_i c
   have ex:q.1=x:=aM (List.find?_some (p:=λq:Str×Str×D1.Dr×D1.Dr=>decide (q.1=x)) f);rw[QY c,<- ex];exact jV.mp (fh.mp ac1 q (ur f))
  ·cases h
abbrev ID:=D1.Dr ⊕ Int
noncomputable def qm:ID->It2
 | .inl e=>.bu (cw e)
 | .inr n=>.num n
noncomputable def kd:ID->List ID
 | .inl (.times n)=>[.inr n]
 | .inl (.back a)=>[.inl a]
 | .inl (.bt a b)=>[.inl a,.inl b]
 | .inl (.bj a b)=>[.inl a,.inl b]
 |_=>[]
theorem ac3(t:ID):(qm t).kids=(kd t).map qm:=by
 rcases t with e|n
 ·cases e<;>rfl
 ·rfl
noncomputable def pG:List ID->Nat->List ID
 |ts,0=>ts
 | [],_+1=>[]
 |t::ts,i+1=>pG (kd t++ts) i
theorem Jc:∀(i:Nat)(ts:List ID),cD (ts.map qm) i=(pG ts i).map qm
 |0,_=>rfl
 |i+1,[]=>rfl
 |i+1,t::ts=>by
  show cD ((qm t).kids++ts.map qm) i=(pG (kd t++ts) i).map qm;rw[ac3,<- ig];exact Jc i _
def Cj(p:Int):ID->Prop
 | .inl e=>e.wf p
 | .inr _=>True
theorem ac4{t:ID}(h:Cj p t):∀u∈kd t,Cj p u:=by
 rcases t with e|n
 ·cases e with
  |times n=>intro u hu;rw[dP.mp hu];exact trivial
  |back a=>intro u hu;rw[dP.mp hu];exact h
  |bt a b=>
   intro u hu;rcases(dI.mp hu)with(e|e)
   ·rw[e];exact h.1
   ·rw[dP.mp e];exact h.2
  |bj a b=>
   intro u hu;rcases(dI.mp hu)with(e|e)
   ·rw[e];exact h.1
   ·rw[dP.mp e];exact h.2.1
  |_=>intro u hu;cases hu
 ·intro u hu;cases hu
theorem Q5{p:Int}:∀(i:Nat){ts:List ID},(∀t∈ts,Cj p t)->∀t∈pG ts i,Cj p t
 |0,_,h=>h
 |i+1,[],_=>λt ht=>by cases ht
 |i+1,t::ts,h=>Q5 i λu hu=>(iG.mp hu).elim (ac4 (h t c6) u) λz=>h u (e9 _ z)
theorem Ck(hd:d.wf p){d':Dw}{r:List It2}(h:cD [.bu (cw d)] i=.bu d'::r):∃e:D1.Dr,d'=cw e/\e.wf p:=by
 have z:=Jc i [.inl d];rw[show([Sum.inl d].map qm:List It2)=[.bu (cw d)] from rfl,h]at z
 cases e:pG [.inl d] i with
 |nil=>rw[e]at z;cases z
 |cons t ts=>
  rw[e]at z;rcases t with a|n
  ·have w:=Q5 (p:=p) i (ts:=[.inl d]) (λt ht=>by rw[dP.mp ht];exact hd) (.inl a) (by rw[e];exact c6);exact⟨a,It2.bu.inj (iP z).1,w⟩
  ·cases(iP z).1
noncomputable def uc:ID->Nat
 | .inl e=>(cw e).bb.length
 | .inr _=>1
noncomputable def mc:D1.Dr->Nat
 | .times n=>(mQ (.times n)).length
 | .back a=>1+mc a
 | .bt a b=>(mQ (.bt a b)).length+(mc a+mc b)
 | .bj a b=>2+(mc a+mc b)
 |_=>0
noncomputable def qo:ID->Nat
 | .inl e=>mc e
 | .inr _=>0
noncomputable def cn:List ID->Nat
 | .inl e::_=>(mQ e).length
 |_=>0
theorem Q6(t:ID):uc t=1+((kd t).map uc).sum:=by
 rcases t with e|n
 ·cases e with
  |back a=>show(cw a).bb.length+1=_;simp[kd,uc];lia
  |bt a b=>show((cw a).bb++(cw b).bb).length+1=_;simp[kd,uc];lia
  |bj a b=>show((cw a).bb++(cw b).bb).length+1=_;simp[kd,uc];lia
  |_=>rfl
 ·rfl
theorem ac5(t:ID)(ts:List ID):qo t=cn (t::ts)+((kd t).map qo).sum:=by
 rcases t with e|n
 ·cases e with
  |back a=>simp[kd,qo,mc,cn,mQ]
  |bt a b=>simp[kd,qo,mc,cn]
  |bj a b=>simp[kd,qo,mc,cn,mQ]
  |times n=>simp[kd,qo,mc,cn]
  |_=>rfl
 ·rfl
theorem Q7:∀(n:Nat)(ts:List ID),(ts.map uc).sum=n->((List.range n).map λi=>cn (pG ts i)).sum=(ts.map qo).sum
 |0,[],_=>rfl
 |0,t::ts,h=>by
  have:=Q6 t
  rw[ee,uw]at h;lia
 |n+1,[],h=>by cases h
 |n+1,t::ts,h=>by
  have e1:=Q6 t;rw[ee,uw]at h;have ih:=Q7 n (kd t++ts) (by rw[ig,List.sum_append];lia);rw[ig,List.sum_append]at ih;rw[List.range_succ_eq_map,ee,uw,List.map_map,ee,uw];show cn (t::ts)+((List.range n).map λi=>cn (pG (kd t++ts) i)).sum=_;rw[ih,ac5 t ts];lia
theorem ac6(a b:D1.Dr):(mQ (.bt a b)).length<=2:=by cases a<;>simp[mQ]
theorem ud:∀e:D1.Dr,mc e+1<=(cw e).bb.length
 | .id | .swap | .copy | .fin | .add | .none | .gZ | .empty=>cF 1
 | .times _=>cF 2
 | .back a=>by
  have:=ud a
  show 1+mc a+1<=(cw a).bb.length+1;lia
 | .bt a b=>by
  have:=ud a
  have:=ud b
  have:=ac6 a b
  show(mQ (.bt a b)).length+(mc a+mc b)+1<=((cw a).bb++(cw b).bb).length+1;rw[cL];lia
 | .bj a b=>by
  have:=ud a
  have:=ud b
  show 2+(mc a+mc b)+1<=((cw a).bb++(cw b).bb).length+1;rw[cL];lia
noncomputable def jC(p:Int)(d:D1.Dr)(i:Nat)(x:Str):Bool:=match cD [.bu (cw d)] i with
 | .bu d'::_=>(iw p gM x d').isSome
 |_=>false
noncomputable def zg(d:D1.Dr)(i:Nat)(d' Y:Dw):List V:=(cw d).bb.take i++Y.bb++(cw d).bb.drop (i+d'.bb.length)
noncomputable def lV(p:Int)(d:D1.Dr)(i:Nat)(d':Dw)(x:Str):Option (KP×List V):=(iw p gM x d').map λY=>(((i:Int),x),zg d i d' Y)
noncomputable def kY(p:Int)(d:D1.Dr)(rs:List Str)(i:Nat):List (KP×List V):=match cD [.bu (cw d)] i with
 | .bu d'::_=>rs.filterMap (lV p d i d')
 |_=>[]
noncomputable def jD(p:Int)(d:D1.Dr)(rs:List Str):List (KP×List V):=(List.range (cw d).bb.length).flatMap (kY p d rs)
theorem Cm{p:Int}{d:D1.Dr}{i:Nat}{d':Dw}:∀rs:List Str,(rs.filterMap (lV p d i d')).map Prod.fst=(rs.filter λx=>(iw p gM x d').isSome).map λx=>((i:Int),x)
 | []=>rfl
 |x::rs=>by
  rw[zA,List.filter_cons];unfold lV;cases h:iw p gM x d' with
  |none=>exact Cm rs
  |some Y=>
   show _::((rs.filterMap (lV p d i d')).map Prod.fst)=_::_;rw[Cm rs]
theorem Q8(p:Int)(d:D1.Dr)(rs:List Str)(i:Nat):(kY p d rs i).map Prod.fst=jk rs (jC p d) i:=by
 unfold kY jk jC;cases h:cD [.bu (cw d)] i with
 |nil=>simp
 |cons t r=>
  cases t with
  |num n=>simp
  |bu d'=>exact Cm rs
theorem Cn(p:Int)(d:D1.Dr)(rs:List Str):(jD p d rs).map Prod.fst=(List.range (cw d).bb.length).flatMap (jk rs (jC p d)):=by
 unfold jD;rw[List.map_flatMap]
 congr 1
 funext i
 exact Q8 p d rs i
theorem ac7(nd:rs.Nodup)(f:Nat->Str->Bool)(i:Nat):(jk rs f i).Nodup:=by
 unfold jk;refine List.Pairwise.map _ (λa b h z=>h ?_) (List.Pairwise.filter _ nd);exact(Prod.mk.inj z).2
theorem ac8(nd:rs.Nodup)(f:Nat->Str->Bool)(n:Nat):((List.range n).flatMap (jk rs f)).Nodup:=by
 refine List.pairwise_flatMap.mpr ⟨λi _=>ac7 nd f i,?_⟩;refine List.Pairwise.imp (λ{i j}(dX:i≠j) x hx y hy z=>?_) List.nodup_range;unfold jk at hx hy;obtain⟨a,_,rfl⟩:=lh.mp hx;obtain⟨b,_,rfl⟩:=lh.mp hy
 have:=(Prod.mk.inj z).1
 exact dX (by lia)
theorem Q9{α:Type} [DecidableEq α]:∀{xs ys:List α},xs.Nodup->(∀x∈xs,x∈ys)->xs.length<=ys.length
 | [],_,_,_=>gH _
 |x::xs,ys,nd,h=>by
  have hx:=h x c6;rw[List.nodup_cons]at nd
  have:=Q9 (xs:=xs) (ys:=ys.erase x) nd.2 λy hy=>(List.mem_erase_of_ne (λ(z:y=x)=>nd.1 (by rw[<- z];exact hy))).mpr (h y (e9 _ hy))
  rw[List.length_erase_of_mem hx]at this
  have:=List.length_pos_of_mem hx
  rw[fj];lia
theorem ac9(nd:rs.Nodup)(i:Nat):(jk rs (jC p d) i).length<=cn (pG [.inl d] i):=by
 unfold jk jC;rw[cB];have z:cD [.bu (cw d)] i=(pG [.inl d] i).map qm:=Jc i [.inl d];rw[z];have ff:∀n,(rs.filter λ_=>false).length<=n:=λn=>by rw[List.filter_eq_nil_iff.mpr (λ_ _=>by decide)];exact gH _
 cases pG [.inl d] i with
 |nil=>exact ff _
 |cons t ts=>
  rcases t with e|n
  ·refine Q9 (List.Pairwise.filter _ nd) λx hx=>?_;obtain⟨_,h⟩:=uf.mp hx;have h:(iw p gM x (cw e)).isSome=true:=h;obtain⟨Y,hY⟩:=wG.mp h;exact ac2 hY
  ·exact ff _
theorem ada(nd:rs.Nodup):((List.range (cw d).bb.length).flatMap (jk rs (jC p d))).length<=mc d:=by
 rw[List.length_flatMap];have h:=Q7 (cw d).bb.length [.inl d] (by simp[uc]);have e:([Sum.inl d].map qo).sum=mc d:=by simp[qo]
 rw[<- e,<- h];generalize List.range (cw d).bb.length=l;induction l with
 |nil=>exact cF _
 |cons i l ih=>
  rw[ee,ee,uw,uw];exact Nat.add_le_add (ac9 nd i) ih
theorem adb(h:¬tf (cw d).bb[i]?=true):jC p d i x=false:=by
 unfold jC;cases e:cD [.bu (cw d)] i with
 |nil=>rfl
 |cons t r=>
  cases t with
  |num n=>rfl
  |bu d'=>
   have:=jA.word (d:=cw d) ⟨r,e⟩
   exact absurd (by rw[this];cases d'<;>rfl) h
theorem Ra{α:Type}{ws:List V}{M:Nat->List α}(hM:∀i,¬tf ws[i]?=true->M i=[]):∀j,(g7 ws j).flatMap M=((List.range j).map λi=>ws.length-(i+1)).flatMap M
 |0=>rfl
 |j+1=>by
  rw[Bq,wI,ig,oJ,<- Ra hM j];split
  ·rw[oJ];rfl
  ·rename_i h
   show _=_++(M _++[]);rw[hM _ h,gU,gU]
theorem ade(n:Nat):((List.range n).map λi=>n-(i+1))=(List.range n).reverse:=by
 refine List.ext_getElem (by simp) λi h1 h2=>?_;simp;lia
theorem Rb{α β:Type}{f g:α->List β}:∀(l:List α),(∀a∈l,(f a).Perm (g a))->(l.flatMap f).Perm (l.flatMap g)
 | [],_=>.refl _
 |a::l,h=>by
  rw[iz,iz];exact(h a c6).append (Rb l λb hb=>h b (e9 _ hb))
theorem adf{names:List Str}(h:rs.Perm names):(oj (cw d) names (jC p d)).Perm ((jD p d rs).map Prod.fst):=by
 rw[Cn];unfold oj;rw[Ra (λi hi=>by unfold jk;rw[List.filter_eq_nil_iff.mpr λx _=>by rw[adb hi];decide];rfl),ade];refine((List.reverse_perm _).flatMap_right _).trans (Rb _ λi _=>?_);exact(h.symm.filter _).map _
noncomputable def names28:List Str:=BI.map Prod.fst
theorem Jd:jr.Perm names28:=List.isPerm_iff.mp (by decide +kernel)
theorem adg:jr.Nodup:=by decide +kernel
theorem adh(cf:p<=97)(hd:d.wf p)(hl:d.bb.length<=200):OB p (cw d) names28 (jC p d):=by
 refine⟨λi d' r x h hx=>?_⟩;obtain⟨e,rfl,we⟩:=Ck hd h;have hx2:x∈jr:=Jd.mem_iff.mpr hx;have el:e.bb.length<=200:=by
  have:=jA.fits (d:=cw d) ⟨r,h⟩
  rw[show It2.bb (.bu (cw e))=(cw e).bb from rfl,kO,kO,cB,cB]at this
  lia
 have ef:jC p d i x=(iw p gM x (cw e)).isSome:=by unfold jC;rw[h]
 cases hf:iw p gM x (cw e) with
 |none=>
  obtain⟨cM,h1,h2⟩:=Q4 cf we el hx2 hf r;exact⟨cM,none,h1,by rw[h];exact h2,by rw[ef,hf];rfl⟩
 |some Y=>
  obtain⟨cM,env,b,h1,h2,_⟩:=Q3 we el hf r;exact⟨cM,_,h1,by rw[h];exact h2,by rw[ef,hf];rfl⟩
theorem Rc:∀{as bs:List KP},as.Pairwise (λa b=>iD a b=true)->bs.Pairwise (λa b=>iD a b=true)->(∀k,k∈as↔k∈bs)->as=bs
 | [],[],_,_,_=>rfl
 | [],b::bs,_,_,h=>by have:=(h b).mpr c6;cases this
 |a::as,[],_,_,h=>by have:=(h a).mp c6;cases this
 |a::as,b::bs,ha,hb,h=>by
  rw[List.pairwise_cons]at ha hb;have e:a=b:=by
   rcases dI.mp ((h a).mp c6)with z|z
   ·exact z
   ·rcases dI.mp ((h b).mpr c6)with y|y
    ·exact y.symm
    ·have:=Ow (ha.1 b y) (hb.1 a z)
     rw[Ht]at this;cases this
  subst e;rw[Rc ha.2 hb.2 λk=>⟨λhk=>?_,λhk=>?_⟩]
  ·rcases dI.mp ((h k).mp (e9 _ hk))with z|z
   ·have:=ha.1 k hk
    rw[z,Ht]at this;cases this
   ·exact z
  ·rcases dI.mp ((h k).mpr (e9 _ hk))with z|z
   ·have:=hb.1 k hk
    rw[z,Ht]at this;cases this
   ·exact z
structure FO(p:Int)(d Y:Dw):Prop where
 ok:Y.ok p
 dep:Y.dep<=max (d.dep+1) 10
 len:Y.bb.length<=2*d.bb.length+40
theorem adi{d:Dw}(pp:p∈eZ)(ok:d.ok p)(h:e8 p x d=some Y):FO p (.back d) Y:=by
 cases d with
 |box y l r=>
  simp[e8,iu,ia,iL,iM,iN]at h;obtain⟨_,rfl⟩:=h;exact⟨ok,by simp[Dw.dep];try lia,by simp[Dw.bb]⟩
 |times n=>
  simp[e8,iu,ia,iL,iM,iN]at h;obtain⟨⟨_,hn⟩,rfl⟩:=h;have Nl:=ok.1;have xr:=ok.2;have z:=Mh pp (n:=n) (by lia) xr;exact⟨⟨by have:=z.1;lia,z.2.1⟩,by simp[Dw.dep];try lia,by simp[Dw.bb]⟩
 |back e=>
  simp[e8,iu,ia,iL,iM,iN]at h;obtain⟨_,rfl⟩:=h;exact⟨ok,by simp[Dw.dep];try lia,by simp[Dw.bb];try lia⟩
 |bt a b=>
  simp[e8,iu,ia,iL,iM,iN]at h;obtain⟨_,rfl⟩:=h;exact⟨ok,by simp[Dw.dep];try lia,by simp[Dw.bb];try lia⟩
 |bj a b=>
  simp[e8,iu,ia,iL,iM,iN]at h;obtain⟨_,rfl⟩:=h;exact⟨⟨ok.2,ok.1⟩,by simp[Dw.dep];try lia,by simp[Dw.bb];try lia⟩
theorem nG{c:Prop} [Decidable c] {p:Int} {d Z Y:Dw} (h:(if c then some Z else none)=some Y) (g:FO p d Z):FO p d Y:=by
 split at h
 ·cases h;exact g
 ·cases h
theorem adj{d:Dw}(pp:p∈eZ)(p0:0<p)(ok:d.ok p)(h:dQ p x d=some Y):FO p d Y:=by
 cases d with
 |box y l r=>cases h
 |times n=>
  have h:(if x=Str.ofString "one"/\n=1 then some ua else if x=Str.ofString "nought"/\n=0 then some rB else none)=some Y:=h
  split at h
  ·cases h;exact⟨by show _∈iW;decide +kernel,by show 1<=_;lia,by show 1<=_;lia⟩
  ·exact nG h ⟨⟨by show _∈iW;decide +kernel,by show _∈iW;decide +kernel⟩,by show 2<=_;lia,by show 3<=_;lia⟩
 |back e=>exact adi pp ok h
 |bt a b=>
  have h:(nF x b a).or ((i0 x a b).or (i0 x b a))=some Y:=h;rcases iH.mp h with h|⟨_,h⟩
  ·cases a with
   |bt c d=>exact nG h ⟨⟨ok.1.1,ok.1.2,ok.2⟩,by simp[Dw.dep];lia,by simp[Dw.bb];lia⟩
   |box y l r=>cases h
   |times n=>cases h
   |back e=>cases h
   |bj c d=>cases h
  ·rcases iH.mp h with h|⟨_,h⟩
   ·exact nG h ⟨ok.2,by simp[Dw.dep];lia,by simp[Dw.bb];lia⟩
   ·exact nG h ⟨ok.1,by simp[Dw.dep];lia,by simp[Dw.bb];lia⟩
 |bj a b=>
  have h:(jm x a b).or (jT p x a b)=some Y:=h;rcases iH.mp h with h|⟨_,h⟩
  ·rcases iH.mp h with h|⟨_,h⟩
   ·cases a with
    |bj c d=>exact nG h ⟨⟨ok.1.1,ok.1.2,ok.2⟩,by simp[Dw.dep];lia,by simp[Dw.bb];lia⟩
    |box y l r=>cases h
    |times n=>cases h
    |back e=>cases h
    |bt c d=>cases h
   ·rcases iH.mp h with h|⟨_,h⟩
    ·exact nG h ⟨ok.2,by simp[Dw.dep];lia,by simp[Dw.bb];lia⟩
    ·rcases iH.mp h with h|⟨_,h⟩
     ·exact nG h ⟨ok.1,by simp[Dw.dep];lia,by simp[Dw.bb];lia⟩
     ·unfold qh at h;split at h
      ·exact nG h ⟨⟨⟨ok.1.1,ok.2.1⟩,ok.1.2,ok.2.2⟩,by simp[Dw.dep];lia,by simp[Dw.bb];lia⟩
      ·cases h
  ·rcases iH.mp h with h|⟨_,h⟩
   ·exact nG h ⟨⟨nN _ (by lia),nO _ p0⟩,by show 1<=_;lia,by show 2<=_;lia⟩
   ·rcases iH.mp h with h|⟨_,h⟩
    ·exact nG h ⟨⟨ok.2,ok.1,ok.1⟩,by simp[Dw.dep];lia,by simp[Dw.bb];lia⟩
    ·exact nG h ⟨⟨⟨ok.2,ok.2⟩,ok.1⟩,by simp[Dw.dep];lia,by simp[Dw.bb];lia⟩
theorem adk:ic.all (λq=>decide ((cw q.2.2.2).dep<=10)&&decide (q.2.2.2.bb.length<=40))=true:=by decide +kernel
theorem Je{d:Dw}(pp:p∈eZ)(p0:0<p)(ok:d.ok p)(h:iw p gM x d=some Y):FO p d Y:=by
 unfold iw gM at h;cases f:ic.find? (λq=>decide (q.1=x)) with
 |none=>
  rw[f]at h;exact adj pp p0 ok h
 |some q=>
  rw[f]at h;have hq:=ur f;have h:(if d.bb=(cw q.2.2.1).bb then some (cw q.2.2.2)else none)=some Y:=h
  have z:=fh.mp adk q hq;rw[dq,aI,aI]at z;exact nG h ⟨rC (Cb hq).2.2.2.2.1,by have:=z.1;lia,by rw[kO,cB];have:=z.2;lia⟩
theorem Rf{a:Addr}{y:V}{r:Option V}(h:e7 H a y r)(s:bh H H'):e7 H' a y r:=by
 rcases h with⟨bf,k,h1,h2,h3⟩|⟨bf,k,b,h1,h2,h3,h4⟩
 ·exact .inl ⟨bf,k,yv h1 s,h2,h3⟩
 ·exact .inr ⟨bf,k,b,yv h1 s,h2,s _ _ h3,h4⟩
theorem qk.mono{cs:Str->Option (Dw×Dw)}(h:qk H cl cs)(s:bh H H'):qk H' cl cs:=λx=>by
 have z:=h x;cases e:cs x with
 |none=>rw[e]at z;exact Rf z s
 |some AB=>
  obtain⟨A,B⟩:=AB;rw[e]at z;obtain⟨pr,l,r,g,a,b,c⟩:=z;exact⟨pr,l,r,Rf g s,s _ _ a,s _ _ b,s _ _ c⟩
def iy(H:Hp)(bf:List (List Key×V))(L:List (KP×List V)):Prop:=Paired (λkv q=>kv.1=jq q.1/\∃l,kv.2=.ref l/\H l=some (.lst q.2)) bf L
theorem iy.mono(h:iy H bf L)(s:∀l xs,H l=some (.lst xs)->H' l=some (.lst xs)):iy H' bf L:=Paired.uz h λ_ _ ⟨a,l,b,c⟩=>⟨a,l,b,s _ _ c⟩
theorem iy.keys(h:iy H bf L):bf.map Prod.fst=(L.map Prod.fst).map jq:=by
 unfold iy at h;induction h with
 |nil=>rfl
 |cons a _ i=>rw[ee,ee,ee,i,a.1]
theorem iy.snoc{k:KP}{l:Addr}{xs:List V}(h:iy H bf L)(g:H l=some (.lst xs)):iy H (bf++[(jq k,.ref l)]) (L++[(k,xs)]):=by
 unfold iy at h |-;induction h with
 |nil=>exact .cons ⟨rfl,l,rfl,g⟩ .nil
 |cons a _ i=>exact .cons a i
theorem adl{a b:KP}(h:jq a=jq b):a=b:=by
 have h:=iP h;exact Prod.ext (Sum.inl.inj h.1) (Sum.inr.inj (iP h.2).1)
theorem iy.get(h:iy H bf L)(k:KP):match L.find? (λq=>decide (q.1=k))with|none=>c7 bf (jq k)=none|some q=>∃l,c7 bf (jq k)=some (.ref l)/\H l=some (.lst q.2):=by
 unfold iy at h;induction h with
 |nil=>rfl
 | @cons kv q bf L a _ i=>
  by_cases e:q.1=k
  ·rw[show(q::L).find? (λq=>decide (q.1=k))=some q from List.find?_cons_of_pos (p:=λq:KP×List V=>decide (q.1=k)) (aG e)]
   obtain⟨a,l,b,c⟩:=a;exact⟨l,by rw[lD (a.trans (ai jq e)),b],c⟩
  ·rw[show(q::L).find? (λq=>decide (q.1=k))=L.find? (λq=>decide (q.1=k)) from List.find?_cons_of_neg (p:=λq:KP×List V=>decide (q.1=k)) (by rw[aa e];decide),lE (p:=kv) (λz=>e (adl (a.1.symm.trans z)))]
   exact i
theorem iy.new(h:iy H bf L){k:KP}(hk:k ∉ L.map Prod.fst):c7 bf (jq k)=none:=by
 have z:=h.get k;cases e:L.find? (λq=>decide (q.1=k)) with
 |none=>rw[e]at z;exact z
 |some q=>
  have ex:q.1=k:=aM (List.find?_some (p:=λq:KP×List V=>decide (q.1=k)) e);exact absurd (by rw[<- ex];exact List.mem_map_of_mem (ur e)) hk
theorem df.dT{H:Hp}{a:Addr}{bf:List (List Key×V)}{o:HO}(h:H a=some (.dT bf)):df H (upd H a o):=λb u e k=>by
 rw[cH]
 ·exact e
 ·intro z;rw[z,h]at e;cases e;rcases k with⟨_,k⟩|⟨_,_,k⟩<;>cases k
theorem adm(nd:rs.Nodup){j:Nat}{d':Dw}(hx:rs[j]?=some x):((i:Int),x) ∉ (((List.range i).flatMap (kY p d rs))++(rs.take j).filterMap (lV p d i d')).map Prod.fst:=by
 rw[ig,List.map_flatMap];intro z;rcases(iG.mp z)with(z|z)
 ·obtain⟨k,hk,z⟩:=List.mem_flatMap.mp z;rw[Q8]at z;unfold jk at z;obtain⟨y,_,e⟩:=lh.mp z
  have:=qq.mp hk
  have:=(Prod.mk.inj e).1
  lia
 ·rw[Cm]at z;obtain⟨y,hy,e⟩:=lh.mp z;have e:=(Prod.mk.inj e).2;subst e;obtain⟨m,hm⟩:=List.getElem?_of_mem (uf.mp hy).1;have vK:m<j:=by
   have:=(fO.mp hm).1
   rw[oH]at this;lia
  rw[List.getElem?_take_of_lt vK]at hm;have h1:=fO.mp hm;have h2:=fO.mp hx;obtain⟨l1,e1⟩:=h1;obtain⟨l2,e2⟩:=h2;exact List.pairwise_iff_getElem.mp nd m j l1 l2 vK (e1.trans e2.symm)
noncomputable def Co:It2->Nat
 | .num _=>0
 | .bu d=>d.dep
theorem adn{t:It2}(h:Co t<=n):∀u∈t.kids,Co u<=n:=by
 cases t with
 |num m=>intro u hu;cases hu
 |bu d=>
  cases d with
  |box x l r=>intro u hu;cases hu
  |times m=>intro u hu;rw[dP.mp hu];exact gH _
  |back a=>intro u hu;rw[dP.mp hu];have h:a.dep+1<=n:=h;show a.dep<=n;lia
  |bt a b=>
   have h:max a.dep b.dep+1<=n:=h;intro u hu;rcases(dI.mp hu)with(e|e)
   ·rw[e];show a.dep<=n;lia
   ·rw[dP.mp e];show b.dep<=n;lia
  |bj a b=>
   have h:max a.dep b.dep+1<=n:=h;intro u hu;rcases(dI.mp hu)with(e|e)
   ·rw[e];show a.dep<=n;lia
   ·rw[dP.mp e];show b.dep<=n;lia
theorem Rg{n:Nat}:∀(i:Nat){ts:List It2},(∀t∈ts,Co t<=n)->∀t∈cD ts i,Co t<=n
 |0,_,h=>h
 |i+1,[],_=>λt ht=>by cases ht
 |i+1,t::ts,h=>Rg i λu hu=>(iG.mp hu).elim (adn (h t c6) u) λz=>h u (e9 _ z)
theorem ado(p:Int)(d:D1.Dr)(rs:List Str)(i j:Nat)(d':Dw):((List.range i).flatMap (kY p d rs)++(rs.take j).filterMap (lV p d i d')).length<=i*rs.length+j:=by
 have h1:∀i,((List.range i).flatMap (kY p d rs)).length<=i*rs.length:=λi=>by
  induction i with
  |zero=>simp
  |succ i ih=>
   have:(kY p d rs i).length<=rs.length:=by
    unfold kY;split
    ·exact List.length_filterMap_le _ _
    ·exact gH _
   rw[wI,oJ,cL,Nat.succ_mul,iz,List.flatMap_nil,gU];lia
 have h2:=List.length_filterMap_le (lV p d i d') (rs.take j);rw[oH]at h2
 have:=h1 i
 rw[cL];lia
def Rh(_K:Frag):Sp:=λvs H Q _=>∃(p:Int)(aw al cl:Addr)(d:D1.Dr)(rs:List Str),vs=[.int p,.ref aw,.ref al,.ref cl]/\p∈eZ/\H aw=some (.lst (cw d).bb)/\H al=some (.lst (rs.map V.str))/\qk H cl gM/\d.wf p/\d.bb.length<=100/\(cw d).dep<=58/\rs.Nodup/\rs.length<=100/\
 ∀tb bf H',bh H H'->H' tb=some (.dT bf)->iy H' bf (jD p d rs)->Q (.ref tb) H'
theorem rD:dD ["p","words","rules","closed","table","at","end","part","tree","rule","found"] ["p","words","rules","closed"] (cN Fm):=dU rfl rfl rfl (by decide +kernel) rfl
theorem adp{fE fT fF fL:Addr}{qV lJ lO yI:FuncData}(F:c9 K "_law_table" "_law_table" Fm f fd)(T:Txt mg)
  (GE:ck P w K mg base cA 1 fE qV ["words","at"] (O5 K)) (kE:Kp K fE) (bE:Binds K qV ["words","at"] []) (mE:Mg mg "_law_end" fE)
  (GT:ck P w K mg base cA 1 fT lJ ["words"] (BX K)) (kT:Kp K fT) (bT:Binds K lJ ["words"] []) (mT:Mg mg "_law_tree" fT)
  (GF:ck P w K mg base cA 63 fF lO ["p","rule","tree","part","closed"] (Qz K gM)) (kF:Kp K fF) (bF:Binds K lO ["p","rule","tree","part","closed"] []) (mF:Mg mg "_law_fit" fF)
  (GL:ck P w K mg base cA 1 fL yI ["tree"] (PF K)) (kL:Kp K fL) (bL:Binds K yI ["tree"] []) (mL:Mg mg "_law_flat" fL) :
  ck P w K mg base cA 64 f fd ["p","words","rules","closed"] (Rh K):=by
 refine F.ok rD (λvs H Q E h=>?_) (λcI A outer s H vs Q E hr h=>?_)
 ·obtain⟨p,aw,al,cl,d,rs,rfl,_⟩:=h;rfl
 ·obtain⟨p,aw,al,cl,d,rs,rfl,pp,gw,gl,pB,hd,hl,Im,nd,eV,q⟩:=h;have z:(20000:Nat)<=sizeLine:=by decide
  have eJ:=nh hr;have r1:dS 1 _:=hr.mono (by lia);obtain⟨p2,cf⟩:=pX p pp;refine⟨_,bD (cx (i:=4) rD.nd rfl (.inl rfl) Wc) (bD (lx lq rfl (qA rfl T.range (bg (gu (ko K rfl) rfl T.len j3 (bg (pv 1) bq)) bq)) (eL (i:=5) rD.nd rfl (.inl rfl)) (bK (cO (zR (oS (gu (Pm K rfl (T := "int")) rfl T.isinstance pW (bg (bO (de K rfl) (pv 1) (pv 5)) (bg (sy rfl T.int sH) bq))))) (bD (cx (i:=6) rD.nd rfl (.inl rfl) (cZ GE r1 rfl mE kE bE .nil cX (bg (pv 1) (bg (pv 5) bq)))) (bD (cx (i:=7) rD.nd rfl (.inl rfl) (jJ (qL K rfl) (pv 1) (iS (pv 5)) (iS (pv 6)))) (bD (cx (i:=8) rD.nd rfl (.inl rfl) (cZ GT r1 rfl mT kT bT .nil cX (bg (pv 7) bq))) (bK (lx lq rfl (qM K rfl (pv 2)) (eL (i:=9) rD.nd rfl (.inl rfl)) (bD (cx (i:=10) rD.nd rfl (.inl rfl) (cZ GF hr rfl mF kF bF .nil cX (bg (pv 0) (bg (pv 9) (bg (pv 8) (bg (pv 7) (bg (pv 3) bq))))))) (bK (cO (cj uN (pv 10) gW (cm _)) (bK (xI eJ (pv 4) (dh (bg (pv 5) (bg (pv 9) bq))) (bH eD (bH eD (jJ (qL K rfl) (pv 1) mf (iS (pv 5))) (cZ GL r1 rfl mL kL bL .nil cX (bg (pv 10) bq))) (jJ (qL K rfl) (pv 1) (iS (pv 6)) mf)) rfl)) cW))))))))
     cW))) (bK (cE (pv 4)))),?_⟩
  intro tb Ri;have qG:(cw d).bb.length<=100:=by rw[kO,cB];exact hl
  have s0:=bh.upd (o:=.dT []) Ri;have bZ:=ft hd;refine⟨_,rfl,aw,_,rfl,.inl (.of (s0 _ _ gw)),_,rfl,by lia,by lia,w6 (n:=(cw d).bb.length) (λi σ H'=>bh H H'/\∃s5 s6 s7 s8 s9 eY bf,σ=[some (.int p),some (.ref aw),some (.ref al),some (.ref cl),some (.ref tb),s5,s6,s7,s8,s9,eY]/\H' tb=some (.dT bf)/\iy H' bf ((List.range i).flatMap (kY p d rs))) ⟨s0,none,none,none,none,none,none,[],rfl,bz,.nil⟩ ?_ ?_⟩
  ·rintro i σ H1 hi ⟨sm,s5,s6,s7,s8,s9,eY,bf,rfl,gt,hT⟩;rw[Int.zero_add];dsimp only[bY];obtain⟨t,hA⟩:=aae (d:=cw d) (i:=i) hi;have Rj:=hA.word;obtain⟨r,zh⟩:=id hA;cases t with
   |num n=>
    have er:kY p d rs i=[]:=by unfold kY;rw[zh]
    refine⟨_,rfl,_,rfl,aw,_,(i:Int),_,rfl,rfl,.of (sm _ _ gw),cc Rj,_,true,rfl,.inl ⟨n,rfl,Ey K⟩,_,rfl,dE ?_⟩;refine⟨sm,_,s6,s7,s8,s9,eY,bf,rfl,gt,?_⟩;rw[wI,oJ,iz,er];simpa using hT
   |bu d'=>
    obtain⟨e,rfl,we⟩:=Ck hd zh;obtain⟨xh,hxh⟩:∃x,It2.head (.bu (cw e))=.str x:=by cases e<;>exact⟨_,rfl⟩
    have xp:=hA.fits;have xp:i+(cw e).bb.length<=(cw d).bb.length:=xp;have aep:(cw e).dep<=58:=Rg (n:=58) i (ts:=[.bu (cw d)]) (λt ht=>by rw[dP.mp ht];exact Im) (.bu (cw e)) (by rw[zh];exact c6);have eR:kY p d rs i=rs.filterMap (lV p d i (cw e)):=by unfold kY;rw[zh]
    refine⟨_,rfl,_,rfl,aw,_,(i:Int),_,rfl,rfl,.of (sm _ _ gw),cc Rj,_,false,rfl,.inr ⟨xh,hxh,Ez K⟩,_,rfl,eE ?_⟩;refine⟨_,rfl,_,rfl,p,aw,cw d,i,_,rfl,sm _ _ gw,bZ,hA,by lia,λH2 s2=>?_⟩;dsimp only[bY];have lH:=sm.trans s2;refine⟨_,rfl,_,rfl,_,rfl,_,rfl,_,rfl,aw,_,rfl,.of (lH _ _ gw),λpa sS=>?_⟩;rw[show iJ (cw d).bb (some (i:Int)) (some ((i+(It2.bu (cw e)).bb.length:Nat):Int))=(cw e).bb from NQ xp (by
     have:=nv i [.bu (cw d)]
     rw[zh,om,iz]at this;rw[show(It2.bu (cw d)).bb=(cw d).bb from rfl]at this
     rw[<- this];exact List.take_left' rfl)]
    have s3:=bh.upd (o:=.lst (cw e).bb) sS;have zi:(upd H2 pa (.lst (cw e).bb)) pa=some (.lst (cw e).bb):=bz;have Jf:=lH.trans s3;have Jg:=s3 _ _ (s2 _ _ gt);have Rk:=hT.mono λl xs g=>s3 _ _ (s2 _ _ g);generalize upd H2 pa (.lst (cw e).bb)=H3 at s3 zi Jf Jg Rk |-;dsimp only[bY];refine⟨_,rfl,p,pa,cw e,rfl,.of zi,ft we,by lia,λtv H4 s4 htv=>?_⟩;dsimp only[bY];have ntb:pa≠tb:=λy=>by rw[y,Jg]at zi;cases zi
    refine⟨_,rfl,al,rfl,⟨_,.of ((Jf.trans s4) _ _ gl)⟩,wZ (xs:=rs.map V.str) (λj σ H'=>bh H H'/\∃s9 eY bf,σ=[some (.int p),some (.ref aw),some (.ref al),some (.ref cl),some (.ref tb),some (.int (i:Int)),some (.int ((i+(cw e).bb.length:Nat):Int)),some (.ref pa),some tv,s9,eY]/\H' tb=some (.dT bf)/\iy H' bf ((List.range i).flatMap (kY p d rs)++(rs.take j).filterMap (lV p d i (cw e)))/\cy K H' tv (cw e)/\H' pa=some (.lst (cw e).bb)) ⟨Jf.trans s4,s9,eY,bf,rfl,s4 _ _ Jg,by rw[List.take_zero,List.filterMap_nil,gU];exact Rk.mono λl xs g=>s4 _ _ g,htv,s4 _ _ zi⟩ (λ_ _ H' _ h=>.of (h.1 _ _ gl)) ?_ ?_⟩
    ·rintro j v σ H5 hv ⟨Cp,s9,eY,Cq,rfl,Cr,wo,Cs,Ct⟩;rw[fw]at hv;obtain⟨x,hx,rfl⟩:=lj.mp hv;dsimp only[bY];have new:=adm (p:=p) (d:=d) nd (i:=i) (d':=cw e) hx;have Rm:rs.take (j+1)=rs.take j++[x]:=by rw[rP,hx];rfl
     refine⟨_,rfl,_,rfl,_,rfl,_,rfl,_,rfl,p,x,tv,cw e,pa,cl,rfl,Cs,ft we,v8 e,by lia,pp,Ct,pB.mono Cp,λx A B h=>acE h,λv2 H6 s6 ho=>?_⟩;dsimp only[bY];have vR:=Cp.trans s6;cases hf:iw p gM x (cw e) with
     |none=>
      rw[hf]at ho;have ho:v2=.cC:=ho;subst ho;refine⟨_,rfl,rfl,_,rfl,kc (by simp) ?_⟩;refine⟨vR,_,_,Cq,rfl,s6 _ _ Cr,?_,Cs.tup s6.tup,s6 _ _ Ct⟩;rw[Rm,List.filterMap_append,zA,show lV p d i (cw e) x=none by unfold lV;rw[hf];rfl];simpa using wo.mono λl xs g=>s6 _ _ g
     |some Y=>
      rw[hf]at ho;have ho:cy K H6 v2 Y:=ho;have fo:=Je pp (by lia) (ft we) hf;have fo1:=fo.dep;have fo2:=fo.len;have tJ:∃a,v2=.ref a:=by cases ho<;>exact⟨_,rfl⟩
      obtain⟨a2,rfl⟩:=tJ;refine⟨_,rfl,rfl,_,rfl,ka (by simp) ?_⟩;refine⟨_,rfl,_,rfl,_,rfl,aw,_,rfl,.of (vR _ _ gw),λc1 h1=>?_⟩;rw[N0 (by lia)];have t1:=bh.upd (o:=.lst ((cw d).bb.take i)) h1;have g1:(upd H6 c1 (.lst ((cw d).bb.take i))) c1=some (.lst ((cw d).bb.take i)):=bz;generalize upd H6 c1 (.lst ((cw d).bb.take i))=H7 at t1 g1 |-;refine⟨_,rfl,p,_,Y,rfl,ho.tup t1.tup,fo.ok,by lia,by lia,λc2 H8 s8 g2=>?_⟩;refine⟨c1,c2,_,_,rfl,rfl,s8 _ _ g1,g2,by rw[oH];lia,λc3 h3=>?_⟩;have t3:=bh.upd (o:=.lst ((cw d).bb.take i++Y.bb)) h3;have g3:(upd H8 c3 (.lst ((cw d).bb.take i++Y.bb))) c3=some (.lst ((cw d).bb.take i++Y.bb)):=bz;generalize upd H8 c3 (.lst ((cw d).bb.take i++Y.bb))=H9 at t3 g3 |-;have Rn:=t1.trans (s8.trans t3);refine⟨_,rfl,_,rfl,_,rfl,aw,_,rfl,.of ((vR.trans Rn) _ _ gw),λc4 h4=>?_⟩;rw[N1 (by lia)];have t4:=bh.upd (o:=.lst ((cw d).bb.drop (i+(cw e).bb.length))) h4;have g4:(upd H9 c4 (.lst ((cw d).bb.drop (i+(cw e).bb.length)))) c4=some (.lst ((cw d).bb.drop (i+(cw e).bb.length))):=bz;generalize upd H9 c4 (.lst ((cw d).bb.drop (i+(cw e).bb.length)))=Ha at t4 g4 |-;refine⟨c3,c4,_,_,rfl,rfl,t4 _ _ g3,g4,by rw[cL,oH,nK];lia,λc5 h5=>?_⟩;have t5:=bh.upd (o:=.lst (((cw d).bb.take i++Y.bb)++(cw d).bb.drop (i+(cw e).bb.length))) h5;have g5:(upd Ha c5 (.lst (((cw d).bb.take i++Y.bb)++(cw d).bb.drop (i+(cw e).bb.length)))) c5=some (.lst (zg d i (cw e) Y)):=bz;generalize upd Ha c5 (.lst (((cw d).bb.take i++Y.bb)++(cw d).bb.drop (i+(cw e).bb.length)))=Hb at t5 g5 |-;refine⟨_,rfl,_,rfl,_,rfl,by show 2<=sizeLine;lia,λtt htt=>?_⟩;have t6:=bh.upd (o:=.tup [.int (i:Int),.str x]) htt;have zj:(upd Hb tt (.tup [.int (i:Int),.str x])) tt=some (.tup ((jq ((i:Int),x)).map kV)):=bz;generalize upd Hb tt (.tup [.int (i:Int),.str x])=Hz at t6 zj |-;have zk:=Rn.trans (t4.trans (t5.trans t6));have gc:=t6 _ _ g5;have Jh:=zk _ _ (s6 _ _ Cr);refine⟨tb,_,rfl,nS.t (k:=jq ((i:Int),x)) Jh zj (by have:=Paired.length wo;have:=ado p d rs i j (cw e);have:=Nat.mul_le_mul (show i<=100 by lia) eV;have:=(fO.mp hx).1;lia),?_⟩;have Ro:=wo.mono λl xs g=>zk _ _ (s6 _ _ g);rw[AF _ (Ro.new new)];have Ji:∀l xs,Hz l=some (.lst xs)->(upd Hz tb (.dT (Cq++[(jq ((i:Int),x),.ref c5)]))) l=some (.lst xs):=λl xs g=>by rw[cH (λy=>by rw[y,Jh]at g;cases g)];exact g
      refine⟨(vR.trans zk).put Ri,_,_,_,rfl,bz,?_,(Cs.tup (s6.trans zk).tup).tup (df.dT Jh),Ji _ _ (zk _ _ (s6 _ _ Ct))⟩;rw[Rm,List.filterMap_append,<- fg,zA,show lV p d i (cw e) x=some (((i:Int),x),zg d i (cw e) Y) by unfold lV;rw[hf];rfl];exact(Ro.mono Ji).snoc (k:=((i:Int),x)) (Ji _ _ gc)
    ·rintro σ H5 ⟨Cp,s9,eY,Cq,rfl,Cr,wo,Cs,Ct⟩;refine⟨Cp,_,_,_,_,_,_,Cq,rfl,Cr,?_⟩;rw[wI,oJ,iz,eR];rw[cB,uo]at wo;simpa using wo
  ·rintro σ H1 ⟨sm,s5,s6,s7,s8,s9,eY,bf,rfl,gt,hT⟩;exact⟨_,rfl,q tb bf H1 sm gt hT⟩
theorem Rp{K:Frag}{H:Hp}:∀{vs:List V}{ds:List D1.Dr},fH H vs ds->iq K H vs (ds.map λd=>.list (d.bb.map rq))
 | [],[],_=>.nil
 | [],_::_,h=>nomatch h.1
 |_::_,[],h=>nomatch h.1
 |v::vs,d::ds,h=>by
  obtain⟨b,rfl,hb⟩:=h.2 0 v d rfl rfl;exact .cons (.list (.of hb) (Iz _)) (Rp ⟨Nat.succ.inj h.1,λi v d e1 e2=>h.2 (i+1) v d e1 e2⟩)
theorem adq(ds:List D1.Dr):kqdOk 8 (.list (ds.map λd=>.list (d.bb.map rq)))=true:=by
 unfold kqdOk;refine fh.mpr λy hy=>?_;obtain⟨d,_,rfl⟩:=lh.mp hy;exact(kqd_all (abG d)).2
section
variable{σ:St}{H:Hp}
def zo(ta:TA)(σ:St)(H:Hp)(ds:List D1.Dr):Prop:=∀H',bh H H'->∀Q:List V->Hp->Prop,(∀vs dY,bh H' dY->fH dY vs ds->Q vs dY)->ta σ H' Q
theorem Rq:zo bQ σ H []:=λH' _ _ q=>q [] H' (.refl _) ⟨rfl,λi v d e=>by cases e⟩
theorem fH.cons{a:Addr}{vs:List V}(h:WL H a d)(r:fH H vs ds):fH H (.ref a::vs) (d::ds):=fH.append (fH.one h) r
theorem rE{te:TE}{ta:TA}(h:t8 te σ H d.bb)(k:zo ta σ H ds):zo (bo te ta) σ H (d::ds):=λH' s Q q=>
 h H' s _ λa H1 s1 ga=>k H1 (s.trans s1) _ λvs H2 s2 hv=>q _ H2 (s1.trans s2) (fH.cons (s2 _ _ ga) hv)
end
def Rr(_K:Frag):Sp:=λvs H Q _=>∃(a:Addr)(d:D1.Dr),vs=[.ref a]/\WT H a d/\∀f g H',bh H H'->WT H' f g->(g=.id\/(g=d/\d.l<=2/\d.r<=2))->Q (.ref f) H'
theorem ads:dD ["one"] ["one"] (cN Fq):=dU rfl rfl rfl (by decide +kernel) rfl
theorem adt(F:c9 K "_law_small" "_law_small" Fq f fd):ck P w K mg base cA 1 f fd ["one"] (Rr K):=by
 refine F.ok ads (λvs H Q E h=>?_) (λcI A outer s H vs Q E hr h=>?_)
 ·obtain⟨a,d,rfl,_⟩:=h;rfl
 ·obtain⟨a,d,rfl,⟨b,ga,gb⟩,q⟩:=h;have z:=kq;refine⟨_,bD (cO (PW.pt (wQ (cj uM (bO (de K rfl) (pv 0) bp) bp (cm _)) (DB (cj uM (bO (de K rfl) (pv 0) bp) bp (cm _))))) (bK (cE (cK (bg (cK (bg bI bq)) (bg bp (bg bp bq)))))) cW) (bK (cE (pv 0))),?_⟩;have e1:∀R:Prop,(R->R):=λ_ h=>h;have Rt:∀(H':Hp),bh H H'->1<=sizeLine/\∀l0,H' l0=none->3<=sizeLine/\∀l1,(upd H' l0 (.lst [.str (Str.ofString "id")])) l1=none->Q (.ref l1) (upd (upd H' l0 (.lst [.str (Str.ofString "id")])) l1 (.lst [.ref l0,.int 1,.int 1])):=λH' s'=>
   ⟨by lia,λl0 h0=>⟨by lia,λl1 h1=>q l1 .id _ (s'.trans ((bh.upd h0).trans (.upd h1))) ⟨l0,bz,bh.upd h1 _ _ bz⟩ (.inl rfl)⟩⟩
  refine⟨_,rfl,a,_,1,_,rfl,rfl,.of ga,cc (j:=1) rfl,_,_,rfl,rfl,_,rfl,?_⟩;by_cases h1:(2:Int)<d.l
  ·rw[aG h1];exact eE (eE (Rt H (.refl _)))
  rw[aa h1];refine dE ⟨_,rfl,a,_,2,_,rfl,rfl,.of ga,cc (j:=2) rfl,_,_,rfl,rfl,_,rfl,?_⟩;by_cases h2:(2:Int)<d.r
  ·rw[aG h2];exact eE (Rt H (.refl _))
  rw[aa h2];exact dE ⟨_,rfl,q a d H (.refl _) ⟨b,ga,gb⟩ (.inr ⟨rfl,by lia,by lia⟩)⟩
theorem adu{b pl:Addr}{PS:List V}(h:WL H b d)(g:H pl=some (.lst PS))(hP:fH H PS ds):b≠pl:=λe=>by
 obtain⟨x,r,hw⟩:=abE d;have h':H b=some (.lst (d.bb.map dO)):=h;rw[e,g,hw]at h';have e2:PS=dO (.w x)::r.map dO:=by cases h';rfl
 have hl:=hP.1;rw[e2]at hl;cases ds with
 |nil=>cases hl
 |cons d0 ds=>
  obtain⟨c,z,_⟩:=hP.2 0 (dO (.w x)) d0 (by rw[e2];rfl) rfl;cases z
theorem WL.put{b pl:Addr}{PS:List V}{o:HO}(h:WL H b d)(g:H pl=some (.lst PS))(hP:fH H PS ds):WL (upd H pl o) b d:=by
 show(upd H pl o) b=_;rw[cH (adu h g hP)];exact h
theorem fH.put{H:Hp}{pl:Addr}{VS PS:List V}{es ds:List D1.Dr}{o:HO}(h:fH H VS es)(g:H pl=some (.lst PS))(hP:fH H PS ds):fH (upd H pl o) VS es:=
 ⟨h.1,λi v d e1 e2=>let ⟨b,e,hb⟩:=h.2 i v d e1 e2;⟨b,e,hb.put g hP⟩⟩
structure Cu(p:Int)(d:D1.Dr):Prop where
 wf:d.wf p
 c8:d.c8 64
 len:d.bb.length<=3
 l:d.l=1
 r:d.r<=1
noncomputable def Cv(p c:Int):List D1.Dr:=[.id,.times (c/5%p),.back .none,.fin,.back (.times ((c/5+1)%p))]
theorem adv{c:Int}(p0:0<p)(h:(Cv p c)[i]?=some d):Cu p d:=by
 have hm:=iO h;have h1:=nN (c/5) (show p≠0 by lia);have h2:=nO (c/5) p0;have h3:=nN (c/5+1) (show p≠0 by lia);have h4:=nO (c/5+1) p0;simp only[Cv,dI,uq,or_false]at hm;rcases hm with rfl|rfl|rfl|rfl|rfl
 ·exact⟨True.intro,True.intro,by decide,rfl,by decide⟩
 ·exact⟨⟨h1,h2⟩,True.intro,by show 2<=3;decide,rfl,by show 1<=1;decide⟩
 ·exact⟨True.intro,True.intro,by decide,rfl,by decide⟩
 ·exact⟨True.intro,True.intro,by decide,rfl,by decide⟩
 ·exact⟨⟨h3,h4⟩,True.intro,by show 3<=3;decide,rfl,by show 1<=1;decide⟩
theorem Ru{p:Int}:∀{ds:List D1.Dr},(∀d∈ds,Cu p d)->D1.j4 ds=ds.length/\D1.kx ds<=ds.length
 | [],_=>⟨rfl,cF _⟩
 |d::ds,h=>by
  obtain⟨i1,i2⟩:=Ru (ds:=ds) λx hx=>h x (e9 _ hx);have hd:=h d c6
  have:=hd.l
  have:=hd.r
  refine⟨?_,?_⟩
  ·show d.l+D1.j4 ds=ds.length+1;lia
  ·show d.r+D1.kx ds<=ds.length+1;lia
structure Jj(p:Int)(m:Nat)(g:D1.Dr):Prop where
 wf:g.wf p
 c8:g.c8 64
 len:g.bb.length<=15
 l:g.l=m
 r:g.r<=4
theorem adw{m:Nat}{es:List D1.Dr}(h:∀x∈es++[d],Cu p x)(hm:(es++[d]).length=m)(m2:m<=4):Jj p m (D1.nq (es++[d])):=by
 obtain⟨h1,h2⟩:=Ru h;refine⟨D1.FC _ λx hx=>(h x hx).wf,D1.FD _ (λx hx=>(h x hx).c8) (by lia),?_,by rw[D1.xS,h1,hm],by rw[D1.xT];lia⟩;rw[D1.A0,cL]
 have:=D1.xR (B:=3) es λe he=>(h e (rL _ he)).len
 have:=(h d (jU _ c6)).len
 rw[cL,List.length_singleton]at hm
 have:es.length*(3+1)<=3*4:=Nat.mul_le_mul_right _ (by lia)
 lia
noncomputable def Cw:List D1.Dr:=[.empty,.none,.gZ]
theorem adx(h:Cw[i]?=some d):Jj p 0 d:=by
 have hm:=iO h;simp only[Cw,dI,uq,or_false]at hm;rcases hm with rfl|rfl|rfl;all_goals exact⟨True.intro,True.intro,by decide,rfl,by decide⟩
theorem Rw{α:Type}{xs:List α}(hl:xs.length=n)(hn:0<n)(c:Int):∃(i:Nat)(x:α),xs[i]?=some x/\(c%(n:Int))=(i:Int):=by
 have h1:=nN c (show(n:Int)≠0 by lia);have h2:=nO c (show(0:Int)<n by lia);have h3:(c%(n:Int)).toNat<xs.length:=by lia
 exact⟨(c%(n:Int)).toNat,xs[(c%(n:Int)).toNat],gk h3,by lia⟩
def Jk:TA:=bo (cP (bo (tS "id") bQ)) (bo (cP (bo (tS "times") (bo (bw g6 (bw ji (br 2) (tC (.int 5))) (br 0)) bQ))) (bo (cP (bo (tS "back") (bo (tS "none") bQ))) (bo (cP (bo (tS "end") bQ)) (bo (cP (bo (tS "back") (bo (tS "times") (bo (bw g6 (bw (dZ λi j=>.int (i+j)) (bw ji (br 2) (tC (.int 5))) (tC (.int 1))) (br 0)) bQ)))) bQ))))
def Jl:TA:=bo (cP (bo (tS "empty") bQ)) (bo (cP (bo (tS "none") bQ)) (bo (cP (bo (tS "cup") bQ)) bQ))
theorem ady{c:Int}(h0:σ[0]?=some (some (.int p)))(h2:σ[2]?=some (some (.int c)))(p0:0<p):zo Jk σ H (Cv p c):=
 rE (d:=.id) (nE (kQ nC) (by decide)) (rE (d:=.times (c/5%p)) (nE (kQ (Qm (λ_ _ q=>⟨_,h2,c,5,rfl,rfl,⟨by decide,by decide⟩,_,h0,c/5,p,rfl,rfl,p0,q⟩) nC)) (by show 2<=100;decide)) (rE (d:=.back .none) (nE (kQ (kQ nC)) (by decide)) (rE (d:=.fin) (nE (kQ nC) (by decide)) (rE (d:=.back (.times ((c/5+1)%p))) (nE (kQ (kQ (Qm (λ_ _ q=>⟨_,h2,c,5,rfl,rfl,⟨by decide,by decide⟩,_,_,rfl,rfl,_,h0,c/5+1,p,rfl,rfl,p0,q⟩) nC))) (by show 3<=100;decide)) Rq))))
theorem adz:zo Jl σ H Cw:=
 rE (d:=.empty) (nE (kQ nC) (by decide)) (rE (d:=.none) (nE (kQ nC) (by decide)) (rE (d:=.gZ) (nE (kQ nC) (by decide)) Rq))
def Jm(K:Frag):TS:=cu (cR (cP Jk) (bY 5)) (cu (r6 (o4 K "list" uZ (br 3) (bo (bw (gJ K) (br 5) (bw g6 (br 2) (tC (.int 5)))) bQ))) (cR (bw (dZ λi j=>.int (i+j)) (bw ji (br 2) (tC (.int 7))) (br 4)) (bY 2)))
def Jn(K:Frag)(E:XK):TS:=cu (cR (cP bQ) (bY 3)) (cu (DJ (DI (bo (br 1) bQ)) (bY 4) (Jm K)) (cu (cU (eM (bw (o8 K false) (br 3) (cP bQ))) (dG (bw (gJ K) (cP Jl) (bw g6 (br 2) (tC (.int 3))))) eA) (dG (ij (sT K) [] E (bo (br 3) bQ)))))
def Cy(_K:Frag):Sp:=λvs H Q _=>∃(p c:Int)(m:Nat),vs=[.int p,.int (m:Int),.int c]/\p∈eZ/\m<=4/\∀f g H',bh H H'->WL H' f g->Jj p m g->Q (.ref f) H'
theorem zp:dD ["p","many","cell","parts","k","some"] ["p","many","cell"] (cN Fp):=dU rfl rfl rfl (by decide +kernel) rfl
theorem adA{fB:Addr}{xZ:FuncData}(F:c9 K "_law_from" "_law_from" Fp f fd)(T:Txt mg)
  (GB:ck P w K mg base cA 1 fB xZ ["parts"] (sT K)) (kB:Kp K fB) (bB:Binds K xZ ["parts"] []) (mB:Mg mg "_law_beside_all" fB):ck P w K mg base cA 2 f fd ["p","many","cell"] (Cy K):=by
 refine F.ok zp (λvs H Q E h=>?_) (λcI A outer s H vs Q E hr h=>?_)
 ·obtain⟨p,c,m,rfl,_⟩:=h;rfl
 ·obtain⟨p,c,m,rfl,pp,m2,q⟩:=h;have hu:=hr.units;have z:=kq;have p0:0<p:=by have:=(pX p pp).1;lia
  refine⟨Jn K E,?_,?_⟩
  ·unfold Jn;refine bD ?_ ?_
   ·exact cx (i:=3) zp.nd rfl (.inl rfl) (cK bq)
   refine bD ?_ ?_
   ·refine lx lq rfl ?_ ?_ ?_
    ·exact qA rfl T.range (bg (pv 1) bq)
    ·exact eL (i:=4) zp.nd rfl (.inl rfl)
    unfold Jm;refine bD ?_ ?_
    ·refine cx (i:=5) ?_ ?_ ?_ ?_ ?_ ?_
     ·exact zp.nd
     ·rfl
     ·exact Or.inl rfl
     ·refine cK ?_;unfold Jk;refine bg ?_ ?_ ?_
      ·exact cK (bg bI bq)
      rotate_left
      ·rfl
      refine bg ?_ ?_ ?_
      ·exact cK (bg bI (bg (bH eI (bH gE (pv 2) bp) (pv 0)) bq))
      rotate_left
      ·rfl
      refine bg ?_ ?_ ?_
      ·exact cK (bg bI (bg bI bq))
      rotate_left
      ·rfl
      refine bg ?_ ?_ ?_
      ·exact cK (bg bI bq)
      rotate_left
      ·rfl
      refine bg ?_ ?_ ?_
      ·exact cK (bg bI (bg bI (bg (bH eI (bH gC (bH gE (pv 2) bp) bp) (pv 0)) bq)))
      ·exact bq
      ·rfl
     ·rfl
     ·exact .inl rfl
    refine bD ?_ ?_
    ·exact l7 (jv ll rQ rR pV (pv 3) (bg (bO (de K rfl) (pv 5) (bH eI (pv 2) bp)) bq))
    ·exact bK (cx (i:=2) zp.nd rfl (.inl rfl) (bH gC (bH gE (pv 2) bp) (pv 4)))
   refine bD ?_ ?_
   ·refine cO ?_ ?_ ?_
    ·exact cj (L8 K rfl hu) (pv 3) (cK bq) (cm _)
    ·refine bK ?_;refine cE ?_;refine bO (de K rfl) ?_ ?_ ?_
     ·refine cK ?_;unfold Jl;refine bg ?_ ?_ ?_
      ·exact cK (bg bI bq)
      rotate_left
      ·rfl
      refine bg ?_ ?_ ?_
      ·exact cK (bg bI bq)
      rotate_left
      ·rfl
      refine bg ?_ ?_ ?_
      ·exact cK (bg bI bq)
      ·exact bq
      ·rfl
     ·exact bH eI (pv 2) bp
     ·exact λ_ _=>rfl
    ·exact cW
   ·exact bK (cE (cZ GB hr rfl mB kB bB .nil cX (bg (pv 3) bq)))
  unfold Jn;refine⟨by decide,λpl ik=>?_⟩;refine⟨_,rfl,_,rfl,by lia,by lia,w6 (n:=m) (λi σ H'=>bh H H'/\∃(c':Int)(PS:List V)(ds:List D1.Dr)(s4 s5:Option V),σ=[some (.int p),some (.int (m:Int)),some (.int c'),some (.ref pl),s4,s5]/\H' pl=some (.lst PS)/\fH H' PS ds/\ds.length=i/\∀d∈ds,Cu p d) ⟨.upd ik,c,[],[],none,none,rfl,bz,⟨rfl,λi v d e=>by cases e⟩,rfl,λd hd=>by cases hd⟩ ?_ ?_⟩
  ·rintro k σ H1 hk ⟨sm,c',PS,ds,s4,s5,rfl,gP,hP,hd,ok⟩;rw[Int.zero_add];dsimp only[bY];unfold Jm;refine fz (ady rfl rfl p0 H1 (.refl _) _ λvs H2 s2 hv=>⟨by rw[hv.1];exact dj (by decide:5<=1000) z,λl5 h5=>?_⟩);obtain⟨i,d,hi,ei⟩:=Rw (xs:=Cv p c') (n:=5) rfl (by decide) c';obtain⟨v,zq⟩:∃v,vs[i]?=some v:=⟨_,gk (by rw[hv.1];exact(fO.mp hi).1)⟩;obtain⟨b,rfl,hb⟩:=hv.2 i v d zq hi;have s3:=s2.trans (bh.upd h5 (o:=.lst vs));have Rx:WL (upd H2 l5 (.lst vs)) b d:=bh.upd h5 _ _ hb;have g5:(upd H2 l5 (.lst vs)) l5=some (.lst vs):=bz;generalize upd H2 l5 (.lst vs)=H3 at s3 Rx g5 |-;have Cz:=s3 _ _ gP;have Jo:=hP.mono s3;refine⟨_,rfl,.inl ⟨rfl,_,.of Cz⟩,_,rfl,_,rfl,c',5,rfl,rfl,show(0:Int)<5 by decide,l5,vs,(c' % 5),.ref b,rfl,rfl,.of g5,by rw[show(c' % 5:Int)=(i:Int) from ei];exact cc zq,pl,PS,.ref b,rfl,rfl,Cz,by rw[hP.1,hd];lia,?_⟩
   refine⟨_,rfl,c',7,rfl,rfl,⟨by decide,by decide⟩,_,rfl,_,_,rfl,rfl,?_⟩;refine⟨(sm.trans s3).put ik,_,PS++[.ref b],ds++[d],_,_,rfl,bz,(Jo.put Cz Jo).append (.one (Rx.put Cz Jo)),by rw[cL,hd];rfl,λx hx=>?_⟩;rcases(iG.mp hx)with(hx|hx)
   ·exact ok x hx
   ·rw[dP.mp hx];exact adv p0 hi
  ·rintro σ H1 ⟨sm,c',PS,ds,s4,s5,rfl,gP,hP,hd,ok⟩;refine⟨_,rfl,by decide,λl0 h0=>?_⟩;have sA:=sm.trans (bh.upd h0 (o:=.lst []));have Jp:=bh.upd h0 (o:=.lst []) _ _ gP;have Jq:=hP.mono (bh.upd h0 (o:=.lst []));refine⟨.list (ds.map λd=>.list (d.bb.map rq)),.list [],.list (.of Jp) (Rp Jq),.list (.of bz) .nil,adq ds,rfl,_,rfl,?_⟩;generalize upd H1 l0 (.lst [])=H2 at sA Jp Jq |-;rcases List.eq_nil_or_concat ds with hn|⟨es,d,hn⟩
   ·subst hn;have m0:m=0:=by rw[<- hd];rfl
    subst m0;rw[ae (by simp)];refine Nj (n8 (lstK ?_));refine adz H2 (.refl _) _ λvs H3 s3 hv=>⟨by rw[hv.1];exact dj (by decide:3<=1000) z,λl5 h5=>?_⟩;obtain⟨i,d,hi,ei⟩:=Rw (xs:=Cw) (n:=3) rfl (by decide) c';obtain⟨v,zq⟩:∃v,vs[i]?=some v:=⟨_,gk (by rw[hv.1];exact(fO.mp hi).1)⟩;obtain⟨b,rfl,hb⟩:=hv.2 i v d zq hi;refine⟨_,rfl,c',3,rfl,rfl,show(0:Int)<3 by decide,l5,vs,(c' % 3),.ref b,rfl,rfl,.of bz,by rw[show(c' % 3:Int)=(i:Int) from ei];exact cc zq,?_⟩
    exact q b d _ (sA.trans (s3.trans (.upd h5))) (bh.upd h5 _ _ hb) (adx hi)
   ·rw[List.concat_eq_append]at hn;subst hn;rw[af (by simp)];obtain⟨VS,b,es',d',e1,e2,h1,h2⟩:=Jq.last (by simp);rw[e2]at hd ok;refine⟨_,rfl,pl,b,VS,es',d',rfl,by rw[Jp,e1],h1,h2,?_,λe he=>dj (ok e (rL _ he)).len (by decide),dj (ok d' (jU _ c6)).len (by decide),λc2 H' s' hc=>q c2 _ H' (sA.trans s') hc (adw ok hd m2)⟩;rw[cL,List.length_singleton]at hd;lia
def wq(_K:Frag):Sp:=λvs H Q _=>∃(dk cl:Addr)(cs:List Int)(n:Nat),vs=[.ref dk]/\H dk=some (.lst [.ref cl,.int (n:Int)])/\H cl=some (.lst (cs.map V.int))/\cs.length<=63/\n<=1000/\
 ∀(c:Int) H',(∀b o,b≠dk->H b=some o->H' b=some o)->H' dk=some (.lst [.ref cl,.int ((n+1:Nat):Int)])->Q (.int c) H'
theorem Jr:dD ["deck","cells","at"] ["deck"] (cN E6):=dU rfl rfl rfl (by decide +kernel) rfl
theorem Js(F:c9 K "_law_next" "_law_next" E6 f fd)(T:Txt mg):ck P w K mg base cA 1 f fd ["deck"] (wq K):=by
 refine F.ok Jr (λvs H Q E h=>?_) (λcI A outer s H vs Q E hr h=>?_)
 ·obtain⟨dk,cl,cs,n,rfl,_⟩:=h;rfl
 ·obtain⟨dk,cl,cs,n,rfl,gd,gc,hl,hn,q⟩:=h;have ecl:(cs.map V.int).length=cs.length:=cB _;refine⟨_,bD (cx (i:=1) Jr.nd rfl (.inl rfl) (bO (de K rfl) (pv 0) bp)) (bD (cx (i:=2) Jr.nd rfl (.inl rfl) (bO (de K rfl) (pv 0) bp)) (bD (uJ (bH gC (pv 2) bp) (TR (pv 0) bp UI)) (bD (cO (cj DU (pv 2) (gu (ko K rfl) rfl T.len j3 (bg (pv 1) bq)) (cm _)) (bK (cE (bO (de K rfl) (pv 1) (pv 2)))) cW) (bD (cO (cj cS (gu (ko K rfl) rfl T.len j3 (bg (pv 1) bq)) bp (cm _)) (bK (cE (bH gC (bH qC (bH qC (pv 2) (pv 2)) bp) (pv 2)))) cW) (bK (cE (bH gC (bH gE (bO (de K rfl) (pv 1) (bH eI (pv 2) (gu (ko K rfl) rfl T.len j3 (bg (pv 1) bq)))) bp) (bH qC (pv 2) (pv 2))))))))),?_⟩;refine⟨_,rfl,dk,_,0,.ref cl,rfl,rfl,.of gd,cc (j:=0) rfl,_,rfl,dk,_,1,.int (n:Int),rfl,rfl,.of gd,cc (j:=1) rfl,?_⟩;refine⟨_,rfl,_,_,rfl,rfl,?_⟩;refine⟨_,rfl,dk,_,1,1,rfl,rfl,gd,rfl,?_⟩;have nc:cl≠dk:=λe=>by
   rw[e,gd]at gc;injection gc with gc;injection gc with gc;cases cs with
   |nil=>cases gc
   |cons x cs=>injection gc with g1 _;cases g1
  have tV:(upd H dk (.lst [.ref cl,.int ((n:Int)+1)])) dk=some (.lst [.ref cl,.int ((n+1:Nat):Int)]):=by rw[bz,Int.natCast_add];rfl
  have wu:(upd H dk (.lst [.ref cl,.int ((n:Int)+1)])) cl=some (.lst (cs.map V.int)):=by rw[cH nc];exact gc
  have sB:∀b o,b≠dk->H b=some o->(upd H dk (.lst [.ref cl,.int ((n:Int)+1)])) b=some o:=λb o hb e=>by rw[cH hb];exact e
  show cu _ _ _ _ (upd H dk (.lst [.ref cl,.int ((n:Int)+1)]));generalize upd H dk (.lst [.ref cl,.int ((n:Int)+1)])=H1 at tV wu sB |-;refine⟨_,rfl,_,rfl,cl,_,rfl,.inl (.of wu),_,_,rfl,rfl,_,rfl,lC (λh=>?_) (λh=>?_)⟩
  ·have cY:n<cs.length:=by have:=aM h;lia
   exact⟨_,rfl,_,rfl,cl,_,(n:Int),_,rfl,rfl,.of wu,cc (ML cY),q _ H1 sB tV⟩
  ·have NL:cs.length<=n:=by
    have:¬(n:Int)<((cs.map V.int).length:Int):=λz=>h (aG z)
    lia
   refine⟨_,rfl,cl,_,rfl,.inl (.of wu),rfl,_,rfl,lC (λh0=>?_) (λh0=>?_)⟩
   ·exact⟨_,rfl,_,rfl,_,_,rfl,rfl,.inl ⟨by lia,by lia⟩,_,_,rfl,rfl,.inr ⟨by decide,by decide⟩,_,rfl,_,_,rfl,rfl,q _ H1 sB tV⟩
   ·have aeq:0<cs.length:=by
     rcases Nat.eq_zero_or_pos cs.length with z|z
     ·exact absurd (aG (ai V.int (by lia))) h0
     ·exact z
    have hm1:=nN (n:Int) (show((cs.map V.int).length:Int)≠0 by lia);have hm2:=nO (n:Int) (show(0:Int)<((cs.map V.int).length:Int) by lia);obtain⟨k,hk⟩:∃k:Nat,(n:Int)%((cs.map V.int).length:Int)=(k:Int):=⟨((n:Int)%((cs.map V.int).length:Int)).toNat,by lia⟩;refine⟨_,rfl,_,rfl,_,rfl,cl,_,rfl,.inl (.of wu),_,_,rfl,rfl,(by show(0:Int)<((cs.map V.int).length:Int);lia),cl,_,(k:Int),_,rfl,ai V.int hk,.of wu,cc (ML (show k<cs.length by lia)),?_⟩;exact⟨_,_,rfl,rfl,⟨by decide,by decide⟩,_,rfl,_,rfl,_,_,rfl,rfl,.inl ⟨by lia,by lia⟩,_,_,rfl,rfl,q _ H1 sB tV⟩
structure JD(p:Int)(d:D1.Dr):Prop where
 wf:d.wf p
 len:d.bb.length<=80
 mc:mc d<64
 dep:(cw d).dep<=58
theorem Jt(hd:d.wf p)(h:d.bb.length<=58):JD p d:=by
 have h1:=ud d;have h2:=t9 (cw d);rw[mI]at h1 h2;exact⟨hd,by lia,by lia,by lia⟩
noncomputable def pH(d:D1.Dr):Nat->D1.Dr
 |0=>d
 |n+1=>.bt .empty (pH d n)
theorem Ry{p:Int}{d:D1.Dr}(h:d.wf p):∀n,(pH d n).wf p
 |0=>h
 |n+1=>⟨True.intro,Ry h n⟩
theorem Rz(d:D1.Dr):∀n,mc (pH d n)=n+mc d
 |0=>(Nat.zero_add _).symm
 |n+1=>by
  show 1+(0+mc (pH d n))=_;rw[Rz d n];lia
theorem RA(d:D1.Dr):∀n,cw (pH d n)=B6 (cw d) n
 |0=>rfl
 |n+1=>by
  show Dw.bt _ (cw (pH d n))=Dw.bt _ _;rw[RA d n];rfl
theorem Ju(d:D1.Dr):∀n,(pH d n).bb.map dO=(List.replicate n [V.str (Str.ofString "beside"),.str (Str.ofString "empty")]).flatten++d.bb.map dO
 |0=>rfl
 |n+1=>by
  rw[wH,zC,fg,<- Ju d n];rfl
theorem adB(hd:d.wf p)(h:d.bb.length<=28)(hn:2*n+d.bb.length<=80):JD p (pH d n):=by
 have h1:=ud d;have h2:=t9 (cw d);have h3:=Qo (cw d) n;rw[mI]at h1 h2;have h4:=ai List.length (Ju d n);rw[cL,cB,cB,Ee]at h4;have h4:(pH d n).bb.length=n*2+d.bb.length:=h4;exact⟨Ry hd n,by lia,by rw[Rz];lia,by rw[RA];lia⟩
def i3(k:Addr)(H H':Hp):Prop:=∀b o,b≠k->H b=some o->H' b=some o
theorem i3.of{k:Addr}(s:bh H H'):i3 k H H':=λb o _ e=>s b o e
theorem i3.trans{k:Addr}{H1 H2:Hp}(a:i3 k H H1)(b:i3 k H1 H2):i3 k H H2:=λc o hc e=>b c o hc (a c o hc e)
structure Dk(H:Hp)(dk cl:Addr)(cs:List Int)(n:Nat):Prop where
 gd:H dk=some (.lst [.ref cl,.int (n:Int)])
 gc:H cl=some (.lst (cs.map V.int))
 ne:cl≠dk
 hl:cs.length<=63
theorem Dk.mono{cs:List Int}(h:Dk H dk cl cs n)(s:bh H H'):Dk H' dk cl cs n:=⟨s _ _ h.gd,s _ _ h.gc,h.ne,h.hl⟩
theorem Dk.next{cs:List Int}(h:Dk H dk cl cs n)(s:i3 dk H H')(g:H' dk=some (.lst [.ref cl,.int ((n+1:Nat):Int)])):Dk H' dk cl cs (n+1):=⟨g,s _ _ h.ne h.gc,h.ne,h.hl⟩
theorem RB(d:D1.Dr):∃x t,d.bb.map dO=V.str x::t:=by cases d<;>exact⟨_,_,rfl⟩
theorem RC{a:Addr}{cs:List Int}(h:Dk H dk cl cs n)(g:WL H a d):a≠dk:=λe=>by
 obtain⟨x,t,ht⟩:=RB d;have g:H a=some (.lst (d.bb.map dO)):=g;rw[e,h.gd,ht]at g;cases g
theorem CA{K:Frag}{a:Addr}(h:σ[i]?=some (some (.ref a)))(g:WT H a d):t8 (bw (gJ K) (br i) (tC (.int 0))) σ H d.bb:=λH' s _ q=>
 let ⟨b,g1,g2⟩:=g
 ⟨_,h,a,_,0,.ref b,rfl,rfl,.of (s _ _ g1),cc (j:=0) rfl,q b H' (.refl _) (s _ _ g2)⟩
def tI(K:Frag)(i:Nat)(j:Int):TE:=bw (gJ K) (br i) (tC (.int j))
def tLA(x y:String):TE:=cP (bo (tS x) (bo (tS y) bQ))
def tLB(x:String):TE:=cP (bo (tS x) bQ)
def Jv(K:Frag):TS:=cu (cR (bw eB (ij (Cy K) [] E0 (bo (br 0) (bo (br 9) (bo (bw ji (br 3) (tC (.int 40))) bQ)))) (ij (Cy K) [] E0 (bo (br 0) (bo (bw (dZ λi j=>.int (i-j)) (br 8) (br 9)) (bo (bw ji (br 3) (tC (.int 90))) bQ))))) (bY 10))
 (dG (bw eB (bw eB (bw eB (bw eB (tLA "then" "beside") (tI K 6 0)) (tI K 7 0)) (tLB "beside")) (br 10)))
def RD(K:Frag):TS:=cu (cR (bw (dZ λi j=>.int (i+j)) (tI K 6 2) (tI K 7 2)) (bY 8)) (cu (cR (bw g6 (bw ji (br 3) (tC (.int 4))) (bw (dZ λi j=>.int (i+j)) (br 8) (tC (.int 1)))) (bY 9)) (cu (cU (eM (bw lz (bw g6 (bw ji (br 3) (tC (.int 20))) (tC (.int 2))) (tC (.int 1)))) (cR (tI K 6 2) (bY 9)) eA) (Jv K)))
section
variable{K:Frag}{D:Ends}{H:Hp}{p c:Int}{dk aw fc f1 f2:Addr}{d g1 g2:D1.Dr}{w:Int}
theorem RE{gY:Nat}(pp:p∈eZ)(h1:WT H f1 g1)(h2:WT H f2 g2)(w1:g1.wf p)(w2:g2.wf p)(l1:g1.bb.length<=9)(l2:g2.bb.length<=9)(hm:g1.r+g2.r<=4)(hf:gY<=g1.r+g2.r){eY:Option V}
  (q:∀a e H',bh H H'->WL H' a e->JD p e->D.rt (.ref a) H'):Jv K D [some (.int p),some (.ref dk),some (.ref aw),some (.int c),some (.int w),some (.ref fc),some (.ref f1),some (.ref f2),some (.int ((g1.r+g2.r:Nat):Int)),some (.int (gY:Int)),eY] H:=by
 have z:=kq;unfold Jv;refine fz (n8 ?_);refine⟨_,rfl,_,rfl,_,rfl,c,40,rfl,rfl,⟨by decide,by decide⟩,p,c/40,gY,rfl,pp,by lia,λa1 e1 H1 s1 u1 o1=>?_⟩;refine⟨_,rfl,_,rfl,_,rfl,_,_,rfl,rfl,_,rfl,c,90,rfl,rfl,⟨by decide,by decide⟩,p,c/90,g1.r+g2.r-gY,?_,pp,by lia,λa2 e2 H2 s2 u2 o2=>?_⟩
 ·show[V.int p,V.int (((g1.r+g2.r:Nat):Int)-(gY:Int)),V.int (c/90)]=_;rw[show((g1.r+g2.r:Nat):Int)-(gY:Int)=((g1.r+g2.r-gY:Nat):Int) by lia]
 ·have y1:=o1.len;have y2:=o2.len;have u1':H2 a1=some (.lst (e1.bb.map dO)):=s2 _ _ u1;have u2':H2 a2=some (.lst (e2.bb.map dO)):=u2;refine⟨a1,a2,_,_,rfl,rfl,u1',u2',by rw[cB,cB];lia,λa3 h3=>?_⟩;have s3:=bh.upd (o:=.lst (e1.bb.map dO++e2.bb.map dO)) h3;have g3:(upd H2 a3 (.lst (e1.bb.map dO++e2.bb.map dO))) a3=some (.lst ((e1.bb++e2.bb).map dO)):=by rw[bz,ig]
  generalize upd H2 a3 (.lst (e1.bb.map dO++e2.bb.map dO))=H3 at s3 g3 |-;have S:=s1.trans (s2.trans s3);have aer:∀{a b:Nat},a<=100->b<=100->a+b<=1000:=λh k=>by lia
  refine rA (ws:=((([.w "then",.w "beside"]++g1.bb)++g2.bb)++[.w "beside"])) (us:=e1.bb++e2.bb) (rA (rA (rA (nE (kQ (kQ nC)) (by decide)) (CA rfl (h1.mono S)) (by simp;lia)) (CA rfl (h2.mono S)) (by simp;lia)) (nE (kQ nC) (by decide)) (by simp;lia)) (Qn rfl g3) (by simp;lia) H3 (.refl _) _ λa H4 s4 g4=>?_;refine q a (.bj (.bt g1 g2) (.bt e1 e2)) H4 (S.trans s4) ?_ (Jt ⟨⟨w1,w2⟩,⟨o1.wf,o2.wf⟩,?_⟩ ?_)
  ·show H4 a=_;rw[g4];simp[D1.Dr.bb]
  ·show g1.r+g2.r=e1.l+e2.l;rw[o1.l,o2.l];lia
  ·simp[D1.Dr.bb];lia
theorem adC(pp:p∈eZ)(h1:WT H f1 g1)(h2:WT H f2 g2)(w1:g1.wf p)(w2:g2.wf p)(l1:g1.bb.length<=9)(l2:g2.bb.length<=9)(hm:g1.r+g2.r<=4){s8 s9 eY:Option V}
  (q:∀a e H',bh H H'->WL H' a e->JD p e->D.rt (.ref a) H'):RD K D [some (.int p),some (.ref dk),some (.ref aw),some (.int c),some (.int w),some (.ref fc),some (.ref f1),some (.ref f2),s8,s9,eY] H:=by
 unfold RD;obtain⟨b1,k1,_⟩:=id h1;obtain⟨b2,k2,_⟩:=id h2;refine fz ⟨_,rfl,f1,_,2,.int (g1.r:Int),rfl,rfl,.of k1,cc (j:=2) rfl,_,rfl,f2,_,2,.int (g2.r:Int),rfl,rfl,.of k2,cc (j:=2) rfl,_,_,rfl,rfl,?_⟩;have m0:=nN (c/4) (show((g1.r+g2.r:Nat):Int)+1≠0 by lia);have m1:=nO (c/4) (show(0:Int)<((g1.r+g2.r:Nat):Int)+1 by lia);obtain⟨gY,xl⟩:∃gY:Nat,c/4%(((g1.r+g2.r:Nat):Int)+1)=(gY:Int):=⟨(c/4%(((g1.r+g2.r:Nat):Int)+1)).toNat,by lia⟩;refine fz ⟨_,rfl,c,4,rfl,rfl,⟨by decide,by decide⟩,_,rfl,_,_,rfl,rfl,c/4,_,rfl,rfl,(by show(0:Int)<(g1.r:Int)+(g2.r:Int)+1;lia),?_⟩;have e1:(c/4%((g1.r:Int)+(g2.r:Int)+1))=(gY:Int):=by rw[<- xl];rfl
 have e2:((g1.r:Int)+(g2.r:Int))=((g1.r+g2.r:Nat):Int):=by lia
 show cu _ _ D [some (.int p),some (.ref dk),some (.ref aw),some (.int c),some (.int w),some (.ref fc),some (.ref f1),some (.ref f2),some (.int ((g1.r:Int)+(g2.r:Int))),some (.int (c/4%((g1.r:Int)+(g2.r:Int)+1))),eY] H;rw[e1,e2];refine⟨_,rfl,c,20,rfl,rfl,⟨by decide,by decide⟩,c/20,2,rfl,rfl,(by decide:(0:Int)<2),rfl,_,rfl,lC (λ_=>?_) (λ_=>?_)⟩
 ·refine⟨_,rfl,f1,_,2,.int (g1.r:Int),rfl,rfl,.of k1,cc (j:=2) rfl,?_⟩;exact RE pp h1 h2 w1 w2 l1 l2 hm (by lia) q
 ·exact RE pp h1 h2 w1 w2 l1 l2 hm (by lia) q
end
theorem CB(ns:List Int)(lo hi:Option Int):∃ms:List Int,iJ (ns.map V.int) lo hi=ms.map V.int/\ms.length<=ns.length:=by
 refine⟨(ns.drop (HT.cQ ns.length 0 lo)).take (HT.cQ ns.length ns.length hi-HT.cQ ns.length 0 lo),?_,?_⟩
 ·unfold iJ;rw[cB,List.map_take,List.map_drop]
 ·rw[oH,nK];lia
noncomputable abbrev nJo:List Str:=["p","deck","words","cell","way","cells","one","other","many","few","row"]
theorem pI:dD ["p","deck","words","cell","way","cells","one","other","many","few","row"] ["p","deck","words"] (cN AR):=dU rfl rfl rfl (by decide +kernel) rfl
theorem njo:(["k","deck"]:List Str).Nodup:=by decide +kernel
def RF(_K:Frag):Sp:=λvs H Q _=>∃(p:Int)(dk cl aw:Addr)(cs:List Int)(n:Nat)(d:D1.Dr),vs=[.int p,.ref dk,.ref aw]/\p∈eZ/\Dk H dk cl cs n/\n<=900/\WL H aw d/\d.wf p/\d.bb.length<=28/\
 ∀a e H',i3 dk H H'->Dk H' dk cl cs (n+10)->WL H' a e->JD p e->Q (.ref a) H'
theorem adD{fN fG fS fF:Addr}{lU zr n6 lO:FuncData}(F:c9 K "_law_joined" "_law_joined" AR f fd)(T:Txt mg)
  (GN:ck P w K mg base cA 1 fN lU ["deck"] (wq K)) (kN:Kp K fN) (bN:Binds K lU ["deck"] []) (mN:Mg mg "_law_next" fN)
  (GG:ck P w K mg base cA 4 fG zr ["p","cells","most"] (FT K)) (kG:Kp K fG) (bG:Binds K zr ["p","cells","most"] []) (mG:Mg mg "_law_grown" fG)
  (GS:ck P w K mg base cA 1 fS n6 ["one"] (Rr K)) (kS:Kp K fS) (bS:Binds K n6 ["one"] []) (mS:Mg mg "_law_small" fS)
  (GF:ck P w K mg base cA 2 fF lO ["p","many","cell"] (Cy K)) (kF:Kp K fF) (bF:Binds K lO ["p","many","cell"] []) (mF:Mg mg "_law_from" fF) :
  ck P w K mg base cA 5 f fd ["p","deck","words"] (RF K):=by
 refine F.ok pI (λvs H Q E h=>?_) (λcI A outer s H vs Q E hr h=>?_)
 ·obtain⟨p,dk,cl,aw,cs,n,d,rfl,_⟩:=h;rfl
 ·obtain⟨p,dk,cl,aw,cs,n,d,rfl,pp,hD,hn,gw,hd,hl,q⟩:=h;have z:(10000:Nat)<=sizeLine:=by decide
  have r1:dS 1 _:=hr.mono (by lia);have r2:dS 2 _:=hr.mono (by lia);refine⟨_,bD (cx (i:=3) pI.nd rfl (.inl rfl) (cZ GN r1 rfl mN kN bN .nil cX (bg (pv 1) bq))) (bD (cx (i:=4) pI.nd rfl (.inl rfl) (bH eI (pv 3) bp)) (bD (Au (i:=5) (N:=["k","deck"]) (own:=1) (caps:=[1]) rfl pI.nd rfl rfl (qA rfl T.range (bg bp bq)) (show j0 nJo (cN AR) ["k","deck"] 1 [1] _ from .mk' (by decide +kernel)) (λ_ _ _ _ _=>eL (i:=0) njo rfl (.inl rfl)) (λ_ _ _ _ _=>xv) (λ_ _ _ _ _=>cZ GN r1 rfl mN kN bN .nil cX (bg (pv 1) bq))) (bD (cx (i:=6) pI.nd rfl (.inl rfl) (cZ GS r1 rfl mS kS bS .nil cX (bg (cZ GG hr rfl mG kG bG .nil cX (bg (pv 0) (bg (jJ (qL K rfl) (pv 5) mf (iS bp)) (bg bp bq)))) bq))) (bD (cx (i:=7) pI.nd rfl (.inl rfl) (cZ GS r1 rfl mS kS bS .nil cX (bg (cZ GG hr rfl mG kG bG .nil cX (bg (pv 0) (bg (jJ (qL K rfl) (pv 5) (iS bp) mf) (bg bp bq)))) bq))) (bD (cO (cj cS (pv 4) bp (cm _)) (bD (cx (i:=8) pI.nd rfl (.inl rfl) (bH gC (bO (de K rfl) (pv 6) bp) (bO (de K rfl) (pv 7) bp))) (bD (cx (i:=9) pI.nd rfl (.inl rfl) (bH eI (bH gE (pv 3) bp) (bH gC (pv 8) bp))) (bD (cO (cj cS (bH eI (bH gE (pv 3) bp) bp) bp (cm _)) (bK (cx (i:=9) pI.nd rfl (.inl rfl) (bO (de K rfl) (pv 6) bp))) cW) (bD (cx (i:=10) pI.nd rfl (.inl rfl) (bH eD (cZ GF r2 rfl mF kF bF .nil cX (bg (pv 0) (bg (pv 9) (bg (bH gE (pv 3) bp) bq)))) (cZ GF r2 rfl mF kF bF .nil cX (bg (pv 0) (bg (bH jZ (pv 8) (pv 9)) (bg (bH gE (pv 3) bp) bq)))))) (bK (cE (bH eD (bH eD (bH eD (bH eD (cK (bg bI (bg bI bq))) (bO (de K rfl) (pv 6) bp)) (bO (de K rfl) (pv 7) bp)) (cK (bg bI bq))) (pv 10)))))))) cW) (bD (cO (PW.pt (fQ (cj cS (pv 4) bp (cm _)) (iB (cj DU (gu (ko K rfl) rfl T.len j3 (bg (pv 2) bq)) bp (cm _))))) (bK (cE (bH eD (bH eD (bH eD (bH eD (cK (bg bI bq)) (pv 2)) (cK (bg bI bq))) (bO (de K rfl) (pv 6) bp)) (bO (de K rfl) (pv 7) bp)))) cW) (bD (cO (PW.pt (fQ (cj cS (pv 4) bp (cm _)) (iB (cj cS (bH eI (bH gE (pv 3) bp) bp) bp (cm _))))) (bK (cE (bH eD (bH xo (cK (bg bI (bg bI bq))) (bH gE (bH jZ bp (gu (ko K rfl) rfl T.len j3 (bg (pv 2) bq))) bp)) (pv 2)))) cW) (bK (cE (pv 2)))))))))),?_⟩
  refine⟨_,rfl,dk,cl,cs,n,rfl,hD.gd,hD.gc,hD.hl,by lia,λc H1 s1 k1=>?_⟩;have rF:=hD.next s1 k1;have rn:WL H1 aw d:=s1 _ _ (RC hD gw) gw;dsimp only[bY];refine⟨_,rfl,c,4,rfl,rfl,(by decide:(0:Int)<4),?_⟩;dsimp only[bY];refine⟨9,rfl,by decide,by decide,?_⟩;refine MH (cp:=[some (.ref dk)]) (n:=(9:Int).toNat) (lo:=0) (λk H' zs=>(∃ns:List Int,zs=ns.map V.int/\ns.length=k)/\i3 dk H1 H'/\Dk H' dk cl cs (n+1+k)) (by show 9<=sizeLine;lia) ⟨⟨[],rfl,rfl⟩,i3.of (.refl _),rF⟩ (λk H' zs h=>by obtain⟨⟨ns,rfl,h2⟩,_⟩:=h;rw[cB,h2];exact cF _) ?_ ?_
  ·rintro k H' zs hk ⟨⟨ns,rfl,sv⟩,sm,CC⟩;have hk:k<9:=hk;refine⟨_,rfl,dk,cl,cs,n+1+k,rfl,CC.gd,CC.gc,CC.hl,by lia,λc' dY s' k'=>sP.mk ⟨⟨ns++[c'],by rw[ig];rfl,by rw[cL,sv];rfl⟩,sm.trans s',CC.next s' k'⟩⟩
  rintro H2 zs ⟨⟨ns,rfl,sv⟩,lH,ue⟩ fc hfc;have sv:ns.length=9:=sv;have ue:Dk H2 dk cl cs (n+10):=ue;have vQ:WL H2 aw d:=lH _ _ (RC rF rn) rn;have t3:=bh.upd (o:=.lst (ns.map V.int)) hfc;have Jw:(upd H2 fc (.lst (ns.map V.int))) fc=some (.lst (ns.map V.int)):=bz;have sB:i3 dk H (upd H2 fc (.lst (ns.map V.int))):=(show i3 dk H H1 from s1).trans (lH.trans (.of t3))
  replace vQ:WL (upd H2 fc (.lst (ns.map V.int))) aw d:=t3 _ _ vQ;replace ue:=ue.mono t3;clear t3;generalize upd H2 fc (.lst (ns.map V.int))=H3 at Jw sB vQ ue |-;have fin:∀a e H',bh H3 H'->WL H' a e->JD p e->Q (.ref a) H':=λa e H' s' g' j=>q a e H' (sB.trans (.of s')) (ue.mono s') g' j;clear q sB ue;have sm:∀{g g':D1.Dr},(g'=.id\/(g'=g/\g.l<=2/\g.r<=2))->g.wf p->g.bb.length<=max 7 9->g'.wf p/\g'.bb.length<=9/\g'.r<=2:=λh w1 w2=>by
   rcases h with rfl|⟨rfl,_,h2⟩
   ·exact⟨True.intro,by decide,by decide⟩
   ·exact⟨w1,w2,h2⟩
  dsimp only[bY];refine⟨_,rfl,_,rfl,_,rfl,fc,_,rfl,.of Jw,λsl hsl=>?_⟩;obtain⟨ms,Jx,lms⟩:=CB ns none (some 5);rw[Jx];refine⟨p,sl,7,ms,rfl,pp,bz,by lia,by decide,λx1 y1 H4 s4 Jy v1 v2 v3 v4=>⟨x1,y1,rfl,Jy,λf1 g1 H5 s5 Jy adE=>?_⟩⟩;obtain⟨w1,l1,rr1⟩:=sm adE v1 v3;have S5:=(bh.upd (o:=.lst (ms.map V.int)) hsl).trans (s4.trans s5);dsimp only[bY];refine⟨_,rfl,_,rfl,_,rfl,fc,_,rfl,.of (S5 _ _ Jw),λuP adF=>?_⟩;obtain⟨RG,adG,aes⟩:=CB ns (some 4) none;rw[adG];refine⟨p,uP,7,RG,rfl,pp,bz,by lia,by decide,λx2 y2 H6 s6 CF v1' v2' v3' v4'=>⟨x2,y2,rfl,CF,λf2 g2 H7 s7 CF adH=>?_⟩⟩;obtain⟨w2,l2,rr2⟩:=sm adH v1' v3';have S7:=(bh.upd (o:=.lst (RG.map V.int)) adF).trans (s6.trans s7);have RH:=Jy.mono S7;have S:=S5.trans S7;have zt:H7 aw=some (.lst (d.bb.map dO)):=S _ _ vQ;dsimp only[bY];refine(λn1=>⟨_,rfl,rfl,_,rfl,lC (λ_=>adC pp RH CF w1 w2 l1 l2 (by lia) λa e H' s' g' j=>fin a e H' (S.trans s') g' j) (λ_=>n1)⟩) ?n1
  case n1=>
  refine(λn2=>⟨_,rfl,rfl,_,rfl,lC (λ_=>⟨_,rfl,aw,_,rfl,.inl (.of zt),_,_,rfl,rfl,_,rfl,lC (λRI=>?c2) (λ_=>n2)⟩) (λ_=>dE n2)⟩) ?n2
  case c2=>
   have RI:d.bb.length<20:=by
    have:=aM RI
    rw[cB]at this;lia
   refine rA (ws:=(([.w "beside"]++d.bb)++[.w "beside"])++g1.bb) (us:=g2.bb) (rA (rA (rA (nE (kQ nC) (by decide)) (Qn rfl zt) (by simp;lia)) (nE (kQ nC) (by decide)) (by simp;lia)) (CA rfl RH) (by simp;lia)) (CA rfl CF) (by simp;lia) H7 (.refl _) _ λa H8 s8 g8=>?_;refine fin a (.bt d (.bt g1 g2)) H8 (S.trans s8) ?_ (Jt ⟨hd,w1,w2⟩ ?_)
   ·show H8 a=_;rw[g8];simp[D1.Dr.bb]
   ·simp[D1.Dr.bb];lia
  case n2=>
  refine(λn3=>⟨_,rfl,rfl,_,rfl,lC (λ_=>⟨_,rfl,c,4,rfl,rfl,⟨by decide,by decide⟩,c/4,4,rfl,rfl,(by decide:(0:Int)<4),rfl,_,rfl,lC (λ_=>?c3) (λ_=>n3)⟩) (λ_=>dE n3)⟩) ?n3
  case c3=>
   obtain⟨nn,RJ⟩:∃nn:Nat,(80-((d.bb.map dO).length:Int))/2=(nn:Int):=⟨((80-((d.bb.map dO).length:Int))/2).toNat,by rw[cB];lia⟩;have h2n:2*nn+d.bb.length<=80:=by rw[cB]at RJ;lia
   refine⟨by show 2<=sizeLine;lia,λla wx=>⟨_,rfl,aw,_,rfl,.inl (.of (bh.upd wx _ _ zt)),_,_,rfl,rfl,_,_,rfl,rfl,⟨by decide,by decide⟩,la,(nn:Int),_,rfl,ai V.int RJ,bz,by lia,by lia,by show 2*nn<=sizeLine;lia,λlb CG=>?_⟩⟩;have t:=(bh.upd (o:=.lst [.str (Str.ofString "beside"),.str (Str.ofString "empty")]) wx).trans (bh.upd (o:=.lst (List.replicate (nn:Int).toNat [V.str (Str.ofString "beside"),.str (Str.ofString "empty")]).flatten) CG);refine⟨_,rfl,lb,aw,_,_,rfl,rfl,bz,t _ _ zt,?_,λlc qg=>?_⟩
   ·rw[Ee,cB];show nn*2+d.bb.length<=sizeLine;lia
   ·refine fin lc (pH d nn) _ (S.trans (t.trans (.upd qg))) ?_ (adB hd hl h2n);show(upd _ lc _) lc=_;rw[bz,Ju];rfl
  case n3=>
  exact⟨_,rfl,fin aw d H7 S zt (Jt hd (by lia))⟩
end S21
namespace L2
open PySem PySem.Spec PyProof PyProof.Rows PySem.W
variable{x:Str}
def rG(x:Str):Prop:=∀c∈x.cps.toList,c<128
theorem adI(h:rG x)(l u:Option Int):rG (Txt.slice x l u):=by
 unfold Txt.slice;split
 ·exact h
 ·intro c hc;obtain⟨i,_,e⟩:=List.mem_filterMap.mp hc;exact h c (by have:=Array.mem_of_getElem? e;simpa using this)
theorem adJ{y:Str}(h:rG x)(g:rG y):rG (x++y):=λc hc=>by
 have hc:c∈(x.cps++y.cps).toList:=hc;rw[Array.toList_append]at hc;exact(iG.mp hc).elim (h c) (g c)
theorem RK(h:rG x):rG (Txt.upper x)/\(Txt.upper x).length=x.length:=by
 rw[upper_ascii h];refine⟨λc hc=>?_,Array.size_map ..⟩;have hc:c∈(x.cps.map up1).toList:=hc;rw[Array.toList_map]at hc;obtain⟨d,hd,rfl⟩:=lh.mp hc
 have:=h d hd
 unfold up1;split<;>lia
section
variable{X:Cx}
def wy:V->Option Int->Option Int->Hp->VK->Prop:=λx lo hi H Q=>∃z:Str,x=.str z/\z.length<=sizeLine/\Q (.str (Txt.slice z lo hi)) H
theorem part_of{v:Value}{lo:Option Int}(h:IsPart v lo):∃l:Option (Int×Tok),v=partValue l/\lo=l.map (·.1):=by
 cases h with
 |none=>exact⟨none,rfl,rfl⟩
 |int i t=>exact⟨some (i,t),rfl,rfl⟩
theorem CH:su X wy:=by
 intro bc s σ H x v vl vu lo hi sl Q I rx hs pl pu h;obtain⟨z,rfl,hz,q⟩:=h;obtain⟨t,rfl⟩:=rx;obtain⟨l,rfl,rfl⟩:=part_of pl;obtain⟨u,rfl,rfl⟩:=part_of pu;exact⟨"str",_,F.slot_str_getitem.lookup,typeIs_str _ _ _,wpAny_getItem_str_slice (l:=l) (u:=u) (st:=none) hs rfl (post_val_or_str ⟨dj (Txt.slice_le z _ _) hz,λt' k=>⟨.str _,H,I.kept (t':=k) (λ_ _ e=>e),⟨t',rfl⟩,q⟩⟩)⟩
def Jz:V->List V->Hp->VK->Prop:=λx xs H Q=>∃z:Str,x=.str z/\xs=[]/\z.length<=1000/\Q (.str (Txt.upper z)) H
theorem adK:Ag X "str.upper" Jz:=by
 intro bc s σ H x xs v us Q I rx rs h;obtain⟨z,rfl,rfl,hz,q⟩:=h;obtain⟨t,rfl⟩:=rx;cases rs;exact SCL.upper (dj hz (by decide)) λ_=>⟨.str _,H,I.kept (t':=s.toks+1) (λ_ _ e=>e),⟨_,rfl⟩,q⟩
end
end L2
namespace S21
open PySem L2 Bw
variable{H:Hp}{a b dk f:Addr}{d:D1.Dr}{fd:FuncData}{i p:Int}{n:Nat}{ps rs:List Str}{te:TE}{x:Str}
def i9(n:Nat)(x:Str):Prop:=x.length<=n/\rG x
def lW(n:Nat)(te:TE)(σ:St)(H:Hp):Prop:=∀H',bh H H'->∀R:VK,(∀y dY,bh H' dY->i9 n y->R (.str y) dY)->te σ H' R
def zu(n k:Nat)(ta:TA)(σ:St)(H:Hp):Prop:=∀H',bh H H'->∀Q:List V->Hp->Prop,(∀(ys:List Str) dY,bh H' dY->(∀y∈ys,i9 n y)->ys.length=k->Q (ys.map V.str) dY)->ta σ H' Q
section
variable{K:Frag}{σ:St}{H:Hp}{n m:Nat}
theorem nH{i:Nat}(h:σ[i]?=some (some (.str x)))(k:i9 n x):lW n (br i) σ H:=λH' _ _ q=>⟨_,h,q x H' (.refl _) k⟩
theorem RL(k:i9 n x):lW n (tC (.str x)) σ H:=λH' _ _ q=>q x H' (.refl _) k
theorem rH{ta tb:TE}(h1:lW n ta σ H)(h2:lW m tb σ H)(hz:n+m<=1000):lW (n+m) (bw (λx y H Q=>∃i j,x=.str i/\y=.str j/\i.length+j.length<=sizeLine/\Q (.str (i++j)) H) ta tb) σ H:=λH' s R q=>by
 refine h1 H' s _ λy H1 s1 k1=>h2 H1 (s.trans s1) _ λx H2 s2 k2=>⟨y,x,rfl,rfl,?_,q _ H2 (s1.trans s2) ⟨?_,adJ k1.2 k2.2⟩⟩
 ·exact dj (Nat.add_le_add k1.1 k2.1) (dj hz (by decide))
 ·rw[aY];exact Nat.add_le_add k1.1 k2.1
theorem adL(h:lW n te σ H)(hz:n<=1000):lW n (uX K "str" Jz te) σ H:=λH' s R q=>
 h H' s _ λy H1 s1 k1=>⟨rfl,y,rfl,rfl,dj k1.1 hz,q _ H1 s1 ⟨by rw[(RK k1.2).2];exact k1.1,(RK k1.2).1⟩⟩
def CI(tl:TO)(σ:St)(H:Hp):Prop:=∀H',bh H H'->∀R:Option Int->Hp->Prop,(∀o,R o H')->tl σ H' R
theorem CJ:CI uR σ H:=λ_ _ _ q=>q none
theorem CK(h:∀H' (R:VK),R (.int i) H'->te σ H' R):CI (uS te) σ H:=λH' _ _ q=>h H' _ ⟨i,rfl,q _⟩
theorem CL{tl th:TO}(h:lW n te σ H)(hl:CI tl σ H)(hh:CI th σ H)(hz:n<=1000):lW n (uT wy te tl th) σ H:=λH' s R q=>
 h H' s _ λy H1 s1 k1=>hl H1 (s.trans s1) _ λo=>hh H1 (s.trans s1) _ λo'=>⟨y,rfl,dj k1.1 (dj hz (by decide)),q _ H1 s1 ⟨dj (PyProof.Txt.length_slice_le y o o') k1.1,adI k1.2 o o'⟩⟩
theorem RM:zu n 0 bQ σ H:=λH' _ _ q=>q [] H' (.refl _) (λy h=>by cases h) rfl
theorem rJ{ta:TA}{k:Nat}(h:lW n te σ H)(g:zu n k ta σ H):zu n (k+1) (bo te ta) σ H:=λH' s Q q=>
 h H' s _ λy H1 s1 ky=>g H1 (s.trans s1) _ λys H2 s2 kys hl=>q (y::ys) H2 (s1.trans s2) (λx hx=>(dI.mp hx).elim (λe=>e▸ky) (kys x)) (by rw[fj,hl])
theorem lW.le(h:lW n te σ H)(hn:n<=m):lW m te σ H:=λH' s R q=>h H' s R λy dY s' k=>q y dY s' ⟨dj k.1 hn,k.2⟩
theorem RN{ti:TE}{k:Nat}{c:Int}(h:∀H',bh H H'->∀R:VK,(∀a (ys:List Str) dY,bh H' dY->dY a=some (.lst (ys.map V.str))->(∀y∈ys,i9 n y)->ys.length=k->R (.ref a) dY)->te σ H' R)(hk:0<k)(hi:∀H' (R:VK),R (.int (c%(k:Int))) H'->ti σ H' R):lW n (bw (gJ K) te ti) σ H:=λH' s R q=>by
 refine h H' s _ λa ys H1 s1 ga ky hl=>hi H1 _ ?_;obtain⟨i,y,e1,e2⟩:=sX hl hk c;rw[e2];exact⟨a,_,_,.str y,rfl,rfl,.of ga,cc (j:=i) (by rw[fw,e1];rfl),q y H1 s1 (ky y (iO e1))⟩
end
abbrev rK:R2:=λx y H Q=>∃i j,x=.str i/\y=.str j/\i.length+j.length<=sizeLine/\Q (.str (i++j)) H
abbrev CN(K:Frag):List V->Hp->VK->Prop:=λxs H Q=>∃p ys,xs=[.ref p]/\(dC K H p ys\/cg K H p ys)/\Q (.int ys.length) H
abbrev rLs:List V->Hp->VK->Prop:=λxs H Q=>∃z:Str,xs=[.str z]/\z.length<=sizeLine/\Q (.int z.length) H
def adM(K:Frag):TE:=bw (gJ K) (br 1) (bw g6 (bw ji (br 2) (tC (.int 8))) (lA (CN K) (bo (br 1) bQ)))
def adN:TE:=bw Le (tC (.str (Str.ofString "abcdefghijklmnopqrstuvwxyz "))) (bw g6 (bw ji (br 2) (tC (.int 224))) (tC (.int 27)))
def adO:TE:=bw g6 (bw ji (br 2) (tC (.int 6048))) (bw (dZ λi j=>.int (i+j)) (lA rLs (bo (br 3) bQ)) (tC (.int 1)))
def CO(K:Frag):TA:=bo (bw rK (br 3) (br 4)) (bo (bw rK (br 4) (br 3)) (bo (bw rK (uT wy (br 3) uR (uS (br 5))) (uT wy (br 3) (uS (bw (dZ λi j=>.int (i+j)) (br 5) (tC (.int 1)))) uR)) (bo (bw rK (br 3) (bw (gJ K) (br 1) (tC (.int 0)))) (bo (bw rK (bw rK (br 3) (tS " ")) (br 3)) (bo (bw rK (tS " ") (br 3)) bQ)))))
noncomputable def JA:List Str:=(["","back","add","turn","id","endcopy"]:List String).map Str.ofString
def CP(K:Frag):TA:=bo (bw rK (uX K "str" Jz (uT wy (br 3) uR (uS (tC (.int 1))))) (uT wy (br 3) (uS (tC (.int 1))) uR)) (bo (bw (gJ K) (cP (ub JA)) (bw g6 (bw ji (br 2) (tC (.int 8))) (tC (.int 6)))) bQ)
def CQ(K:Frag):TS:=cu (cR (ij (wq K) [] E0 (bo (br 0) bQ)) (bY 2)) (cu (cR (adM K) (bY 3)) (cu (cR adN (bY 4)) (cu (cR adO (bY 5)) (cu (cR (cP (CO K)) (bY 6)) (dG (bw (gJ K) (bw eB (br 6) (cP (CP K))) (bw g6 (br 2) (tC (.int 8)))))))))
theorem adP:(Str.ofString "abcdefghijklmnopqrstuvwxyz ").cps.toList.all (λc=>decide (c<128))=true:=by decide +kernel
theorem adQ:JA.all (λx=>decide (x.length<=60)&&x.cps.toList.all λc=>decide (c<128))=true:=by decide +kernel
theorem JB:jr.all (λx=>decide (x.length<=12)&&x.cps.toList.all λc=>decide (c<128))=true:=by decide +kernel
theorem wz(h:(decide (x.length<=n)&&x.cps.toList.all λc=>decide (c<128))=true):i9 n x:=by
 rw[dq,aI]at h;exact⟨h.1,λc hc=>aM (fh.mp h.2 c hc)⟩
theorem adR{K:Frag}{D:Ends}{cl rl:Addr}{cs:List Int}(hD:Dk H dk cl cs n)(hn:n<=900)(gr:H rl=some (.lst (rs.map V.str)))(eV:rs.Perm jr)
  (q:∀x H',i3 dk H H'->Dk H' dk cl cs (n+1)->i9 60 x->D.rt (.str x) H'):CQ K D [some (.ref dk),some (.ref rl),none,none,none,none,none] H:=by
 have z:=kq;have cT:rs.length=28:=eV.length_eq.trans (by decide);have RO:∀x∈rs,i9 12 x:=λx hx=>wz (fh.mp JB x (eV.mem_iff.mp hx));obtain⟨r0,RP⟩:∃r0,rs[0]?=some r0:=⟨_,gk (by lia)⟩;have nr:rl≠dk:=λe=>by
  rw[e,hD.gd]at gr;cases rs with
  |nil=>cases gr
  |cons a t=>cases gr
 unfold CQ;refine fz ⟨_,rfl,dk,cl,cs,n,rfl,hD.gd,hD.gc,hD.hl,by lia,λc H1 s1 k1=>?_⟩;have hD1:=hD.next s1 k1;have qd:H1 rl=some (.lst (rs.map V.str)):=s1 _ _ nr gr;have fin:∀x H',bh H1 H'->i9 60 x->D.rt (.str x) H':=λx H' s' k=>q x H' ((show i3 dk H H1 from s1).trans (.of s')) (hD1.mono s') k
 clear q;obtain⟨i,r,e1,e2⟩:=sX cT (by decide) (c/8);have hr:=RO r (iO e1);refine fz (n8 ⟨_,rfl,_,rfl,c,8,rfl,rfl,⟨by decide,by decide⟩,_,rfl,rl,_,rfl,.inl (.of qd),c/8,((rs.map V.str).length:Int),rfl,rfl,(by rw[cB,cT];show(0:Int)<28;decide),rl,_,(i:Int),.str r,rfl,?_,.of qd,cc (j:=i) (by rw[fw,e1];rfl),?_⟩)
 ·rw[cB,cT];exact ai V.int e2
 obtain⟨j,sg,f1,f2⟩:=sX (xs:=(Str.ofString "abcdefghijklmnopqrstuvwxyz ").cps.toList) (n:=27) (by decide +kernel) (by decide) (c/224);have RQ:i9 1 ⟨#[sg]⟩:=⟨cF 1,λx hx=>by
  rw[dP.mp hx];exact aM (fh.mp adP sg (iO f1))⟩
 refine fz (n8 ⟨_,rfl,c,224,rfl,rfl,⟨by decide,by decide⟩,c/224,27,rfl,rfl,(by decide:(0:Int)<27),_,(j:Int),sg,rfl,ai V.int f2,by decide +kernel,cc f1,?_⟩);obtain⟨m,hm⟩:∃m:Int,c/6048%((r.length:Int)+1)=m:=⟨_,rfl⟩;refine fz ⟨_,rfl,c,6048,rfl,rfl,⟨by decide,by decide⟩,_,rfl,r,rfl,by have:=hr.1;lia,_,_,rfl,rfl,c/6048,(r.length:Int)+1,rfl,rfl,(by show(0:Int)<(r.length:Int)+1;lia),?_⟩;have hr':∀{n:Nat},12<=n->i9 n r:=λh=>⟨dj hr.1 h,hr.2⟩;have hz0:=RO r0 (iO RP);have jf:i9 1 (Str.ofString " "):=wz (by decide +kernel);show cu _ _ D [some (.ref dk),some (.ref rl),some (.int c),some (.str r),some (.str ⟨#[sg]⟩),some (.int (c/6048%((r.length:Int)+1))),none] H1;have A4:zu 60 6 (CO K) [some (.ref dk),some (.ref rl),some (.int c),some (.str r),some (.str ⟨#[sg]⟩),some (.int (c/6048%((r.length:Int)+1))),none] H1:=by
  unfold CO;refine rJ ((rH (nH rfl hr) (nH rfl RQ) (by decide)).le (by decide)) (rJ ((rH (nH rfl RQ) (nH rfl hr) (by decide)).le (by decide)) (rJ ((rH (CL (nH rfl hr) CJ (CK λ_ _ q=>⟨_,rfl,q⟩) (by decide)) (CL (nH rfl hr) (CK λ_ _ q=>⟨_,rfl,_,_,rfl,rfl,q⟩) CJ (by decide)) (by decide)).le (by decide)) (rJ ((rH (nH rfl hr) (λH' s R q=>?_) (by decide)).le (by decide:12+12<=60)) (rJ ((rH (rH (nH rfl hr) (RL jf) (by decide)) (nH rfl hr) (by decide)).le (by decide)) (rJ ((rH (RL jf) (nH rfl hr) (by decide)).le (by decide)) RM)))));exact⟨_,rfl,rl,_,0,.str r0,rfl,rfl,.of (s _ _ qd),cc (j:=0) (by rw[fw,RP];rfl),q r0 H' (.refl _) hz0⟩
 refine fz (lstK (A4 H1 (.refl _) _ λys H2 s2 ky hy=>⟨by rw[cB,hy];exact dj (by decide:6<=1000) z,λla wx=>?_⟩));have S2:=s2.trans (bh.upd (o:=.lst (ys.map V.str)) wx);have ga:(upd H2 la (.lst (ys.map V.str))) la=some (.lst (ys.map V.str)):=bz;generalize upd H2 la (.lst (ys.map V.str))=H3 at S2 ga |-;show bw (gJ K) _ _ [some (.ref dk),some (.ref rl),some (.int c),some (.str r),some (.str ⟨#[sg]⟩),some (.int (c/6048%((r.length:Int)+1))),some (.ref la)] H3 _;refine RN (n:=60) (k:=8) (c:=c) (λH' s' R q=>?_) (by decide) (λH' R q=>⟨_,rfl,c,8,rfl,rfl,(by decide:(0:Int)<8),q⟩) H3 (.refl _) _ λy H4 s4 ky4=>fin y H4 (S2.trans s4) ky4;have A5:zu 60 2 (CP K) [some (.ref dk),some (.ref rl),some (.int c),some (.str r),some (.str ⟨#[sg]⟩),some (.int (c/6048%((r.length:Int)+1))),some (.ref la)] H':=by
  unfold CP;refine rJ ((rH (adL (CL (nH rfl hr) CJ (CK λ_ _ q=>q) (by decide)) (by decide)) (CL (nH rfl hr) (CK λ_ _ q=>q) CJ (by decide)) (by decide)).le (by decide)) (rJ (RN (k:=6) (c:=c/8) (λH5 s5 R q=>?_) (by decide) λH5 R q=>⟨_,rfl,c,8,rfl,rfl,⟨by decide,by decide⟩,c/8,6,rfl,rfl,(by decide:(0:Int)<6),q⟩) RM);exact IZ (by decide) λa ha=>q a JA _ (.upd ha) bz (λy hy=>wz (fh.mp adQ y hy)) rfl
 refine n8 ⟨_,rfl,lstK (A5 H' (.refl _) _ λus H5 s5 ku hu=>⟨by rw[cB,hu];exact dj (by decide:2<=1000) z,λlb CG=>?_⟩)⟩;refine⟨la,lb,_,_,rfl,rfl,bh.upd CG _ _ (s5 _ _ (s' _ _ ga)),bz,by rw[cB,cB];lia,λlc qg=>?_⟩;rw[<- ig];exact q lc (ys++us) _ (s5.trans ((bh.upd CG).trans (.upd qg))) bz (λy hy=>(iG.mp hy).elim (ky y) (ku y)) (by rw[cL,hy,hu])
theorem wA:dD ["deck","rules","cell","rule","sign","at","some"] ["deck","rules"] (cN Fs):=dU rfl rfl rfl (by decide +kernel) rfl
def JC(_K:Frag):Sp:=λvs H Q _=>∃(dk cl rl:Addr)(cs:List Int)(n:Nat)(rs:List Str),vs=[.ref dk,.ref rl]/\Dk H dk cl cs n/\n<=900/\H rl=some (.lst (rs.map V.str))/\rs.Perm jr/\∀x H',i3 dk H H'->Dk H' dk cl cs (n+1)->i9 60 x->Q (.str x) H'
theorem adS{fN:Addr}{lU:FuncData}(F:c9 K "_law_text" "_law_text" Fs f fd)(T:Txt mg)
  (GN:ck P w K mg base cA 1 fN lU ["deck"] (wq K)) (kN:Kp K fN) (bN:Binds K lU ["deck"] []) (mN:Mg mg "_law_next" fN):ck P w K mg base cA 2 f fd ["deck","rules"] (JC K):=by
 refine F.ok wA (λvs H Q E h=>?_) (λcI A outer s H vs Q E hr h=>?_)
 ·obtain⟨dk,cl,rl,cs,n,rs,rfl,_⟩:=h;rfl
 ·obtain⟨dk,cl,rl,cs,n,rs,rfl,hD,hn,gr,eV,q⟩:=h;refine⟨CQ K,?_,adR hD hn gr eV q⟩;unfold CQ;refine bD ?_ ?_
  ·exact cx (i:=2) wA.nd rfl (.inl rfl) (cZ GN hr rfl mN kN bN .nil cX (bg (pv 0) bq))
  refine bD ?_ ?_
  ·exact cx (i:=3) wA.nd rfl (.inl rfl) (bO (de K rfl) (pv 1) (bH eI (bH gE (pv 2) bp) (gu (ko K rfl) rfl T.len j3 (bg (pv 1) bq))))
  refine bD ?_ ?_
  ·exact cx (i:=4) wA.nd rfl (.inl rfl) (bO UD bI (bH eI (bH gE (pv 2) bp) bp))
  refine bD ?_ ?_
  ·exact cx (i:=5) wA.nd rfl (.inl rfl) (bH eI (bH gE (pv 2) bp) (bH gC (gu UP rfl T.len j3 (bg (pv 3) bq)) bp))
  refine bD ?_ ?_
  ·refine cx (i:=6) ?_ ?_ ?_ ?_ ?_ ?_
   ·exact wA.nd
   ·rfl
   ·exact Or.inl rfl
   ·refine cK ?_;unfold CO;refine bg ?_ ?_ ?_
    ·exact bH qE (pv 3) (pv 4)
    rotate_left
    ·rfl
    refine bg ?_ ?_ ?_
    ·exact bH qE (pv 4) (pv 3)
    rotate_left
    ·rfl
    refine bg ?_ ?_ ?_
    ·exact bH qE (jJ CH (pv 3) mf (iS (pv 5))) (jJ CH (pv 3) (iS (bH gC (pv 5) bp)) mf)
    rotate_left
    ·rfl
    refine bg ?_ ?_ ?_
    ·exact bH qE (pv 3) (bO (de K rfl) (pv 1) bp)
    rotate_left
    ·rfl
    refine bg ?_ ?_ ?_
    ·exact bH qE (bH qE (pv 3) bI) (pv 3)
    rotate_left
    ·rfl
    refine bg ?_ ?_ ?_
    ·exact bH qE bI (pv 3)
    ·exact bq
    ·rfl
   ·rfl
   ·exact .inl rfl
  refine bK ?_;refine cE ?_;refine bO (de K rfl) ?_ ?_ ?_
  ·refine bH eD (pv 6) ?_;refine cK ?_;unfold CP;refine bg ?_ ?_ ?_
   ·exact bH qE (Ah zE PySem.F.slot_str_upper PySem.F.type_str_upper adK (jJ CH (pv 3) mf (iS bp))) (jJ CH (pv 3) (iS bp) mf)
   rotate_left
   ·rfl
   refine bg ?_ ?_ ?_
   ·refine bO (de K rfl) ?_ ?_ ?_
    ·refine cK ?_;refine ze _ _ ?_
     kernel_rfl
    ·exact bH eI (bH gE (pv 2) bp) bp
    ·exact λ_ _=>rfl
   ·exact bq
   ·rfl
  ·exact bH eI (pv 2) bp
  ·exact λ_ _=>rfl
noncomputable def dB(K:Frag)(x:Str):Addr:=match nsIn K mainGlobals x with
 |some (some (.ref a))=>a
 |_=>0
noncomputable def lX(K:Frag)(x:Str):Bool:=match nsIn K mainGlobals x with
 |some (some (.ref _))=>true
 |_=>false
theorem nI{K:Frag}(h:lX K x=true):nsIn K mainGlobals x=some (some (.ref (dB K x))):=by
 unfold lX at h;split at h
 case h_2=>cases h
 case h_1 a e=>
  unfold dB;rw[e]
noncomputable def JE(K:Frag):Bool:=(lX K "PARTS"&&pd K (dB K "PARTS")&&decide (gQ K (dB K "PARTS")=Bp))&&(lX K "SIDES"&&yo K (dB K "SIDES"))&&(lX K "RULES"&&Hg K (dB K "RULES")&&pd K (dB K "RULES")&&decide ((gQ K (dB K "RULES")).map Prod.fst=names28)) &&
 ((lX K "ANY_DRAWING"&&decide (qU K (dB K "ANY_DRAWING")=some (gR.map V.str)))&&(lX K "ANY_NUMBER"&&decide (qU K (dB K "ANY_NUMBER")=some (iK.map V.str))))
noncomputable def CS(K:Frag):List Addr:=[dB K "BadSides",dB K "BadWires",dB K "Late",dB K "NoDrawing",dB K "NoRun"]
noncomputable def JF(K:Frag)(C:Addr):Bool:=(PySem.W.clsIn K C).isSome&&((PySem.W.findIn K (.ref C) "__getattribute__"==some (some (.builtin "BaseException.__getattribute__")))&&((PySem.W.findIn K (.ref C) "__getattr__"==some none)&&((PySem.W.findIn K (.ref C) "__class__"==some (some (.builtin "object.__class__")))&&((PySem.W.specialIn K (.builtin "object.__class__") "__get__"==some (some (.builtin "getset_descriptor.__get__")))&&((PySem.W.takesIn K (.builtin "object.__class__")==some true)&&((PySem.W.mroIn K C (.type "object")==some true)&&(PySem.W.mroIn K C (.type "BaseException")==some true)))))))
theorem adT{K:Frag}{C:Addr}(h:JF K C=true):nW K C:=by
 simp only[JF,dq,beq_iff_eq]at h;obtain⟨h1,h2,h3,h4,h5,h6,h7,h8⟩:=h;exact⟨h1,h2,h3,h4,h5,h6,h7,h8⟩
noncomputable def JG(K:Frag):Bool:=lX K "WireError"&&(lX K "NoMove"&&(lX K "BadSides"&&(lX K "BadWires"&&(lX K "Late"&&(lX K "NoDrawing"&&(lX K "NoRun"&&((nsIn K mainGlobals "ValueError"==some none)&&((nsIn K mainGlobals "dict"==some none)&&((nsIn K mainGlobals "sorted"==some none)&&((nsIn K mainGlobals "reversed"==some none)&&((nsIn K mainGlobals "max"==some none)&&((PySem.W.exmOne K (.ref (dB K "NoMove")) (.ref (dB K "WireError"))==some true)&&((PySem.W.kitAny K (.ref (dB K "NoMove")) ((CS K).map Value.ref)==some false)&&((kitOne K (.ref (dB K "NoMove")) (.type "ValueError")==some true)&&(JF K (dB K "NoMove")&&PySem.W.excIn K (dB K "NoMove") HR "ValueError.__new__")))))))))))))))
structure JH(K:Frag)(mg:Str->Option Value):Prop where
 mW:mg "WireError"=some (.ref (dB K "WireError"))
 mM:mg "NoMove"=some (.ref (dB K "NoMove"))
 mS:mg "BadSides"=some (.ref (dB K "BadSides"))
 mB:mg "BadWires"=some (.ref (dB K "BadWires"))
 mL:mg "Late"=some (.ref (dB K "Late"))
 mN:mg "NoDrawing"=some (.ref (dB K "NoDrawing"))
 mR:mg "NoRun"=some (.ref (dB K "NoRun"))
 val:mg "ValueError"=none
 dict:mg "dict"=none
 JI:mg "sorted"=none
 rev:mg "reversed"=none
 max:mg "max"=none
 exm:PySem.W.exmOne K (.ref (dB K "NoMove")) (.ref (dB K "WireError"))=some true
 oth:PySem.W.kitAny K (.ref (dB K "NoMove")) ((CS K).map Value.ref)=some false
 kV:kitOne K (.ref (dB K "NoMove")) (.type "ValueError")=some true
 Z:nW K (dB K "NoMove")
 sR:PySem.W.excIn K (dB K "NoMove") HR "ValueError.__new__"=true
section
variable{K:Frag}{h:Heap}{mg:Str->Option Value}
theorem adU(X:K.In h)(G:h.Ns mainGlobals mg)(e:JG K=true):JH K mg:=by
 simp only[JG,dq,beq_iff_eq]at e;obtain⟨h1,h2,h3,h4,h5,h6,h7,h8,h9,Ew,h11,h12,h13,h14,EL,h16,h17⟩:=e;exact⟨dv X G (nI h1),dv X G (nI h2),dv X G (nI h3),dv X G (nI h4),dv X G (nI h5),dv X G (nI h6),dv X G (nI h7),jt X G h8,jt X G h9,jt X G Ew,jt X G h11,jt X G h12,h13,h14,EL,adT h16,h17⟩
theorem adV(X:K.In h)(G:h.Ns mainGlobals mg)(e:JE K=true):Parts K mg (dB K "PARTS")/\pq K mg (dB K "SIDES")/\yC K mg (dB K "RULES") (gQ K (dB K "RULES")) iX/\Lets K mg (dB K "ANY_DRAWING") (dB K "ANY_NUMBER")/\pd K (dB K "RULES")=true/\(gQ K (dB K "RULES")).map Prod.fst=names28:=by
 simp only[JE,dq,aI]at e;obtain⟨⟨⟨⟨⟨a1,a2⟩,a3⟩,b1,b2⟩,⟨⟨c1,c2⟩,c3⟩,c4⟩,⟨d1,d2⟩,e1,e2⟩:=e;exact⟨⟨dv X G (nI a1),λh X=>a3▸EO X a2⟩,⟨dv X G (nI b1),b2⟩,Yu (dv X G (nI c1)) c2,Yv (dv X G (nI d1)) (dv X G (nI e1)) d2 e2,c3,c4⟩
end
theorem adW(K:Frag)(C:Addr):kitOne K (.ref C) (.ref C)=some true:=by
 unfold kitOne;rw[ae (by simp)]
inductive Due(p:Int)(d:D1.Dr)(D:List (Str×V))(H:Hp)(i:Int)(x:Str):V->Prop where
 |no (h:O1 p (cw d) D i x):Due p d D H i x .cC
 |yes {l:Addr} {n:Nat} {e:D1.Dr} {Y:Dw} {r:List It2} (hi:i=(n:Int)) (h:cD [.bu (cw d)] n=.bu (cw e)::r) (hm:Mv p x (cw e) Y) (hy:Y.bb.length<=1000) (ok:Y.ok p) (g:H l=some (.lst (zg d n (cw e) Y))):Due p d D H i x (.ref l)
def JJ(_K:Frag)(D:List (Str×V)):Sp:=λvs H Q _=>∃(p:Int)(aw:Addr)(i:Int)(x:Str)(v:V)(d:D1.Dr),vs=[.int p,.ref aw,.int i,.str x,v]/\p∈eZ/\H aw=some (.lst (cw d).bb)/\d.wf p/\d.bb.length<=80/\i9 60 x/\i.natAbs.log2<1920/\(toString i:Str).length<=1000/\Due p d D H i x v/\∀H',bh H H'->Q (.bl true) H'
theorem CT:dD ["p","words","at","rule","due","found","caught","e"] ["p","words","at","rule","due"] (cN Ft):=dU rfl rfl rfl (by decide +kernel) rfl
theorem adX{K:Frag}{ws:List V}{Q:VK}(ga:cg K H a ws)(gb:cg K H b ws)(hw:∀v∈ws,(∃n,v=.int n)\/∃x,v=.str x/\PyData.strOk x=true)(q:Q (.bl true) H):o8 K false (.ref a) (.ref b) H Q:=by
 obtain⟨a1,a2⟩:=zd (K:=K) (H:=H) hw;refine⟨_,_,.tuple ga a1,.tuple gb a1,a2,a2,?_⟩;simpa using q
theorem adY(h:i9 60 x):(reprText x).length<=1000:=by
 have:=PySem.StrLaws.reprText_len x λc hc=>Nat.lt_trans (h.2 c hc) (by decide)
 have:=h.1
 lia
set_option maxRecDepth 100000 in
theorem adZ{fM:Addr}{i6:FuncData}{D:List (Str×V)}(F:c9 K "_law_asked" "_law_asked" Ft f fd)(T:Txt mg)(B:JH K mg)
  (GM:ck P w K mg base (qW P w) 9 fM i6 ["p","words","at","rule"] (O2 K D (dB K "NoMove"))) (kM:Kp K fM) (bM:Binds K i6 ["p","words","at","rule"] []) (mM:Mg mg "moved" fM) :
  ck P w K mg base cA 10 f fd ["p","words","at","rule","due"] (JJ K D):=by
 refine F.ok CT (λvs H Q E h=>?_) (λcI A outer s H vs Q E hr h=>?_)
 ·obtain⟨p,aw,i,x,v,d,rfl,_⟩:=h;rfl
 ·obtain⟨p,aw,i,x,v,d,rfl,pp,gw,hd,hl,hx,HV,p9,du,q⟩:=h;have hu:=hr.units;have z:=kq;obtain⟨p2,cf⟩:=pX p pp;refine⟨_,bD (cx (i:=5) CT.nd rfl (.inl rfl) gW) (bD (cx (i:=6) CT.nd rfl (.inl rfl) gW) (bD (ZT (iv:=5) (ix:=6) (ie:=7) (λ_ _ z=>z) rfl rfl GM hr rfl mM kM bM (bg (pv 0) (bg (oX (AA K rfl) rfl T.tuple vg (bg (pv 1) bq)) (bg (pv 2) (bg (pv 3) bq)))) rfl B.mW CT.nd rfl rfl rfl rfl rfl rfl (by decide)) (bD (cO (cj uN (pv 4) gW (cm _)) (bK (cE (DC (qD zZ (pv 6) gW (cm _)) (DC (gu (L6 K rfl (T := "tuple")) rfl T.isinstance pW (bg (pv 5) (bg (sy rfl T.tuple vg) bq))) (Kv (qD (L8 K rfl hu) (pv 5) (oX (AA K rfl) rfl T.tuple vg (bg (pv 4) bq)) (cm _))))))) cW) (bD (cO (oS (gu (ZR K rfl (C:=dB K "NoMove") (cs:=CS K) B.Z B.oth) rfl T.isinstance pW (bg (pv 6) (bg (dh (bg (jX (v:=.ref _) rfl B.mS rfl) (bg (jX (v:=.ref _) rfl B.mB rfl) (bg (jX (v:=.ref _) rfl B.mL rfl) (bg (jX (v:=.ref _) rfl B.mN rfl) (bg (jX (v:=.ref _) rfl B.mR rfl) bq)))))) bq)))) (bK (cE rZ)) cW) (bK (cE (DC (gu (ZP K rfl (D:=dB K "NoMove") B.Z (adW K _)) rfl T.isinstance pW (bg (pv 6) (bg (jX (v:=.ref _) rfl B.mM rfl) bq))) (Kv (gu (ZQ K rfl (T := "ValueError") B.Z B.kV) rfl T.isinstance pW (bg (pv 6) (bg (sy rfl B.val W0) bq)))))))))))
   ,?_⟩
  have qG:(cw d).bb.length<=80:=by rw[mI];exact hl
  have bZ:=ft hd;refine⟨_,rfl,_,rfl,aw,_,rfl,.inl ⟨.of gw,λtw htw=>?_⟩⟩;have s1:=bh.upd (o:=.tup (cw d).bb) htw;have gt:cg K (upd H tw (.tup (cw d).bb)) tw (cw d).bb:=.of bz;refine⟨_,rfl,_,rfl,?_⟩;generalize upd H tw (.tup (cw d).bb)=H1 at s1 gt |-;cases du with
  |no sr=>
   refine .inr ⟨p,tw,i,x,cw d,rfl,bZ,cf,by lia,gt,sr,adY hx,HV,p9,λH2 s2=>⟨dB K "NoMove",rfl,B.exm,λea hea=>?_⟩⟩;have s3:=bh.upd hea (o:=qX (dB K "NoMove") ea none);have ge:(upd H2 ea (qX (dB K "NoMove") ea none)) ea=some (qX (dB K "NoMove") ea none):=bz;generalize upd H2 ea (qX (dB K "NoMove") ea none)=H3 at s3 ge |-;refine⟨_,rfl,rfl,_,rfl,kc (by simp) ?_⟩;refine⟨_,rfl,by show 5<=sizeLine;lia,λt ht=>?_⟩;have s4:=bh.upd ht (o:=.tup ((CS K).map V.ref));have JK:=ZO (s4 _ _ ge);refine⟨ea,t,rfl,JK,bz,false,rfl,dE ?_⟩;exact⟨_,rfl,ea,rfl,JK,true,rfl,eE ⟨_,rfl,ea,rfl,JK,q _ (s1.trans (s2.trans (s3.trans s4)))⟩⟩
  | @yes l n e Y r hi h hm hy ok g=>
   subst hi;refine .inl (abD bZ p2 cf (by lia) gt ⟨r,h⟩ hm hy λc H2 s2 gc=>?_);refine⟨_,rfl,rfl,_,rfl,ka (by simp) ?_⟩;have g2:=(s1.trans s2) _ _ g;refine⟨_,rfl,rfl,_,rfl,ka (by simp) ⟨_,rfl,c,_,true,rfl,gc,L1 K,true,rfl,eE ?_⟩⟩;refine⟨_,rfl,_,rfl,l,_,rfl,.inl ⟨.of g2,λt2 mq=>?_⟩⟩;refine adX ((bh.upd mq).cV gc) (.of bz) (λv hv=>?_) (q _ (s1.trans (s2.trans (.upd mq))));rcases(iG.mp hv)with(hv|hv)
   ·rcases(iG.mp hv)with(hv|hv)
    ·exact lT bZ v (List.mem_of_mem_take hv)
    ·exact lT ok v hv
   ·exact lT bZ v (List.mem_of_mem_drop hv)
theorem JL{q:KP×List V}(hd:d.wf p)(h:q∈jD p d rs):∃(n:Nat)(e:D1.Dr)(r:List It2)(x:Str)(Y:Dw),cD [.bu (cw d)] n=.bu (cw e)::r/\e.wf p/\x∈rs/\iw p gM x (cw e)=some Y/\q=(((n:Int),x),zg d n (cw e) Y):=by
 unfold jD at h;obtain⟨n,_,h⟩:=List.mem_flatMap.mp h;unfold kY at h;cases e:cD [.bu (cw d)] n with
 |nil=>rw[e]at h;cases h
 |cons t r=>
  rw[e]at h;cases t with
  |num m=>cases h
  |bu d'=>
   obtain⟨a,rfl,wa⟩:=Ck hd e;obtain⟨x,hx,hq⟩:=List.mem_filterMap.mp h;unfold lV at hq;obtain⟨Y,hY,hq⟩:=lj.mp hq;exact⟨n,a,r,x,Y,e,wa,hx,hY,hq.symm⟩
theorem RR{e:D1.Dr}{r:List It2}(h:cD [.bu (cw d)] n=.bu (cw e)::r):e.bb.length<=d.bb.length:=by
 have:=jA.fits (d:=cw d) ⟨r,h⟩
 rw[show It2.bb (.bu (cw e))=(cw e).bb from rfl,mI,mI]at this
 lia
theorem ad0{e:D1.Dr}{r:List It2}(h:cD [.bu (cw d)] n=.bu (cw e)::r)(hx:x∈rs)(hf:(iw p gM x (cw e)).isSome=true):((n:Int),x)∈(jD p d rs).map Prod.fst:=by
 rw[Cn];have hn:n<(cw d).bb.length:=by
  have:=jA.fits (d:=cw d) ⟨r,h⟩
  have:=It2.pos (.bu (cw e))
  lia
 refine List.mem_flatMap.mpr ⟨n,qq.mpr hn,?_⟩;unfold jk;refine lh.mpr ⟨x,uf.mpr ⟨hx,?_⟩,rfl⟩;unfold jC;rw[h];exact hf
theorem RS{D:List (Str×V)}{bf:List (List Key×V)}(pp:p∈eZ)(hd:d.wf p)(hl:d.bb.length<=80)(eV:rs.Perm jr)(hD:D.map Prod.fst=names28)(hT:iy H bf (jD p d rs))(i:Int)(x:Str) :
  Due p d D H i x ((c7 bf (jq (i,x))).getD .cC):=by
 obtain⟨p2,cf⟩:=pX p pp;have z:=hT.get (i,x);cases e:(jD p d rs).find? (λq=>decide (q.1=(i,x))) with
 |some q=>
  rw[e]at z;obtain⟨l,ev,gl⟩:=z;rw[ev];have ek:q.1=(i,x):=aM (List.find?_some (p:=λq:KP×List V=>decide (q.1=(i,x))) e);obtain⟨n,a,r,y,Y,h,wa,hy,hf,rfl⟩:=JL hd (ur e);have ek:=Prod.mk.inj ek;have ei:(n:Int)=i:=ek.1;have ex:y=x:=ek.2;subst ex;have al:=RR h;have fo:=Je pp (by lia) (ft wa) hf;have fl:=fo.len;rw[mI]at fl;exact .yes ei.symm h (Q3 wa (by lia) hf) (by lia) fo.ok gl
 |none=>
  rw[e]at z;rw[show c7 bf (jq (i,x))=none from z]
  refine .no ?_;have nk:(i,x) ∉ (jD p d rs).map Prod.fst:=λhm=>by
   obtain⟨q,hq,eq⟩:=lh.mp hm
   have:=List.find?_eq_none.mp e q hq
   rw[aG eq]at this;exact this rfl
  by_cases hn:∃n∈g7 (cw d).bb (cw d).bb.length,(n:Int)=i
  ·obtain⟨n,hm,rfl⟩:=hn;refine .inr ⟨n,rfl,hm,?_⟩;obtain⟨_,xw,yH⟩:=yG (cF _) hm;obtain⟨d',r,eT⟩:=Hy yH;obtain⟨a,rfl,wa⟩:=Ck hd eT;have al:=RR eT;by_cases hx:x∈names28
   ·right
    have hx2:x∈jr:=Jd.mem_iff.mpr hx;cases hf:iw p gM x (cw a) with
    |some Y=>exact absurd (ad0 eT (eV.mem_iff.mpr hx2) (by rw[hf];rfl)) nk
    |none=>
     obtain⟨cM,h1,h2⟩:=Q4 cf wa (by lia) hx2 hf r;exact⟨cM,h1,by rw[eT];exact h2⟩
   ·exact .inl (Gq (by rw[hD];exact hx))
  ·exact .inl λn hm e=>hn ⟨n,hm,e⟩
theorem RU(h:i.natAbs<10^40):i.natAbs.log2<1920/\(toString i:Str).length<=1000:=by
 constructor
 ·by_cases h0:i.natAbs=0
  ·rw[h0];decide
  ·exact(Nat.log2_lt h0).mpr (jF (Nat.lt_trans h (by decide:10^40<2^200)) (Nat.pow_le_pow_right (by decide) (by decide)))
 ·have h1:=int_text_length_le10 (a:=i) (k:=40) (by decide) h;show(Str.ofString (toString i)).length<=1000;rw[ofString_length];lia
noncomputable def kD(k:KP):Dat:=.tuple [.int k.1,.str k.2]
theorem CU{K:Frag}{H:Hp}:∀{ks:List KP}{zs:List V},eP K H zs (ks.map hZ)->iq K H zs (ks.map kD)
 | [],[],_=>.nil
 | [],_::_,h=>nomatch h.1
 |_::_,[],h=>nomatch h.1
 |k::ks,v::zs,h=>by
  obtain⟨t,rfl,g⟩:=h.2 0 v (hZ k) rfl rfl;exact .cons (.tuple g (.cons (.int _) (.cons (.str _) .nil))) (CU (zs:=zs) ⟨Nat.succ.inj h.1,λi x kv e1 e2=>h.2 (i+1) x kv e1 e2⟩)
theorem JM{ks:List KP}(h:∀k∈ks,PyData.strOk k.2=true):kqdOk 8 (.list (ks.map kD))=true:=by
 show(ks.map kD).all (kqdOk 7)=true;refine fh.mpr λe he=>?_;obtain⟨k,hk,rfl⟩:=lh.mp he;show([Dat.int k.1,.str k.2].all (kqdOk 6))=true;rw[nM,nM,rh 6 (h k hk),Ii];rfl
theorem ad1:jr.all (λx=>PyData.strOk x)=true:=by decide +kernel
structure LL(K:Frag)(p:Int)(H:Hp)(dk cl:Addr)(cs:List Int)(n:Nat)(aw:Addr)(d:D1.Dr)(rl:Addr)(rs:List Str)(tb:Addr)(bf:List (List Key×V))(du:Addr)(zs:List V)(ks:List KP):Prop where
 dk:Dk H dk cl cs n
 gw:H aw=some (.lst (cw d).bb)
 gr:H rl=some (.lst (rs.map V.str))
 gt:H tb=some (.dT bf)
 tb:iy H bf (jD p d rs)
 gd:H du=some (.lst zs)
 du:eP K H zs (ks.map hZ)
theorem ad2{K:Frag}{H':Hp}{t:Addr}{xs ys:List V}(s:i3 dk H H')(g:H dk=some (.lst ys))(h:cg K H t xs):cg K H' t xs:=by
 rcases h with(h|⟨o,h⟩)|h
 ·exact .inl (.inl (s _ _ (λz=>by rw[z,g]at h;cases h) h))
 ·exact .inl (.inr ⟨o,s _ _ (λz=>by rw[z,g]at h;cases h) h⟩)
 ·exact .inr h
theorem ad3{q:KP×List V}(pp:p∈eZ)(hd:d.wf p)(h:q∈jD p d rs):∀v∈q.2,(∃n,v=.int n)\/∃x,v=.str x/\PyData.strOk x=true:=by
 obtain⟨p2,cf⟩:=pX p pp;obtain⟨n,a,r,y,Y,h,wa,hy,hf,rfl⟩:=JL hd h;have fo:=Je pp (by lia) (ft wa) hf;intro v hv;rcases(iG.mp hv)with(hv|hv)
 ·rcases(iG.mp hv)with(hv|hv)
  ·exact lT (ft hd) v (List.mem_of_mem_take hv)
  ·exact lT fo.ok v hv
 ·exact lT (ft hd) v (List.mem_of_mem_drop hv)
theorem iy.CV{H':Hp}{cl:Addr}{n:Int}{bf:List (List Key×V)}:∀{L:List (KP×List V)},iy H bf L->i3 dk H H'->H dk=some (.lst [.ref cl,.int n])->(∀q∈L,∀v∈q.2,(∃n,v=.int n)\/∃x,v=.str x/\PyData.strOk x=true)->iy H' bf L:=by
 intro L h s g hf;unfold iy at h |-;induction h with
 |nil=>exact .nil
 | @cons kv q bf L a _ i=>
  obtain⟨e,l,b,c⟩:=a;refine .cons ⟨e,l,b,s _ _ (λz=>?_) c⟩ (i λq' hq=>hf q' (e9 _ hq));rw[z,g]at c;have e2:q.2=[.ref cl,.int n]:=(HO.lst.inj (eF c)).symm;rcases hf q c6 (.ref cl) (by rw[e2];exact c6)with⟨_,y⟩|⟨_,y,_⟩<;>cases y
section
variable{K:Frag}{p:Int}{H H':Hp}{dk cl:Addr}{cs:List Int}{n:Nat}{aw:Addr}{d:D1.Dr}{rl:Addr}{rs:List Str}{tb:Addr}{bf:List (List Key×V)}{du:Addr}{zs:List V}{ks:List KP}
theorem LL.mono(h:LL K p H dk cl cs n aw d rl rs tb bf du zs ks)(s:bh H H'):LL K p H' dk cl cs n aw d rl rs tb bf du zs ks:=⟨h.dk.mono s,s _ _ h.gw,s _ _ h.gr,s _ _ h.gt,h.tb.mono λ_ _ g=>s _ _ g,s _ _ h.gd,h.du.mono s⟩
theorem LL.CV{n':Nat}(pp:p∈eZ)(hd:d.wf p)(hr:rs≠[])(h:LL K p H dk cl cs n aw d rl rs tb bf du zs ks)(s:i3 dk H H')(g:Dk H' dk cl cs n'):LL K p H' dk cl cs n' aw d rl rs tb bf du zs ks:=by
 have gd:=h.dk.gd;refine⟨g,s _ _ (λz=>?_) h.gw,s _ _ (λz=>?_) h.gr,s _ _ (λz=>by have:=h.gt;rw[z,gd]at this;cases this) h.gt,h.tb.CV s gd λq hq=>ad3 pp hd hq,s _ _ (λz=>?_) h.gd,⟨h.du.1,λi x kv e1 e2=>let ⟨t,e,g⟩:=h.du.2 i x kv e1 e2;⟨t,e,ad2 s gd g⟩⟩⟩
 ·have e:=h.gw;obtain⟨x,t,ht⟩:=RB d;rw[z,gd,kO,ht]at e;cases e
 ·have e:=h.gr;rw[z,gd]at e;cases rs with
  |nil=>exact hr rfl
  |cons a t=>cases e
 ·have e:=h.gd;rw[z,gd]at e;have e:zs=[.ref cl,.int (n:Int)]:=(HO.lst.inj (eF e)).symm;have hl:=h.du.1;rw[e]at hl;obtain⟨kv,vB⟩:∃kv,(ks.map hZ)[1]?=some kv:=⟨_,gk (by rw[<- hl];exact Nat.lt_succ_self 1)⟩;obtain⟨t,y,_⟩:=h.du.2 1 (.int (n:Int)) kv (by rw[e];rfl) vB;cases y
end
noncomputable abbrev sL(sc dk aw rl tb du:Addr)(c p:Int)(s8 s9 eY:Option V)(one eC i:Int)(x:Str):St:=[some (.ref sc),some (.ref dk),some (.int c),some (.int p),some (.ref aw),some (.ref rl),some (.ref tb),some (.ref du),s8,s9,eY,some (.int one),some (.int eC),some (.int i),some (.str x)]
def RV(K:Frag)(DD:List (Str×V)):TS:=cU (Ku (tB (ij (JJ K DD) [] E0 (bo (br 3) (bo (br 4) (bo (br 13) (bo (br 14) (bo (My (br 6) (eX (bo (br 13) (bo (br 14) bQ)))) bQ)))))))) (dG (tC (.bl false))) eA
def RW(K:Frag)(DD:List (Str×V)):TS:=cu (cU (eM (bw lz (bw g6 (br 11) (tC (.int 11))) (tC (.int 2)))) (cR (ij (JC K) [] E0 (bo (br 1) (bo (br 5) bQ))) (bY 14)) eA) (RV K DD)
section
variable{K:Frag}{p c:Int}{H:Hp}{sc dk cl:Addr}{cs:List Int}{n:Nat}{aw:Addr}{d:D1.Dr}{rl:Addr}{rs:List Str}{tb:Addr}{bf:List (List Key×V)}{du:Addr}{zs:List V}{ks:List KP}{DD:List (Str×V)}{D:Ends}{s8 s9 eY:Option V}{one eC:Int}
theorem RX(pp:p∈eZ)(hd:d.wf p)(hl:d.bb.length<=80)(eV:rs.Perm jr)(hD:DD.map Prod.fst=names28)(h:LL K p H dk cl cs n aw d rl rs tb bf du zs ks)(hi:i.natAbs<10^40)(hx:i9 60 x)
  (q:∀H',LL K p H' dk cl cs n aw d rl rs tb bf du zs ks->D.nx (sL sc dk aw rl tb du c p s8 s9 eY one eC i x) H'):RV K DD D (sL sc dk aw rl tb du c p s8 s9 eY one eC i x) H:=by
 obtain⟨a1,a2⟩:=RU hi;refine⟨_,rfl,_,rfl,_,rfl,_,rfl,_,rfl,tb,rfl,.inr ⟨bf,.inl h.gt⟩,_,rfl,_,rfl,by show 2<=sizeLine;decide,λt ht=>?_⟩;have s1:=bh.upd (o:=.tup [.int i,.str x]) ht;have h1:=h.mono s1;have gt:(upd H t (.tup [.int i,.str x])) t=some (.tup ((jq (i,x)).map kV)):=bz;generalize upd H t (.tup [.int i,.str x])=H1 at s1 h1 gt |-;refine⟨_,e7.t h1.gt gt,p,aw,i,x,_,d,rfl,pp,h1.gw,hd,hl,hx,a1,a2,RS pp hd hl eV hD h1.tb i x,λH2 s2=>?_⟩;exact⟨true,rfl,dE (q H2 (h1.mono s2))⟩
theorem JN(pp:p∈eZ)(hd:d.wf p)(hl:d.bb.length<=80)(eV:rs.Perm jr)(hD:DD.map Prod.fst=names28)(h:LL K p H dk cl cs n aw d rl rs tb bf du zs ks)(hn:n<=900)(hi:i.natAbs<10^40)(hx:i9 60 x)
  (q:∀n' i x H',n'<=n+1->LL K p H' dk cl cs n' aw d rl rs tb bf du zs ks->D.nx (sL sc dk aw rl tb du c p s8 s9 eY one eC i x) H'):RW K DD D (sL sc dk aw rl tb du c p s8 s9 eY one eC i x) H:=by
 have hr:rs≠[]:=λe=>by have:=eV.length_eq;rw[e]at this;cases this
 refine⟨_,rfl,one,11,rfl,rfl,(by decide:(0:Int)<11),rfl,_,rfl,lC (λ_=>?_) (λ_=>?_)⟩
 ·refine⟨_,rfl,_,rfl,dk,cl,rl,cs,n,rs,rfl,h.dk,hn,h.gr,eV,λy H1 s1 g1 hy=>?_⟩;exact RX pp hd hl eV hD (h.CV pp hd hr s1 g1) hi hy λH' h'=>q (n+1) i y H' (cF _) h'
 ·exact RX pp hd hl eV hD h hi hx λH' h'=>q n i x H' (by lia) h'
theorem Av{k:KP}(hd:d.wf p)(hl:d.bb.length<=80)(eV:rs.Perm jr)(h:k∈(jD p d rs).map Prod.fst):k.1.natAbs<10^40/\i9 60 k.2/\PyData.strOk k.2=true:=by
 obtain⟨q,hq,rfl⟩:=lh.mp h;obtain⟨m,a,r,y,Y,h0,wa,hy,hf,rfl⟩:=JL hd hq;have Ai:=eV.mem_iff.mp hy;have t:=wz (fh.mp JB y Ai);refine⟨?_,⟨by have:=t.1;lia,t.2⟩,fh.mp ad1 y Ai⟩
 have:=jA.fits (d:=cw d) ⟨r,h0⟩
 rw[mI]at this;show((m:Int)).natAbs<10^40;lia
def RY(K:Frag)(DD:List (Str×V)):TS:=cu (cU (eh (eM (bw lz (bw g6 (br 11) (tC (.int 5))) (tC (.int 1)))) (eM (bw (o8 K true) (br 7) (cP bQ)))) (cR (bw (gJ K) (br 7) (bw g6 (bw ji (br 11) (tC (.int 5))) (lA (CN K) (bo (br 7) bQ)))) (L0 K 13 14)) eA) (RW K DD)
theorem ad4(pp:p∈eZ)(hd:d.wf p)(hl:d.bb.length<=80)(eV:rs.Perm jr)(hD:DD.map Prod.fst=names28)(h:LL K p H dk cl cs n aw d rl rs tb bf du zs ks)(hk:ks.Perm ((jD p d rs).map Prod.fst))(hn:n<=900)(hi:i.natAbs<10^40)(hx:i9 60 x)
  (q:∀n' i x H',n'<=n+1->LL K p H' dk cl cs n' aw d rl rs tb bf du zs ks->D.nx (sL sc dk aw rl tb du c p s8 s9 eY one eC i x) H'):RY K DD D (sL sc dk aw rl tb du c p s8 s9 eY one eC i x) H:=by
 refine⟨_,rfl,one,5,rfl,rfl,(by decide:(0:Int)<5),rfl,_,rfl,lC (λ_=>?_) (λ_=>dE (JN pp hd hl eV hD h hn hi hx q))⟩;refine⟨_,rfl,by decide,λl hl0=>?_⟩;have s1:=bh.upd (o:=.lst []) hl0;have h1:=h.mono s1;have gl:(upd H l (.lst [])) l=some (.lst []):=bz;generalize upd H l (.lst [])=H1 at s1 h1 gl |-;have CW:∀k∈ks,PyData.strOk k.2=true:=λk iT=>(Av hd hl eV (hk.mem_iff.mp iT)).2.2;refine⟨_,_,.list (.of h1.gd) (CU h1.du),.list (.of gl) .nil,JM CW,rfl,_,rfl,?_⟩;cases ks with
 |nil=>exact Az rfl (JN pp hd hl eV hD h1 hn hi hx q)
 |cons k0 kr=>
  refine MN (λe=>by cases e) ?_;obtain⟨j,k,e1,e2⟩:=sX (xs:=k0::kr) (n:=kr.length+1) rfl (Nat.succ_pos _) (one/5);have JO:zs.length=kr.length+1:=by have:=h1.du.1;rw[cB]at this;exact this
  obtain⟨v,ev⟩:∃v,zs[j]?=some v:=⟨_,gk (by have:=(fO.mp e1).1;rw[JO];exact this)⟩;obtain⟨t,rfl,gt⟩:=h1.du.2 j v (hZ k) ev (by rw[fw,e1];rfl);refine⟨_,rfl,_,rfl,one,5,rfl,rfl,⟨by decide,by decide⟩,_,rfl,du,_,rfl,.inl (.of h1.gd),one/5,(zs.length:Int),rfl,rfl,?_,du,_,(j:Int),.ref t,rfl,?_,.of h1.gd,cc ev,?_⟩
  ·show(0:Int)<(zs.length:Int);rw[JO];lia
  ·rw[JO];exact ai V.int e2
  ·refine VM (x:=.int k.1) (y:=.str k.2) gt ?_;obtain⟨k1,k2,_⟩:=Av hd hl eV (hk.mem_iff.mp (iO e1));exact JN pp hd hl eV hD h1 hn k1 k2 q
theorem ad5{L:List Int}(hL:L.length=5){P:Int->Prop}(hP:∀i∈L,P i){j:Int}(h0:0<=j)(h1:j<5):∃i,P i/\jK (L.map V.int) j=some (.int i):=by
 obtain⟨i,hi⟩:∃i,L[j.toNat]?=some i:=⟨_,gk (by lia)⟩;refine⟨i,hP i (iO hi),?_⟩
 have:jK (L.map V.int) ((j.toNat:Nat):Int)=some (.int i):=cc (by rw[fw,hi];rfl)
 rwa[show((j.toNat:Nat):Int)=j by lia]at this
abbrev rMx:List V->Hp->VK->Prop:=λxs H Q=>∃i j:Int,xs=[.int i,.int j]/\Q (.int (if j>i then j else i)) H
def CY(K:Frag):TE:=lA (CN K) (bo (br 4) bQ)
def RZ:TE:=KI (rU λi=>.int (-i)) (tC (.int 1))
def R0(K:Frag):TE:=bw (gJ K) (cP (bo (bw g6 (bw ji (br 11) (tC (.int 5))) (CY K)) (bo RZ (bo (CY K) (bo (bw (dZ λi j=>.int (i+j)) (CY K) (br 12)) (bo (bw (dZ λi j=>.int (i-j)) RZ (br 12)) bQ)))))) (lA rMx (bo (tC (.int 0)) (bo (bw (dZ λi j=>.int (i-j)) (bw g6 (br 11) (tC (.int 9))) (tC (.int 4))) bQ)))
def R1(K:Frag)(DD:List (Str×V)):TS:=cu (cR (bw (dZ λi j=>.int (i+j)) (ij (wq K) [] E0 (bo (br 1) bQ)) (br 2)) (bY 11)) (cu (cR (bw g6 (bw ji (br 11) (tC (.int 5))) (bw (rI KJ λi j=>.int (i^j.toNat)) (tC (.int 10)) (tC (.int 30)))) (bY 12)) (cu (cR (R0 K) (bY 13)) (cu (cR (bw (gJ K) (br 5) (bw g6 (bw ji (br 11) (tC (.int 7))) (lA (CN K) (bo (br 5) bQ)))) (bY 14)) (RY K DD))))
theorem ad6{zw s12 jx jy:Option V}(pp:p∈eZ)(hd:d.wf p)(hl:d.bb.length<=80)(eV:rs.Perm jr)(hD:DD.map Prod.fst=names28)(h:LL K p H dk cl cs n aw d rl rs tb bf du zs ks)(hk:ks.Perm ((jD p d rs).map Prod.fst))(hn:n<=800)
  (q:∀n' one eC i x H',n'<=n+2->LL K p H' dk cl cs n' aw d rl rs tb bf du zs ks->D.nx (sL sc dk aw rl tb du c p s8 s9 eY one eC i x) H'):R1 K DD D [some (.ref sc),some (.ref dk),some (.int c),some (.int p),some (.ref aw),some (.ref rl),some (.ref tb),some (.ref du),s8,s9,eY,zw,s12,jx,jy] H:=by
 have z:=kq;have hr:rs≠[]:=λe=>by have:=eV.length_eq;rw[e]at this;cases this
 have cT:rs.length=28:=eV.length_eq.trans (by decide);have qG:(cw d).bb.length<=80:=by rw[mI];exact hl
 have hw0:=(cw d).pos;unfold R1;refine fz ⟨_,rfl,dk,cl,cs,n,rfl,h.dk.gd,h.dk.gc,h.dk.hl,by lia,λc1 H1 s1 k1=>?_⟩;have h1:=h.CV pp hd hr s1 (h.dk.next s1 k1);refine⟨_,rfl,c1,c,rfl,rfl,?_⟩;obtain⟨one,ad7⟩:∃one,c1+c=one:=⟨_,rfl⟩;rw[show(λi j:Int=>V.int (i+j)) c1 c=V.int one from ai V.int ad7]
 refine fz ⟨_,rfl,one,5,rfl,rfl,⟨by decide,by decide⟩,10,30,rfl,rfl,⟨by decide,by decide,by decide⟩,one/5,10^(30:Int).toNat,rfl,rfl,(by decide:(0:Int)<10^(30:Int).toNat),?_⟩;obtain⟨eC,JP⟩:∃eC,one/5%10^(30:Int).toNat=eC:=⟨_,rfl⟩;have f0:0<=eC:=by rw[<- JP];exact nN _ (by decide)
 have f1:eC<10^(30:Int).toNat:=by rw[<- JP];exact nO _ (by decide)
 have f1:eC<1000000000000000000000000000000:=f1;rw[show(λi j:Int=>V.int (i%j)) (one/5) (10^(30:Int).toNat)=V.int eC from ai V.int JP]
 have m0:=nN (one/5) (show((cw d).bb.length:Int)≠0 by lia);have m1:=nO (one/5) (show(0:Int)<((cw d).bb.length:Int) by lia);have ln:∀{σ:St}{H':Hp}{R:VK},σ[4]?=some (some (.ref aw))->H' aw=some (.lst (cw d).bb)->R (.int ((cw d).bb.length:Int)) H'->CY K σ H' R:=λh4 g q=>⟨_,h4,aw,_,rfl,.inl (.of g),q⟩;refine fz ?_;unfold R0;refine n8 (lstK ?_);refine⟨_,rfl,one,5,rfl,rfl,⟨by decide,by decide⟩,ln rfl h1.gw ⟨one/5,_,rfl,rfl,(by show(0:Int)<_;lia),1,rfl,ln rfl h1.gw (ln rfl h1.gw ⟨_,rfl,_,eC,rfl,rfl,1,rfl,_,rfl,-1,eC,rfl,rfl,?_⟩)⟩⟩;refine⟨by show 5<=sizeLine;lia,λla wx=>?_⟩;have s2:=bh.upd (o:=.lst ([one/5%((cw d).bb.length:Int),-1,((cw d).bb.length:Int),((cw d).bb.length:Int)+eC,-1-eC].map V.int)) wx;have h2:=h1.mono s2;have n0:=nN one (show(9:Int)≠0 by decide);have n1:=nO one (show(0:Int)<9 by decide);obtain⟨i,hi,ei⟩:=ad5 (L:=[one/5%((cw d).bb.length:Int),-1,((cw d).bb.length:Int),((cw d).bb.length:Int)+eC,-1-eC]) rfl (P:=λi=>i.natAbs<10^40) (λi hi=>by
  simp only[dI,uq,or_false]at hi;rcases hi with rfl|rfl|rfl|rfl|rfl<;>lia) (j:=if one%9-4>0 then one%9-4 else 0) (by split<;>lia) (by split<;>lia)
 have ga:(upd H1 la (.lst ([one/5%((cw d).bb.length:Int),-1,((cw d).bb.length:Int),((cw d).bb.length:Int)+eC,-1-eC].map V.int))) la=some (.lst ([one/5%((cw d).bb.length:Int),-1,((cw d).bb.length:Int),((cw d).bb.length:Int)+eC,-1-eC].map V.int)):=bz;refine⟨_,rfl,one,9,rfl,rfl,(by decide:(0:Int)<9),one%9,4,rfl,rfl,0,one%9-4,rfl,la,_,_,.int i,rfl,rfl,.of ga,ei,?_⟩;have CZ:LL K p (upd H1 la (.lst ([one/5%((cw d).bb.length:Int),-1,((cw d).bb.length:Int),((cw d).bb.length:Int)+eC,-1-eC].map V.int))) dk cl cs (n+1) aw d rl rs tb bf du zs ks:=h2;show cu _ _ _ _ (upd H1 la (.lst ([one/5%((cw d).bb.length:Int),-1,((cw d).bb.length:Int),((cw d).bb.length:Int)+eC,-1-eC].map V.int)));generalize upd H1 la (.lst ([one/5%((cw d).bb.length:Int),-1,((cw d).bb.length:Int),((cw d).bb.length:Int)+eC,-1-eC].map V.int))=H2 at CZ |-;obtain⟨j,x,e1,e2⟩:=sX cT (by decide) (one/7);have hx:=wz (fh.mp JB x (eV.mem_iff.mp (iO e1)));refine fz (n8 ⟨_,rfl,_,rfl,one,7,rfl,rfl,⟨by decide,by decide⟩,_,rfl,rl,_,rfl,.inl (.of CZ.gr),one/7,((rs.map V.str).length:Int),rfl,rfl,(by rw[cB,cT];show(0:Int)<28;decide),rl,_,(j:Int),.str x,rfl,?_,.of CZ.gr,cc (j:=j) (by rw[fw,e1];rfl),?_⟩)
 ·rw[cB,cT];exact ai V.int e2
 exact ad4 pp hd hl eV hD CZ hk (by lia) hi ⟨by have:=hx.1;lia,hx.2⟩ λn' i x H' rX h'=>q n' one eC i x H' (by lia) h'
end
theorem R3(d:Int)(h0:0<=d)(h1:d<25):∃q,q∈eZ/\jK (eZ.map V.int) d=some (.int q):=by
 obtain⟨q,hq⟩:∃q,eZ[d.toNat]?=some q:=⟨_,gk (show d.toNat<25 by lia)⟩;refine⟨q,iO hq,?_⟩;rw[show d=((d.toNat:Nat):Int) by lia];exact cc (by rw[fw,hq];rfl)
def R4:Sp:=λvs H Q _=>∃c:Int,vs=[.int c]/\∀p H',p∈eZ->bh H H'->Q (.int p) H'
theorem R5:dD ["cell","primes"] ["cell"] (cN E7):=dU rfl rfl rfl (by decide +kernel) rfl
theorem ad8(F:c9 K "_law_prime" "_law_prime" E7 f fd):ck P w K mg base cA 1 f fd ["cell"] R4:=by
 refine F.ok R5 (λvs H Q E h=>?_) (λcI A outer s H vs Q E hr h=>?_)
 ·obtain⟨c,rfl,_⟩:=h;rfl
 ·obtain⟨c,rfl,q⟩:=h;refine⟨cu (cR (Md eZ) (bY 1)) (dG (bw (gJ K) (cP (bo (bw (gJ K) (br 1) (bw (rI (λ_ j=>0<j) λi j=>.int (i%j)) (bw (rI se λi j=>.int (i/j)) (br 0) (tC (.int 2))) (tC (.int 4)))) (bo (bw (gJ K) (br 1) (bw (rI (λ_ j=>0<j) λi j=>.int (i%j)) (bw (rI se λi j=>.int (i/j)) (br 0) (tC (.int 2))) (tC (.int 25)))) bQ))) (bw (rI (λ_ j=>0<j) λi j=>.int (i%j)) (br 0) (tC (.int 2))))),bD ?_ ?_,?_⟩
  ·refine cx ?_ ?_ ?_ ?_ ?_ ?_
   ·exact R5.nd
   ·rfl
   ·exact Or.inl rfl
   ·refine VU ?_;exact VT (by kernel_rfl)
   ·rfl
   ·exact .inl rfl
  ·refine bK ?_;refine cE ?_;refine bO ?_ ?_ ?_ ?_
   ·exact de K rfl
   ·refine cK ?_;refine bg ?_ ?_
    ·exact bO (de K rfl) (pv 1) (bH eI (bH gE (pv 0) bp) bp)
    ·refine bg ?_ bq;exact bO (de K rfl) (pv 1) (bH eI (bH gE (pv 0) bp) bp)
   ·exact bH eI (pv 0) bp
   ·exact λ_ _=>rfl
  obtain⟨q1,m1,e1⟩:=R3 (c/2%4) (by lia) (by lia);obtain⟨q2,m2,e2⟩:=R3 (c/2%25) (by lia) (by lia);refine⟨(by show 25<=sizeLine;decide),λl hl=>?_⟩;dsimp only[bY];refine⟨_,rfl,_,rfl,_,_,rfl,rfl,⟨by decide,by decide⟩,_,_,rfl,rfl,(show(0:Int)<4 by decide),l,_,_,_,rfl,rfl,.of bz,e1,?_⟩;refine⟨_,rfl,_,rfl,_,_,rfl,rfl,⟨by decide,by decide⟩,_,_,rfl,rfl,(show(0:Int)<25 by decide),l,_,_,_,rfl,rfl,.of bz,e2,?_⟩;refine⟨(by show 2<=sizeLine;decide),λl2 ip=>⟨_,rfl,_,_,rfl,rfl,(show(0:Int)<2 by decide),?_⟩⟩;have hc:c%2=0\/c%2=1:=by lia
  rcases hc with hc|hc
  ·exact⟨l2,_,_,.int q1,rfl,rfl,.of bz,by rw[hc];exact cc (j:=0) rfl,q q1 _ m1 ((bh.upd hl).trans (.upd ip))⟩
  ·exact⟨l2,_,_,.int q2,rfl,rfl,.of bz,by rw[hc];exact cc (j:=1) rfl,q q2 _ m2 ((bh.upd hl).trans (.upd ip))⟩
def C0(K:Frag):Sp:=λvs H Q _=>∃(a:Addr)(ns:List Int),vs=[.ref a]/\dC K H a (ns.map V.int)/\ns.length<=63/\∀H',Q (.bl true) H'
theorem jE:dD ["script","deck","cell","p","words","rules","table","due","handed","found","k","one","far","at","rule"] ["script"] (cN p7):=dU rfl rfl rfl (by decide +kernel) rfl
theorem R6{zs ys:List V}{ks:List KP}{Y N:Hp->Prop}(ga:H a=some (.lst zs))(gb:H b=some (.lst ys))(ha:eP K H zs (ks.map hZ))(hb:eP K H ys (ks.map hZ))(hk:∀k∈ks,PyData.strOk k.2=true)(q:N H):o8 K true (.ref a) (.ref b) H λx H1=>∃c,x=.bl c/\if c=true then Y H1 else N H1:=
 ⟨_,_,.list (.of ga) (CU ha),.list (.of gb) (CU hb),JM hk,JM hk,_,rfl,Az rfl q⟩
theorem ad9{ws:List V}{Y N:Hp->Prop}(ga:cg K H a ws)(gb:cg K H b ws)(hw:∀v∈ws,(∃n,v=.int n)\/∃x,v=.str x/\PyData.strOk x=true)(q:N H):o8 K true (.ref a) (.ref b) H λx H1=>∃c,x=.bl c/\if c=true then Y H1 else N H1:=by
 obtain⟨a1,a2⟩:=zd (K:=K) (H:=H) hw;exact⟨_,_,.tuple ga a1,.tuple gb a1,a2,a2,_,rfl,Az rfl q⟩
set_option maxRecDepth 100000 in
theorem aea{fN fP fG fJ fR fC fT fV fX fA:Addr}{lU yz zr qS R7 R8 lJ R9 Sa lL:FuncData}{DD:List (Str×V)}(F:c9 K "law" "law" p7 f fd)(T:Txt mg)(B:JH K mg)(hD:DD.map Prod.fst=names28)
  (GN:ck P w K mg base cA 1 fN lU ["deck"] (wq K)) (kN:Kp K fN) (bN:Binds K lU ["deck"] []) (mN:Mg mg "_law_next" fN)
  (GP:ck P w K mg base cA 1 fP yz ["cell"] R4) (kP:Kp K fP) (bP:Binds K yz ["cell"] []) (mP:Mg mg "_law_prime" fP)
  (GG:ck P w K mg base cA 4 fG zr ["p","cells","most"] (FT K)) (kG:Kp K fG) (bG:Binds K zr ["p","cells","most"] []) (mG:Mg mg "_law_grown" fG)
  (GJ:ck P w K mg base cA 5 fJ qS ["p","deck","words"] (RF K)) (kJ:Kp K fJ) (bJ:Binds K qS ["p","deck","words"] []) (mJ:Mg mg "_law_joined" fJ)
  (GR:ck P w K mg base cA 1 fR R7 [] (QX K)) (kR:Kp K fR) (bR:Binds K R7 [] []) (mR:Mg mg "_law_rules" fR)
  (GC:ck P w K mg base cA 1 fC R8 [] (QN K)) (kC:Kp K fC) (bC:Binds K R8 [] []) (mC:Mg mg "_law_closed" fC)
  (GT:ck P w K mg base cA 64 fT lJ ["p","words","rules","closed"] (Rh K)) (kT:Kp K fT) (bT:Binds K lJ ["p","words","rules","closed"] []) (mT:Mg mg "_law_table" fT)
  (GV:ck P w K mg base cA 9 fV R9 ["p","words"] (OE K names28)) (kV:Kp K fV) (bV:Binds K R9 ["p","words"] []) (mV:Mg mg "moves" fV)
  (GX:ck P w K mg base cA 2 fX Sa ["deck","rules"] (JC K)) (kX:Kp K fX) (bX:Binds K Sa ["deck","rules"] []) (mX:Mg mg "_law_text" fX)
  (GA:ck P w K mg base cA 10 fA lL ["p","words","at","rule","due"] (JJ K DD)) (kA:Kp K fA) (bA:Binds K lL ["p","words","at","rule","due"] []) (mA:Mg mg "_law_asked" fA) :
  ck P w K mg base cA 65 f fd ["script"] (C0 K):=by
 refine F.ok jE (λvs H Q E h=>?_) (λcI A outer s H vs Q E hr h=>?_)
 ·obtain⟨a,ns,rfl,_⟩:=h;rfl
 ·obtain⟨a,ns,rfl,ha,hn,q⟩:=h;have hu:=hr.units;have eJ:=nh hr;have z:=kq;have r1:dS 1 _:=hr.mono (by lia);have r2:dS 2 _:=hr.mono (by lia);have r4:dS 4 _:=hr.mono (by lia);have r5:dS 5 _:=hr.mono (by lia);have r9:dS 9 _:=hr.mono (by lia);have Ar:dS 10 _:=hr.mono (by lia);refine⟨_,bD (cx (i:=1) jE.nd rfl (.inl rfl) (cK (bg (jJ (qL K rfl) (pv 0) mf (iS bp)) (bg bp bq)))) (bD (cx (i:=2) jE.nd rfl (.inl rfl) (cZ GN r1 rfl mN kN bN .nil cX (bg (pv 1) bq))) (bD (cx (i:=3) jE.nd rfl (.inl rfl) (cZ GP r1 rfl mP kP bP .nil cX (bg (cZ GN r1 rfl mN kN bN .nil cX (bg (pv 1) bq)) bq))) (bD (cx (i:=4) jE.nd rfl (.inl rfl) (cZ GJ r5 rfl mJ kJ bJ .nil cX (bg (pv 3) (bg (pv 1) (bg (bO (de K rfl) (cZ GG r4 rfl mG kG bG .nil cX (bg (pv 3) (bg (jJ (qL K rfl) (pv 0) (iS bp) (iS bp)) (bg bp bq)))) bp) bq))))) (bD (cx (i:=5) jE.nd rfl (.inl rfl) (K0 GR r1 rfl mR kR bR .nil cX)) (bD (cx (i:=6) jE.nd rfl (.inl rfl) (cZ GT hr rfl mT kT bT .nil cX (bg (pv 3) (bg (pv 4) (bg (pv 5) (bg (K0 GC r1 rfl mC kC bC .nil cX) bq)))))) (bD (cx (i:=7) jE.nd rfl (.inl rfl) (gu (acN K rfl rfl) rfl B.JI Hr (bg (pv 6) bq))) (bD (cx (i:=8) jE.nd rfl (.inl rfl) (oX (AA K rfl) rfl T.tuple vg (bg (pv 4) bq))) (bD (cx (i:=9) jE.nd rfl (.inl rfl) (cZ GV r9 rfl mV kV bV .nil cX (bg (pv 3) (bg (pv 8) bq)))) (bD (cO (PW.pt (wQ (zR (oS (gu (WY K rfl (T := "list")) rfl T.isinstance pW (bg (pv 9) (bg (sy rfl T.list EA) bq))))) (wQ (cj (xB K rfl hu) (pv 9) (pv 7) (cm _)) (DB (cj (xB K rfl hu) (pv 8) (oX (AA K rfl) rfl T.tuple vg (bg (pv 4) bq)) (cm _)))))) (bK (cE rZ)) cW) (bD (l7 (Ah ll PySem.F.slot_list_clear PySem.F.type_list_clear UX (pv 9))) (bD (cO (cj (xB K rfl hu) (cZ GV r9 rfl mV kV bV .nil cX (bg (pv 3) (bg (pv 8) bq))) (pv 7) (cm _)) (bK (cE rZ)) cW) (bD (cO (zR (oS (cZ GA Ar rfl mA kA bA .nil cX (bg (pv 3) (bg (pv 4) (bg bp (bg bI (bg (Mz eJ (pv 6) (dh (bg bp (bg bI bq))) ⟨rfl,rfl,rfl,rfl⟩) bq)))))))) (bK (cE rZ)) cW) (bD (lx lq rfl (qA rfl T.range (bg bp bq)) (eL (i:=10) jE.nd rfl (.inl rfl)) (bD (cx (i:=11) jE.nd rfl (.inl rfl) (bH gC (cZ GN r1 rfl mN kN bN .nil cX (bg (pv 1) bq)) (pv 2))) (bD (cx (i:=12) jE.nd rfl (.inl rfl) (bH eI (bH gE (pv 11) bp) (bH Ub bp bp))) (bD (cx (i:=13) jE.nd rfl (.inl rfl) (bO (de K rfl) (cK (bg (bH eI (bH gE (pv 11) bp) (gu (ko K rfl) rfl T.len j3 (bg (pv 4) bq))) (bg (r8 sf bp) (bg (gu (ko K rfl) rfl T.len j3 (bg (pv 4) bq)) (bg (bH gC (gu (ko K rfl) rfl T.len j3 (bg (pv 4) bq)) (pv 12)) (bg (bH jZ (r8 sf bp) (pv 12)) bq)))))) (gu (Ug rfl) rfl T.max WD (bg bp (bg (bH jZ (bH eI (pv 11) bp) bp) bq))))) (bD (cx (i:=14) jE.nd rfl (.inl rfl) (bO (de K rfl) (pv 5) (bH eI (bH gE (pv 11) bp) (gu (ko K rfl) rfl T.len j3 (bg (pv 5) bq))))) (bD (cO (PW.pt (fQ (cj cS (bH eI (pv 11) bp) bp (cm _)) (iB (cj (xB K rfl hu) (pv 7) (cK bq) (cm _))))) (bK (uJ (bO (de K rfl) (pv 7) (bH eI (bH gE (pv 11) bp) (gu (ko K rfl) rfl T.len j3 (bg (pv 7) bq)))) (Mb (n:=2) K rfl rfl (lr (eL (i:=13) jE.nd rfl (.inl rfl)) (lr (eL (i:=14) jE.nd rfl (.inl rfl)) wR))))) cW) (bD (cO (cj cS (bH eI (pv 11) bp) bp (cm _)) (bK (cx (i:=14) jE.nd rfl (.inl rfl) (cZ GX r2 rfl mX kX bX .nil cX (bg (pv 1) (bg (pv 5) bq))))) cW) (bK (cO (zR (oS (cZ GA Ar rfl mA kA bA .nil cX (bg (pv 3) (bg (pv 4) (bg (pv 13) (bg (pv 14) (bg (Mz eJ (pv 6) (dh (bg (pv 13) (bg (pv 14) bq))) ⟨rfl,rfl,rfl,rfl⟩) bq)))))))) (bK (cE rZ)) cW))))))))) (bK (cE rZ))))))))))))))),?_⟩;obtain⟨cs,ecs,lcs⟩:=CB ns none (some 63);refine⟨_,rfl,63,rfl,a,_,rfl,ha,λlc qg=>?_⟩;rw[ecs];refine⟨by show 2<=sizeLine;lia,λdk wB=>?_⟩;have JQ:H dk=none:=ph (bh.upd qg) wB;have s0:=(bh.upd (o:=.lst (cs.map V.int)) qg).trans (bh.upd (o:=.lst [.ref lc,.int 0]) wB);have D0:Dk (upd (upd H lc (.lst (cs.map V.int))) dk (.lst [.ref lc,.int 0])) dk lc cs 0:=⟨bz,bh.upd wB _ _ bz,(λe=>by rw[<- e,bz]at wB;cases wB),by lia⟩;have sc:∀H',i3 dk (upd (upd H lc (.lst (cs.map V.int))) dk (.lst [.ref lc,.int 0])) H'->dC K H' a (ns.map V.int):=λH' sB=>by
   rcases ha with(h|⟨o,h⟩)|h
   ·exact .inl (.inl (sB _ _ (λe=>by rw[e,JQ]at h;cases h) (s0 _ _ h)))
   ·exact .inl (.inr ⟨o,sB _ _ (λe=>by rw[e,JQ]at h;cases h) (s0 _ _ h)⟩)
   ·exact .inr h
  generalize upd (upd H lc (.lst (cs.map V.int))) dk (.lst [.ref lc,.int 0])=H0 at D0 sc |-;clear s0 ha wB qg JQ;dsimp only[bY];refine⟨_,rfl,dk,lc,cs,0,rfl,D0.gd,D0.gc,D0.hl,by lia,λc H1 s1 k1=>?_⟩;have rF:=D0.next s1 k1;dsimp only[bY];refine⟨_,rfl,dk,lc,cs,1,rfl,rF.gd,rF.gc,rF.hl,by lia,λc2 H2 s2 k2=>?_⟩;have D2:=rF.next s2 k2;refine⟨c2,rfl,λp H3 pp s3=>?_⟩;obtain⟨p2,cf⟩:=pX p pp;have D3:=D2.mono s3;have Sb:=sc H3 ((show i3 dk H0 H1 from s1).trans ((show i3 dk H1 H2 from s2).trans (.of s3)))
  clear sc;dsimp only[bY];obtain⟨ms,Jx,lms⟩:=CB ns (some 2) (some 63);refine⟨_,rfl,_,rfl,_,rfl,_,rfl,2,rfl,63,rfl,a,_,rfl,Sb,λl2 h2=>?_⟩;rw[Jx];refine⟨p,l2,28,ms,rfl,pp,bz,by lia,by decide,λf1 g H4 s4 hT w1 w2 w3 w4=>?_⟩;obtain⟨b,gf,gb⟩:=hT;have D4:=D3.mono ((bh.upd (o:=.lst (ms.map V.int)) h2).trans s4);refine⟨f1,_,0,.ref b,rfl,rfl,.of gf,cc (j:=0) rfl,p,dk,lc,b,cs,2,g,rfl,pp,D4,by lia,gb,w1,w3,λaw d H5 s5 D5 gw jd=>?_⟩;have gw:H5 aw=some (.lst (cw d).bb):=by rw[kO];exact gw
  have og:=jd.wf;have hl:=jd.len;have qG:(cw d).bb.length<=80:=by rw[mI];exact hl
  have bZ:=ft og;clear D4 D3 D2 rF D0 Sb;dsimp only[bY];refine⟨rfl,λrl rs H6 s6 gr eV=>?_⟩;have nd:rs.Nodup:=eV.nodup_iff.mpr adg;have cT:rs.length=28:=eV.length_eq.trans (by decide);dsimp only[bY];refine⟨_,rfl,_,rfl,_,rfl,rfl,λcl2 H7 s7 pB=>?_⟩;refine⟨p,aw,rl,cl2,d,rs,rfl,pp,(s6.trans s7) _ _ gw,s7 _ _ gr,pB,og,by lia,jd.dep,nd,by lia,λtb bf H8 s8 gt hT=>?_⟩;have knd:((jD p d rs).map Prod.fst).Nodup:=by rw[Cn];exact ac8 nd _ _
  have Sd:((jD p d rs).map Prod.fst).length<64:=by rw[Cn];exact Nat.lt_of_le_of_lt (ada nd) jd.mc
  dsimp only[bY];refine⟨_,rfl,tb,bf,_,rfl,.inl gt,hT.keys,knd,Sd,λdu zs ks Se hz hp hs=>?_⟩;have s9:=bh.upd (o:=.lst zs) Se;have L9:LL K p (upd H8 du (.lst zs)) dk lc cs 12 aw d rl rs tb bf du zs ks:=⟨D5.mono (s6.trans (s7.trans (s8.trans s9))),(s6.trans (s7.trans (s8.trans s9))) _ _ gw,(s7.trans (s8.trans s9)) _ _ gr,s9 _ _ gt,hT.mono λ_ _ g=>s9 _ _ g,bz,hz.mono s9⟩;generalize upd H8 du (.lst zs)=H9 at L9 |-;clear s9 hz hT gt gr gw pB D5 Se;have CW:∀k∈ks,PyData.strOk k.2=true:=λk iT=>(Av og hl eV (hp.mem_iff.mp iT)).2.2;dsimp only[bY];refine⟨_,rfl,aw,_,rfl,.inl ⟨.of L9.gw,λth Sf=>?_⟩⟩;have sA:=bh.upd (o:=.tup (cw d).bb) Sf;have gh:cg K (upd H9 th (.tup (cw d).bb)) th (cw d).bb:=.of bz;have LA:=L9.mono sA;generalize upd H9 th (.tup (cw d).bb)=HA at gh LA |-;clear L9 sA Sf;have JR:(oj (cw d) names28 (jC p d)).Perm ((jD p d rs).map Prod.fst):=adf (eV.trans Jd);have Sg:=JR.nodup_iff.mpr knd;have Sh:(oj (cw d) names28 (jC p d)).length<64:=by rw[JR.length_eq];exact Sd
  have fb:=adh cf og (by lia);have Si:∀{iY:List KP},iY.Perm (oj (cw d) names28 (jC p d))->iY.Pairwise (λa b=>iD a b=true)->iY=ks:=λh1 h2=>Rc h2 hs λk=>(h1.trans JR).mem_iff.trans hp.mem_iff.symm;dsimp only[bY];refine⟨_,rfl,_,rfl,p,th,cw d,jC p d,rfl,bZ,cf,by lia,gh,fb,Sg,Sh,λfl jN ks2 HB y0 sB gf HL EE lG=>?_⟩;cases Si EE lG;have LB:=LA.mono sB;have ghB:=sB.cV gh;dsimp only[bY];refine⟨_,rfl,fl,_,true,rfl,gf,WZ K,true,rfl,dE ?_⟩;refine⟨_,rfl,_,rfl,R6 gf LB.gd HL LB.du CW ?_⟩;refine⟨_,rfl,_,rfl,aw,_,rfl,.inl ⟨.of LB.gw,λt2 mq=>ad9 ((bh.upd mq).cV ghB) (.of bz) (lT bZ) ?_⟩⟩;have sC:=sB.trans (bh.upd (o:=.tup (cw d).bb) mq);have JS:=bh.upd (o:=.tup (cw d).bb) mq _ _ gf;generalize upd HB t2 (.tup (cw d).bb)=HC at sC JS |-;refine⟨_,rfl,.inl ⟨rfl,_,dC.of JS⟩,fl,_,rfl,rfl,JS,?_⟩;have sD:bh HA (upd HC fl (.lst [])):=sC.put y0;generalize upd HC fl (.lst [])=HD at sD |-;have LD:=LA.mono sD;refine⟨_,rfl,_,rfl,p,th,cw d,jC p d,rfl,bZ,cf,by lia,sD.cV gh,fb,Sg,Sh,λfl2 zs3 ks3 HE aet sE gf3 hz3 hp3 hs3=>?_⟩;cases Si hp3 hs3;have LE:=LD.mono sE;refine⟨_,rfl,R6 gf3 LE.gd hz3 LE.du CW ?_⟩;have t0:i9 60 (Str.ofString "cross"):=wz (by decide +kernel);obtain⟨a1,a2⟩:=RU (i:=0) (by decide);refine⟨_,rfl,_,rfl,_,rfl,tb,rfl,.inr ⟨bf,.inl LE.gt⟩,by show 2<=sizeLine;decide,λt ht=>?_⟩;have sF:=bh.upd (o:=.tup [.int 0,.str (Str.ofString "cross")]) ht;have LF:=LE.mono sF;have zj:(upd HE t (.tup [.int 0,.str (Str.ofString "cross")])) t=some (.tup ((jq ((0:Int),Str.ofString "cross")).map L2.kV)):=bz;generalize upd HE t (.tup [.int 0,.str (Str.ofString "cross")])=HF at sF LF zj |-;refine⟨_,e7.t LF.gt zj,p,aw,0,Str.ofString "cross",_,d,rfl,pp,LF.gw,og,hl,t0,a1,a2,RS pp og hl eV hD LF.tb 0 _,λHG sG=>⟨true,rfl,dE ?_⟩⟩;have LG:=LF.mono sG;refine⟨20,rfl,by decide,by decide,w6 (n:=(20:Int).toNat) (λk σ H'=>∃m eY zw s12 jx jy,m<=12+2*k/\LL K p H' dk lc cs m aw d rl rs tb bf du zs ks/\σ=[some (.ref a),some (.ref dk),some (.int c),some (.int p),some (.ref aw),some (.ref rl),some (.ref tb),some (.ref du),some (.ref th),some (.ref fl),eY,zw,s12,jx,jy]) ⟨12,none,none,none,none,none,by lia,LG,rfl⟩ ?_ ?_⟩
  ·rintro k σ H' hk ⟨m,eY,zw,s12,jx,jy,hm,L,rfl⟩;have hk:k<20:=hk;dsimp only[bY];exact ad6 pp og hl eV hD L hp (by lia) λn' one eC i x dY rX L'=>⟨n',_,_,_,_,_,by lia,L',rfl⟩
  ·rintro σ H' ⟨m,eY,zw,s12,jx,jy,hm,L,rfl⟩;exact q H'
theorem Sj:∀(us:List Value),us.length=0->bindArgs fd ⟨[],[]⟩=pure (ps.zip [])->bindArgs fd ⟨us,[]⟩=pure (ps.zip us)
 | [],_,h=>h
theorem oG(h:∀a0,bindArgs fd ⟨[a0],[]⟩=pure (ps.zip [a0])):∀(us:List Value),us.length=1->bindArgs fd ⟨us,[]⟩=pure (ps.zip us)
 | [a0],_=>h a0
theorem pJ(h:∀a0 a1,bindArgs fd ⟨[a0,a1],[]⟩=pure (ps.zip [a0,a1])):∀(us:List Value),us.length=2->bindArgs fd ⟨us,[]⟩=pure (ps.zip us)
 | [a0,a1],_=>h a0 a1
theorem qp(h:∀a0 a1 a2,bindArgs fd ⟨[a0,a1,a2],[]⟩=pure (ps.zip [a0,a1,a2])):∀(us:List Value),us.length=3->bindArgs fd ⟨us,[]⟩=pure (ps.zip us)
 | [a0,a1,a2],_=>h a0 a1 a2
theorem wC(h:∀a0 a1 a2 a3,bindArgs fd ⟨[a0,a1,a2,a3],[]⟩=pure (ps.zip [a0,a1,a2,a3])):∀(us:List Value),us.length=4->bindArgs fd ⟨us,[]⟩=pure (ps.zip us)
 | [a0,a1,a2,a3],_=>h a0 a1 a2 a3
theorem Sk(h:∀a0 a1 a2 a3 a4,bindArgs fd ⟨[a0,a1,a2,a3,a4],[]⟩=pure (ps.zip [a0,a1,a2,a3,a4])):∀(us:List Value),us.length=5->bindArgs fd ⟨us,[]⟩=pure (ps.zip us)
 | [a0,a1,a2,a3,a4],_=>h a0 a1 a2 a3 a4
structure FA(K:Frag)(x:Str)(st:Stmt)(f:Addr)(fd:FuncData):Prop where
 a:nsIn K mainGlobals x=some (some (.ref f))
 F:c9 K x x st f fd
 k:keepIn K (.ref f)=true
theorem FA.of{K:Frag}{st:Stmt}{od an:Option Addr}{sl:Array (Option Value)}{oc kV dc pm cd ct:Value}(a:nsIn K mainGlobals x=some (some (.ref f)))(l:K.lookup f=some ⟨oc,od,.func (fnOf x x (qH st) (ng st) (cN st) .none kV dc pm an cd ct),sl⟩)(c:PySem.W.codeIn K cd x=true)(k:keepIn K (.ref f)=true):FA K x st f (fnOf x x (qH st) (ng st) (cN st) .none kV dc pm an cd ct):=⟨a,Lq l c k,k⟩
theorem all_mk{l:PySem.W.OpenLaw}{w:World}{K:Frag}{h:Heap}{mg:Str->Option Value}{fa f1 f2 f3 f4 f5 f6 f7 f8 f9 f10 f11 f12 f13 f14 f15 f16 f17 f18 f19 f20 f21 f22 f23 f24 f25 f26 f27 f28 f29 f30 f31 f32 f33 f34 f35 f36 f37 f38 f39 f40 JT:Addr}(X:K.In h)(G:h.Ns mainGlobals mg)(hfa:mg "law"=some (.ref fa))
  {aeb Sl:Option Addr} {aec:Array (Option Value)} {aed Sm Sn So JU Sr:Value} {d1 d2 d3 d4 d5 d6 d7 d8 d9 d10 d11 d12 d13 d14 d15 d16 d17 d18 d19 d20 d21 d22 d23 d24 d25 d26 d27 d28 d29 d30 d31 d32 d33 d34 d35 d36 d37 d38 d39 d40:FuncData}
  (A1:FA K "turned" EU f1 d1)
  (A2:FA K "wires" EV f2 d2)
  (A3:FA K "folded" EW f3 d3)
  (A4:FA K "all_folded" AH f4 d4)
  (A5:FA K "ends" EX f5 d5)
  (A6:FA K "end_of" AI f6 d6)
  (A7:FA K "measured" EY f7 d7)
  (A8:FA K "measure" AJ f8 d8)
  (A9:FA K "joined_sides" EZ f9 d9)
  (A10:FA K "first_unmet" AK f10 d10)
  (A11:FA K "moved" E1 f11 d11)
  (A12:FA K "moves" AL f12 d12)
  (A13:FA K "fitting" AM f13 d13)
  (A14:FA K "matched" E2 f14 d14)
  (A15:FA K "allowed" E3 f15 d15)
  (A16:FA K "filled" E4 f16 d16)
  (A17:FA K "filled_piece" E5 f17 d17)
  (A18:FA K "_law_next" E6 f18 d18)
  (A19:FA K "_law_prime" E7 f19 d19)
  (A20:FA K "_law_some_box" AN f20 d20)
  (A21:FA K "_law_told_box" E8 f21 d21)
  (A22:FA K "_law_beside_all" E9 f22 d22)
  (A23:FA K "_law_more" Fb f23 d23)
  (A24:FA K "_law_grown" Fc f24 d24)
  (A25:FA K "_law_tree" Fd f25 d25)
  (A26:FA K "_law_flat" Fe f26 d26)
  (A27:FA K "_law_closed" AO f27 d27)
  (A28:FA K "_law_turns" AQ f28 d28)
  (A29:FA K "_law_numbers" Ff f29 d29)
  (A30:FA K "_law_side" Fg f30 d30)
  (A31:FA K "_law_joint" Fh f31 d31)
  (A32:FA K "_law_fit" Fj f32 d32)
  (A33:FA K "_law_end" Fl f33 d33)
  (A34:FA K "_law_table" Fm f34 d34)
  (A35:FA K "_law_rules" Fo f35 d35)
  (A36:FA K "_law_from" Fp f36 d36)
  (A37:FA K "_law_small" Fq f37 d37)
  (A38:FA K "_law_joined" AR f38 d38)
  (A39:FA K "_law_text" Fs f39 d39)
  (A40:FA K "_law_asked" Ft f40 d40)
  (a41:nsIn K mainGlobals "law"=some (some (.ref JT))) (l41:K.lookup JT=some ⟨aed,aeb,.func (fnOf "law" "law" (qH p7) (ng p7) (cN p7) .none Sm Sn So Sl JU Sr),aec⟩) (c41:PySem.W.codeIn K JU "law"=true) (k41:keepIn K (.ref JT)=true)
  (z1:nsIn K mainGlobals "range"=some none) (z2:nsIn K mainGlobals "zip"=some none) (z3:nsIn K mainGlobals "tuple"=some none) (z4:nsIn K mainGlobals "list"=some none) (z5:nsIn K mainGlobals "int"=some none) (z6:nsIn K mainGlobals "bool"=some none) (z7:nsIn K mainGlobals "isinstance"=some none) (z8:nsIn K mainGlobals "len"=some none) (z9:nsIn K mainGlobals "sum"=some none) (z10:nsIn K mainGlobals "max"=some none) (z11:nsIn K mainGlobals "min"=some none) (z12:nsIn K mainGlobals "enumerate"=some none) (z13:nsIn K mainGlobals "any"=some none) (z14:nsIn K mainGlobals "all"=some none) (z15:nsIn K mainGlobals "str"=some none)
  (hx1:JE K=true) (hx2:JG K=true) :
  ∃fd:FuncData,(∀(s:Shared)(v:Value),BindsTo s fd ⟨[v],[]⟩ [("script",v)])/\∀base:Heap,K.In base->base.Ns mainGlobals mg->ck l.prog w K mg base cA 65 fa fd ["script"] (C0 K):=by
 have e:=hfa.symm.trans (dv X G a41);cases e;have T:Txt mg:=⟨jt X G z1,jt X G z2,jt X G z3,jt X G z4,jt X G z5,jt X G z6,jt X G z7,jt X G z8,jt X G z9,jt X G z10,jt X G z11,jt X G z12,jt X G z13,jt X G z14,jt X G z15⟩;obtain⟨PT,SD,RT,LT,oR,hN⟩:=adV X G hx1;have B:=adU X G hx2;have HH:names28.length<=100:=by decide +kernel
 obtain⟨a1,F1,k1⟩:=A1;obtain⟨a2,F2,k2⟩:=A2;obtain⟨a3,F3,k3⟩:=A3;obtain⟨a4,F4,k4⟩:=A4;obtain⟨a5,F5,k5⟩:=A5;obtain⟨a6,F6,k6⟩:=A6;obtain⟨a7,F7,k7⟩:=A7;obtain⟨a8,F8,k8⟩:=A8;obtain⟨a9,F9,k9⟩:=A9;obtain⟨a10,C1,JV⟩:=A10;obtain⟨a11,Ss,k11⟩:=A11;obtain⟨a12,Su,k12⟩:=A12;obtain⟨a13,C2,Sv⟩:=A13;obtain⟨a14,C3,JW⟩:=A14;obtain⟨a15,C4,JX⟩:=A15;obtain⟨a16,Sw,k16⟩:=A16;obtain⟨a17,Sx,k17⟩:=A17;obtain⟨a18,C5,JY⟩:=A18;obtain⟨a19,Sy,k19⟩:=A19;obtain⟨a20,zx,C6⟩:=A20;obtain⟨a21,zy,C7⟩:=A21;obtain⟨a22,C8,JZ⟩:=A22;obtain⟨a23,J0,Sz⟩:=A23;obtain⟨a24,J1,SA⟩:=A24;obtain⟨a25,J2,SE⟩:=A25;obtain⟨a26,SF,k26⟩:=A26;obtain⟨a27,SG,k27⟩:=A27;obtain⟨a28,SH,k28⟩:=A28;obtain⟨a29,SI,k29⟩:=A29;obtain⟨a30,SJ,k30⟩:=A30;obtain⟨a31,SK,k31⟩:=A31;obtain⟨a32,SM,k32⟩:=A32;obtain⟨a33,SN,k33⟩:=A33;obtain⟨a34,SO,k34⟩:=A34;obtain⟨a35,SQ,k35⟩:=A35;obtain⟨a36,SR,k36⟩:=A36;obtain⟨a37,SS,k37⟩:=A37;obtain⟨a38,SU,k38⟩:=A38;obtain⟨a39,SV,k39⟩:=A39;obtain⟨a40,SW,k40⟩:=A40;have F41:=Lq (st:=p7) l41 c41 k41;have b1:=F1.binds (ps:=["p","number"]) λ_ _ _ _ _ _=>pJ λ_ _=>rfl;have m1:=dv X G a1;have b2:=F2.binds (ps:=["words"]) λ_ _ _ _ _ _=>oG λ_=>rfl;have m2:=dv X G a2;have b3:=F3.binds (ps:=["words","made"]) λ_ _ _ _ _ _=>pJ λ_ _=>rfl;have m3:=dv X G a3;have b4:=F4.binds (ps:=["words","made"]) λ_ _ _ _ _ _=>pJ λ_ _=>rfl;have m4:=dv X G a4;have b5:=F5.binds (ps:=["words"]) λ_ _ _ _ _ _=>oG λ_=>rfl;have m5:=dv X G a5;have b6:=F6.binds (ps:=["place","word","parts"]) λ_ _ _ _ _ _=>qp λ_ _ _=>rfl;have m6:=dv X G a6;have b7:=F7.binds (ps:=["words"]) λ_ _ _ _ _ _=>oG λ_=>rfl;have m7:=dv X G a7;have b8:=F8.binds (ps:=["place","word","parts"]) λ_ _ _ _ _ _=>qp λ_ _ _=>rfl;have m8:=dv X G a8;have b9:=F9.binds (ps:=["word","parts"]) λ_ _ _ _ _ _=>pJ λ_ _=>rfl;have m9:=dv X G a9;have J3:=C1.binds (ps:=["parts"]) λ_ _ _ _ _ _=>oG λ_=>rfl;have J4:=dv X G a10;have b11:=Ss.binds (ps:=["p","words","at","rule"]) λ_ _ _ _ _ _=>wC λ_ _ _ _=>rfl;have m11:=dv X G a11;have b12:=Su.binds (ps:=["p","words"]) λ_ _ _ _ _ _=>pJ λ_ _=>rfl;have m12:=dv X G a12;have SX:=C2.binds (ps:=["words","behind","at","rule"]) λ_ _ _ _ _ _=>wC λ_ _ _ _=>rfl;have SY:=dv X G a13;have J5:=C3.binds (ps:=["words","behind","at","text"]) λ_ _ _ _ _ _=>wC λ_ _ _ _=>rfl;have J6:=dv X G a14;have J7:=C4.binds (ps:=["rule","found"]) λ_ _ _ _ _ _=>pJ λ_ _=>rfl;have J8:=dv X G a15;have b16:=Sw.binds (ps:=["p","found","text"]) λ_ _ _ _ _ _=>qp λ_ _ _=>rfl;have m16:=dv X G a16;have b17:=Sx.binds (ps:=["p","found","piece"]) λ_ _ _ _ _ _=>qp λ_ _ _=>rfl;have m17:=dv X G a17;have J9:=C5.binds (ps:=["deck"]) λ_ _ _ _ _ _=>oG λ_=>rfl;have Ka:=dv X G a18;have b19:=Sy.binds (ps:=["cell"]) λ_ _ _ _ _ _=>oG λ_=>rfl;have m19:=dv X G a19;have C9:=zx.binds (ps:=["p","cell"]) λ_ _ _ _ _ _=>pJ λ_ _=>rfl;have Dc:=dv X G a20;have Dd:=zy.binds (ps:=["cell"]) λ_ _ _ _ _ _=>oG λ_=>rfl;have De:=dv X G a21;have Kb:=C8.binds (ps:=["parts"]) λ_ _ _ _ _ _=>oG λ_=>rfl;have Kc:=dv X G a22;have S0:=J0.binds (ps:=["p","one","cell","most"]) λ_ _ _ _ _ _=>wC λ_ _ _ _=>rfl;have S3:=dv X G a23;have S4:=J1.binds (ps:=["p","cells","most"]) λ_ _ _ _ _ _=>qp λ_ _ _=>rfl;have S6:=dv X G a24;have S8:=J2.binds (ps:=["words"]) λ_ _ _ _ _ _=>oG λ_=>rfl;have S9:=dv X G a25;have b26:=SF.binds (ps:=["tree"]) λ_ _ _ _ _ _=>oG λ_=>rfl;have m26:=dv X G a26;have b27:=SG.binds (ps:=[]) λ_ _ _ _ _ _ us hl=>Sj us hl rfl;have m27:=dv X G a27;have b28:=SH.binds (ps:=["p","rule","one"]) λ_ _ _ _ _ _=>qp λ_ _ _=>rfl;have m28:=dv X G a28;have b29:=SI.binds (ps:=["p","rule","one","other"]) λ_ _ _ _ _ _=>wC λ_ _ _ _=>rfl;have m29:=dv X G a29;have Ta:=SJ.binds (ps:=["tree","side"]) λ_ _ _ _ _ _=>pJ λ_ _=>rfl;have Tb:=dv X G a30;have b31:=SK.binds (ps:=["rule","one","other"]) λ_ _ _ _ _ _=>qp λ_ _ _=>rfl;have m31:=dv X G a31;have b32:=SM.binds (ps:=["p","rule","tree","part","closed"]) λ_ _ _ _ _ _=>Sk λ_ _ _ _ _=>rfl;have m32:=dv X G a32;have b33:=SN.binds (ps:=["words","at"]) λ_ _ _ _ _ _=>pJ λ_ _=>rfl;have m33:=dv X G a33;have b34:=SO.binds (ps:=["p","words","rules","closed"]) λ_ _ _ _ _ _=>wC λ_ _ _ _=>rfl;have m34:=dv X G a34;have b35:=SQ.binds (ps:=[]) λ_ _ _ _ _ _ us hl=>Sj us hl rfl;have m35:=dv X G a35;have b36:=SR.binds (ps:=["p","many","cell"]) λ_ _ _ _ _ _=>qp λ_ _ _=>rfl;have m36:=dv X G a36;have b37:=SS.binds (ps:=["one"]) λ_ _ _ _ _ _=>oG λ_=>rfl;have m37:=dv X G a37;have b38:=SU.binds (ps:=["p","deck","words"]) λ_ _ _ _ _ _=>qp λ_ _ _=>rfl;have m38:=dv X G a38;have b39:=SV.binds (ps:=["deck","rules"]) λ_ _ _ _ _ _=>pJ λ_ _=>rfl;have m39:=dv X G a39;have b40:=SW.binds (ps:=["p","words","at","rule","due"]) λ_ _ _ _ _ _=>Sk λ_ _ _ _ _=>rfl;have m40:=dv X G a40;exact⟨fnOf "law" "law" (qH p7) (ng p7) (cN p7) .none Sm Sn So Sl JU Sr,λs v=>.of_eq rfl,λbase _ _=>aea F41 T B hN (Js C5 T) JY J9 Ka (ad8 Sy) k19 b19 m19 (Ng J1 T (Bo zx T (Bm zy) C7 Dd De) C6 C9 Dc (Nf J0 T (Bo zx T (Bm zy) C7 Dd De) C6 C9 Dc (FI C8) JZ Kb Kc) Sz S0 S3) SA S4 S6 (adD SU T (Js C5 T) JY J9 Ka (Ng J1 T (Bo zx T (Bm zy) C7 Dd De) C6 C9 Dc (Nf J0 T (Bo zx T (Bm zy) C7 Dd De) C6 C9 Dc (FI C8) JZ Kb Kc) Sz S0 S3) SA S4 S6 (adt SS) k37 b37 m37 (adA SR T (FI C8) JZ Kb Kc) k36 b36 m36) k38 b38 m38 (acQ SQ B.JI) k35 b35 m35 (acK SG B.dict) k27 b27 m27 (adp SO T (aah SN T) k33 b33 m33 (Pp J2 T B.rev) SE S8 S9 (abS SM (Pp J2 T B.rev) SE S8 S9 (abJ SH T) k28 b28 m28 (aa5 SK (Qd SJ Ta Tb 60) k30 Ta Tb) k31 b31 m31 (aaX SI) k29 b29 m29) k32 b32 m32 (Nq SF T B.rev) k26 b26 m26) k34 b34 m34 (Zs Su RT oR hN HH B.JI (NI F5 (yh F4 T PT) k4 b4 m4 (NG F6) F6 b6 m6) k5 b5 m5 (NY C2 RT (G5 C3 T LT) JW J5 J6 (G9 C4 (GK F2 (Gy F7 (Gm F3 (yh F4 T PT) k4 b4 m4) k3 b3 m3 (Gw F8 SD (Gr C1) JV J3 J4 (Gu F9) k9 b9 m9) F8 b8 m8) k7 b7 m7) k2 b2 m2) JX J7 J8) Sv SX SY) k12 b12 m12 (adS SV T (Js C5 T) JY J9 Ka) k39 b39 m39 (adZ SW T B (aad Ss (NI F5 (yh F4 T PT) k4 b4 m4 (NG F6) F6 b6 m6) k5 b5 m5 (ck.or (NY C2 RT (G5 C3 T LT) JW J5 J6 (G9 C4 (GK F2 (Gy F7 (Gm F3 (yh F4 T PT) k4 b4 m4) k3 b3 m3 (Gw F8 SD (Gr C1) JV J3 J4 (Gu F9) k9 b9 m9) F8 b8 m8) k7 b7 m7) k2 b2 m2) JX J7 J8) (Ys C2 RT (G5 C3 T LT) JW J5 J6 (G9 C4 (GK F2 (Gy F7 (Gm F3 (yh F4 T PT) k4 b4 m4) k3 b3 m3 (Gw F8 SD (Gr C1) JV J3 J4 (Gu F9) k9 b9 m9) F8 b8 m8) k7 b7 m7) k2 b2 m2) JX J7 J8)) Sv SX SY (Yo Sw (Ym Sx (Yh F1 T) k1 b1 m1) k17 b17 m17) k16 b16 m16 B.mM B.sR) k11 b11 m11) k40 b40 m40⟩
theorem walk{l:PySem.W.OpenLaw}{q:Program}{u0:List Str}{XP:(Str->Option Value)->Heap->Prop}{YP:World->Heap->Prop}{d:DefRec}{K:Params->Frag}(hn:l.most=some 63)(xq:d.params.defaults=[])
  (hY:∀(w:World)(h:Heap),YP w h->(K w.params).In h)
  (F:∀(w:World)(mg:Str->Option Value)(fa:Addr)(h:Heap),(K w.params).In h->h.Ns mainGlobals mg->mg d.name=some (.ref fa)->
   ∃fd:FuncData,(∀(s:Shared)(u:Value),BindsTo s fd ⟨[u],[]⟩ [("script",u)])/\∀base:Heap,(K w.params).In base->base.Ns mainGlobals mg->ck l.prog w (K w.params) mg base cA 65 fa fd ["script"] (C0 (K w.params))) :
  PySem.W.WalkO q u0 XP YP l.row.toRowW d [] (λf vs=>PySem.call f vs):=
 L2.U9 (n:=63) (k:=65) (x := "script") (CX:=λ_=>cA) (sp:=λw=>C0 (K w.params)) hn (by decide) xq ⟨rfl,by decide,by decide⟩ hY F (λ_ _ a ns hl _ hS=>⟨a,ns,rfl,hS,hl,λ_=>rfl⟩) λ_ _ _ _ _ z=>z
end S21
structure PySem.W.Fast:Prop where
 (tw15358749939318915337 tw4914346018580433081 tw10914824641282261364 tw8249021522616648017 tw2845490213544289832 tw198762041468421758 tw6527677363897284933 tw276785809353587691 tw6180433284888827074 tw9542076433966928183 tw17434602739151753022 tw4531364578144768365 tw7951595726339459559 tw2833163621574775892 tw14650792329807115625 tw15684056813847312427 tw17163454396414247893 tw16685730338925903771 tw12562162253760081658 tw6492628175059584612 tw16203998555028636742 tw6290577192180217083 tw7520892053136233305 tw10243355567375521334 tw1827703567670714174 tw10104496383842153823 tw3688164100799990185 tw6037669731186414820 tw10579564825188433389 tw14560259764717928264 tw10915920431854870417 tw9597063478532359091 tw10724981063059340696 tw6794520087557249352 tw3821239892799095016 tw13278725547915613892 tw8681981283065470188 tw11662748164909923902 tw2065015465524123595 tw8550562265553817204 tw377290031121759932 tw6153426566857638921 tw16524896610575675627 tw14777601560023423310 tw10990184012528522367 tw11391709628139815546 tw13282175031401630000 tw13471092713598928893 tw2375564211520327621 tw1617934082092457900 tw3677801228387179371 tw5385735132791958354 tw11803356794936235260 tw4726853529915842677 tw61920681760927349 tw1839510522594919891 tw14179797962514435378 tw2631009224888365933 tw13529102495750282358 tw13164235970007521552 tw11537478386852897094 tw12742285221717891112 tw1036154089975381716 tw15276395547820461235 tw5034795880419241124 tw3055338577348186085 tw6075237148122972661 tw11499886161125141241 tw11004724491476680541 tw12610243211500941866 tw16572165930249590981 tw5218595507624928404 tw13272173491619729171 tw11212779773603471337 tw14239225226089571329 tw212340742778394384 tw4192287682038513920 tw12988589971692968853 tw17940852289764033660 tw14358317024469399996 tw4555536032067400386 tw9055259954919076647 tw5030388841263104982 tw5638561728594653065 tw16577801336627307526 tw17096931415894546576 tw802605993627489296 tw18402431970780788207 tw8882849579787854199 tw14889630598021154294 tw16656264986860856333 tw4199628611831474666 tw6272774543081778653 tw669371888056274692 tw5143084870395785322 tw6183048495069302419 tw17024094072668928599 tw8877907865693045418 tw8419356360282171509 tw530375585237725178:True)
open PySem PySem.W PyProof.Rows
set_option maxRecDepth 100000 in
set_option maxHeartbeats 0 in
theorem PySem.Challenge.cw_bentwires_k52_moves_and_no_move_holds : PySem.Challenge.rw_bentwires_k52_moves_and_no_move.Holds := by
 w_on;o_law;k_head;(case hw=>w_witness2)
 k_fill
 refine S21.walk (l:=PySem.Challenge.rw_bentwires_k52_moves_and_no_move) rfl rfl (fun w h Y=>PySem.W.kIn_of Y) ?F
 case F =>
  intro w mg fa h KX G hmg
  refine' S21.all_mk KX G hmg ?_ ?_ ?_ ?_ ?_ ?_ ?_ ?_ ?_ ?_ ?_ ?_ ?_ ?_ ?_ ?_ ?_ ?_ ?_ ?_ ?_ ?_ ?_ ?_ ?_ ?_ ?_ ?_ ?_ ?_ ?_ ?_ ?_ ?_ ?_ ?_ ?_ ?_ ?_ ?_ ?a41 ?l41 ?c41 ?k41 ?z1 ?z2 ?z3 ?z4 ?z5 ?z6 ?z7 ?z8 ?z9 ?z10 ?z11 ?z12 ?z13 ?z14 ?z15 ?hx1 ?hx2
  (case a41=>k_is)
  (case l41=>k_is)
  (case c41=>k_is)
  (case k41=>k_is)
  (case hx1=>kernel_rfl)
  (case hx2=>kernel_rfl)
  any_goals refine' S21.FA.of ?_ ?_ ?_ ?_
  any_goals k_is

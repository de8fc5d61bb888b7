import PyProof.Rows.All
import KE.KItemsList
import PyProof.Rows.SortWalk
import PyProof.DictTruth
import PyProof.DictWalks
import PyProof.ListRange
import PyProof.TupleOfStr
import PyProof.CallStr
import PyProof.StrWalks
import PyProof.Rows.StrNews
import PyProof.Rows.StrJoin2
import KE.KIntText
import PyProof.AttrMissHeap
import KE.KDictList
import KE.KTabLook
import KE.KLam
import Wide.All
import OpenK.AllK
import Wide.FinOn
import Lean
import PyProof.EqAt
import PyProof.EqKinds
import PyProof.TupleCall
import PySem.Challenge.RW_bentwires_k31_inner_and_stands
set_option compiler.extract_closed false
set_option maxHeartbeats 3900000
set_option maxRecDepth 100000
set_option Elab.async false
set_option linter.all false
open PySem.W(Frag keepIn nsIn fnOf kitOne kqdOk Dat)
noncomputable section
theorem rf{α:Sort u}{a:α}:a=a:=.refl a
def bu:=@List.length_map
def cm:=@List.length_append
def cn:=@Nat.le_refl
def cA:=@List.mem_singleton
def cN:=@List.mem_append
def cP:=@List.getElem?_eq_getElem
def cQ:=@List.mem_cons_self
def cV:=@List.mem_cons
def cX:=@PySem.Heap.lt_size
def dq:=@Option.some.inj
def dt:=@PySem.Heap.get?_push_of_some
def du:=@List.map_append
def dC:=@List.getElem?_eq_some_iff
def dD:=@List.mem_map
def dE:=@PySem.W.mg_of
def dG:=@List.getElem?_map
def dP:=@List.mem_of_getElem?
def dU:=@List.mem_cons_of_mem
def dW:=@List.length_cons
def dZ:=@List.mem_append_right
def eG:=@List.getD_eq_getElem?_getD
def eK:=@List.size_toArray
def eV:=@List.mem_append_left
def fi:=@PySem.Heap.get?_push_size
def fK:=@Nat.ne_of_lt
def gn:=@Nat.le_trans
def gy:=@List.length_take
def gM:=@Bool.and_eq_true
def gN:=@List.map_cons
def gO:=@List.take_add_one
def iJ:=@Bool.false_ne_true
def iK:=@List.getElem?_append_left
def iT:=@List.append_nil
def iU:=@List.take_length
def i4:=@List.append_assoc
def jb:=@List.getElem?_append_right
def jv:=@Nat.zero_le
def jw:=@PySem.PassesOwn.never
def jJ:=@List.getElem?_eq_none
def jV:=@List.mem_filter
def jW:=@List.length_drop
def jX:=@List.nil_append
def lJ:=@Nat.lt_of_lt_of_le
def lK:=@Nat.ne_of_gt
def lM:=@PySem.Heap.size_push
def mj:=@List.mem_range
def mm:=@PySem.Heap.SameBut.update
def mn:=@List.map_map
def mq:=@PySem.W.mg_none_of
def nJ:=@List.length_range'
def nK:=@List.mem_iff_getElem?
def oG:=@Int.dvd_mul_of_dvd_right
def oH:=@PySem.F.plainAttrs_list
def oI:=@List.mem_map_of_mem
def pz:=@List.take_of_length_le
def pA:=@Int.dvd_sub
def pB:=@List.mem_of_mem_take
def pC:=@List.mem_of_mem_drop
def qy:=@PySem.Heap.get?_update_self
def qz:=@List.not_mem_nil
def qA:=@PySem.F.slot_zip_next
def qB:=@Int.emod_nonneg
def qC:=@Int.emod_lt_of_pos
def qD:=@Int.zero_add
def qE:=@List.filter_append
def qF:=@List.filter_nil
def qG:=@List.nodup_append
def rW:=@Nat.lt_irrefl
def rX:=@PySem.W.kia_one
def rY:=@List.map_nil
def rZ:=@Nat.le_add_right
def r6:=@List.length_range
def r8:=@List.getElem_mem
def r9:=@List.range_succ
def uv:=@List.cons_append
def uw:=@List.map_congr_left
def ux:=@List.find?_cons
def uy:=@PySem.F.slot_list_append
def uz:=@PySem.F.type_list_append
def uA:=@Int.natCast_add
def vQ:=@Array.length_toList
def vR:=@PySem.mem_of_lookup
def vS:=@List.replicate_succ
def vT:=@List.lookup_cons
def vU:=@PySem.AutoSeq1.wpAny_loadPart'
def vV:=@List.all_eq_true
def vW:=@List.length_filter_le
def xO:=@List.nodup_cons
def xP:=@List.find?_eq_none
def xQ:=@PySem.Around.under_plainId
def zT:=@PyProof.Rows.callWith_type1
def zU:=@List.of_mem_zip
def zV:=@List.length_replicate
def zW:=@Nat.lt_succ_of_lt
def zX:=@List.length_zip
def zY:=@List.flatMap_cons
def zZ:=@List.mem_range'_1
def Aa:=@List.length_reverse
def Ab:=@Nat.min_eq_left
def CT:=@PySem.Calls.spliced_cons
def CU:=@Int.toNat_natCast
def CV:=@PyProof.Rows.slot_tuple_getitem
def CW:=@PySem.Heap.get?_update_other
def CY:=@List.flatten_cons
def CZ:=@PySem.F.args_zip_next_1
def C0:=@List.filter_cons_of_pos
def C1:=@List.filter_cons_of_neg
def C2:=@List.drop_eq_getElem_cons
def C3:=@List.reverse_cons
def C4:=@List.getD_cons_zero
def C5:=@List.getD_cons_succ
def C6:=@List.count_append
def C7:=@Array.getElem?_eq_getElem
def C8:=@List.reverse_append
def Hr:=@PySem.W.cellsFrom_some
def Hs:=@Array.getElem?_toList
def Ht:=@PySem.F.slot_dict_get
def Hu:=@List.getElem?_zip_eq_some
def Hv:=@List.mem_of_find?_eq_some
def Hw:=@PySem.F.slot_dict_keyiterator_next
def Ox:=@PySem.F.slot_tuple_iterator_next
def ae:=@decide_eq_false
def af:=@if_pos
def ag:=@if_neg
def ah:=@PySem.wpAny_mono
def ai:=@PySem.wpAny_truthy_bool
def aj:=@congrArg
def ak:=@PySem.wpAny_bind
def ao:=@PySem.wpAny_holding
def aq:=@PySem.wpAny_pure
def au:=@PySem.wpAny_passesOwn
def av:=@PySem.wpAny_Call_Name_kw
def ax:=@PySem.wpAny_newFunctionEnv_cells
def ay:=@PySem.wpAny_callSpecial?_slot
def az:=@PySem.wpAny_call_entry
def aA:=@PySem.wpAny_typeOf
def aC:=@PySem.wpAny_newObj_type
def aD:=@decide_eq_true
def aE:=@PySem.wpAny_updateSeq
def aF:=@or_false
def aG:=@PySem.wpAny_ite_false
def aI:=@decide_eq_false_iff_not
def aJ:=@decide_eq_true_eq
def aK:=@PySem.tupleKind_room_in1
def aL:=@of_decide_eq_true
def aM:=@PySem.wpAny_typeNameOfWhole_keyiter
def aN:=@PySem.wpAny_typeNameOf_keyiter
def aO:=@PySem.builtinLookup_eq_fast
def aQ:=@PySem.codeAny_builtin
def aR:=@PySem.plainId_quiet
abbrev Kp(K:Frag)(f:PySem.Addr):Prop:=keepIn K (.ref f)=true
abbrev Mg(m:PySem.Str->Option PySem.Value)(x:PySem.Str)(f:PySem.Addr):Prop:=m x=some (.ref f)
abbrev QV:=PySem.Value->PySem.Shared->Prop
abbrev LL:=List (List Int)
variable{P:PySem.Program}{w:PySem.World}{K:Frag}{mg:PySem.Str->Option PySem.Value}{base:PySem.Heap}
namespace L2
open PySem PySem.Spec PyProof.Rows
variable{A:Around}{D:Ends}{E:QV}{H:Hp}{M:Model}{Q:Unit->Shared->Prop}{X:Cx}{a b:Addr}{ch fp:List Addr}{e tg:Expr}{f:Value->Value->Sem Value}{g:TG}{h:Heap}{i n t':Nat}{o:HO}{op:CmpOp}{aU:List (Addr×Obj)}{r:R2}{s:Shared}{t:TE}{tb:TS}{u:Value}{us:List Value}{v:V}{x:Str}{xs:List V}{σ:St}
abbrev Key:=Sum Int Str
noncomputable def xR:Key->Value->Bool
 | .inl k,v=>Value.isInt k v
 | .inr x,v=>Value.isStrOf x v
noncomputable def Y1(w:World):Key->Int
 | .inl k=>hashInt k
 | .inr x=>hashStr w x
theorem qH:∀{k:Key}{v:Value},xR k v=true->(∃i t,k=Sum.inl i/\v=Value.int i t)\/(∃x t,k=Sum.inr x/\v=Value.str x t)
 | .inl i,v,h=>by
  obtain⟨t,e⟩:=Value.isInt_shape (k:=i) (v:=v) h;exact .inl ⟨i,t,rf,e⟩
 | .inr x,v,h=>by
  obtain⟨t,e⟩:=Value.isStrOf_shape (x:=x) (v:=v) h;exact .inr ⟨x,t,rf,e⟩
theorem Y2(i:Int)(t:Tok):xR (.inl i) (.int i t)=true:=by simp[xR,Value.isInt]
theorem Y3(x:Str)(t:Tok):xR (.inr x) (.str x t)=true:=by simp[xR,Value.isStrOf]
theorem Y4(a b:Int):decide ((Sum.inl a:Key)=Sum.inl b)=(a==b):=by
 by_cases e:a=b
 ·subst e;simp
 ·have h:¬(Sum.inl a:Key)=Sum.inl b:=λq=>e (Sum.inl.inj q);rw[ae h];exact(beq_eq_false_iff_ne.mpr e).symm
theorem Y5(a b:Str):decide ((Sum.inr a:Key)=Sum.inr b)=decide (a=b):=by
 by_cases e:a=b
 ·subst e;simp
 ·have h:¬(Sum.inr a:Key)=Sum.inr b:=λq=>e (Sum.inr.inj q);rw[ae h,ae e]
theorem Y6(a:Int)(b:Str):decide ((Sum.inl a:Key)=Sum.inr b)=false:=ae (λq=>nomatch q)
theorem Y7(a:Str)(b:Int):decide ((Sum.inr a:Key)=Sum.inl b)=false:=ae (λq=>nomatch q)
noncomputable def iu(prog:Program)(w:World):PySem.KeyKind prog w Key where
 is:=xR
 hash:=Y1 w
 inj:=λv a b ha hb=>by
  rcases qH ha with⟨i,t,rfl,rfl⟩|⟨x,t,rfl,rfl⟩
  ·rcases qH hb with⟨j,u,rfl,e⟩|⟨y,u,rfl,e⟩
   ·injection e with e1 _;rw[e1]
   ·exact nomatch e
  ·rcases qH hb with⟨j,u,rfl,e⟩|⟨y,u,rfl,e⟩
   ·exact nomatch e
   ·injection e with e1 _;rw[e1]
 byValue:=λk v h=>by
  rcases qH h with⟨i,t,rfl,rfl⟩|⟨x,t,rfl,rfl⟩<;>rfl
 pyHash:=λhv h=>by
  rcases qH hv with⟨i,t,rfl,rfl⟩|⟨x,t,rfl,rfl⟩
  ·exact wpAny_pyHash_int h
  ·exact wpAny_pyHash_str h
 eqBool:=λhu hv h=>by
  rcases qH hu with⟨i,t,rfl,rfl⟩|⟨x,t,rfl,rfl⟩
  ·rcases qH hv with⟨j,u,rfl,rfl⟩|⟨y,u,rfl,rfl⟩
   ·rw[Y4]at h;exact wpAny_eqBool_int h
   ·rw[Y6]at h;exact SeqAt.EqAt.int_str i t y u _ _ _ _ h
  ·rcases qH hv with⟨j,u,rfl,rfl⟩|⟨y,u,rfl,rfl⟩
   ·rw[Y7]at h;exact SeqAt.EqAt.str_int x t j u _ _ _ _ h
   ·rw[Y5]at h;exact wpAny_eqBool_str h
 «strs»:=λk x t v h=>by
  rcases qH h with⟨i,u,rfl,e⟩|⟨y,u,rfl,e⟩
  ·exact nomatch e
  ·injection e with e1 _;subst e1;cases v<;>rfl
theorem Y8(prog:Program)(w:World)(i:Int)(t:Tok):(iu prog w).is (.inl i) (.int i t)=true:=Y2 i t
theorem Y9(prog:Program)(w:World)(x:Str)(t:Tok):(iu prog w).is (.inr x) (.str x t)=true:=Y3 x t
inductive V where
 |df|bl (b:Bool)|int (i:Int)|str (x:Str)|nL (b:Array UInt8)|xS (b:UInt64)|ref (a:Addr)|ty (n:String)
 deriving DecidableEq
def RelV:V->Value->Prop
 | .df,u=>u=Value.none
 | .bl b,u=>u=Value.bool b
 | .int i,u=>∃t,u=Value.int i t
 | .str x,u=>∃t,u=Value.str x t
 | .nL b,u=>∃t,u=Value.bytes b t
 | .xS b,u=>∃t,u=Value.float b t
 | .ref a,u=>u=Value.ref a
 | .ty n,u=>u=Value.type n
abbrev Vals:List V->List Value->Prop:=Paired RelV
theorem Vals.length{xs:List V}{us:List Value}(r:Vals xs us):xs.length=us.length:=Paired.length r
theorem Vals.get:∀{xs:List V}{us:List Value}{i:Nat}{x:V},Vals xs us->xs[i]?=some x->∃u,us[i]?=some u/\RelV x u
 |_,_,_,_,.nil,e=>by simp at e
 |_,_,0,_,.cons r _,e=>by simp at e;subst e;exact⟨_,rf,r⟩
 |_,_,i+1,x,.cons _ t,e=>by
  obtain⟨u,h1,h2⟩:=Vals.get (i:=i) (x:=x) t (by simpa using e);exact⟨u,by simpa using h1,h2⟩
theorem Vals.set{x:V}{u:Value}(r:RelV x u):∀{xs:List V}{us:List Value}(i:Nat),Vals xs us->Vals (xs.set i x) (us.set i u)
 |_,_,_,.nil=>.nil
 |_,_,0,.cons _ t=>.cons r t
 |_,_,i+1,.cons q t=>.cons q (Vals.set r i t)
theorem Vals.append:∀{xs ys:List V}{us ws:List Value},Vals xs us->Vals ys ws->Vals (xs++ys) (us++ws)
 |_,_,_,_,.nil,s=>s
 |_,_,_,_,.cons r t,s=>.cons r (Vals.append t s)
theorem Vals.take:∀{xs:List V}{us:List Value}(n:Nat),Vals xs us->Vals (xs.take n) (us.take n)
 |_,_,0,_=>.nil
 |_,_,_+1,.nil=>.nil
 |_,_,n+1,.cons r t=>.cons r (Vals.take n t)
theorem Vals.drop:∀{xs:List V}{us:List Value}(n:Nat),Vals xs us->Vals (xs.drop n) (us.drop n)
 |_,_,0,r=>r
 |_,_,_+1,.nil=>.nil
 |_,_,n+1,.cons _ t=>Vals.drop n t
def nM:Option V->Option Value->Prop
 |some v,some u=>RelV v u
 |none,none=>True
 |_,_=>False
def KV{κ:Type}:List (κ×V)->List (κ×Value)->Prop:=Paired λ(p:κ×V)(q:κ×Value)=>p.1=q.1/\RelV p.2 q.2
noncomputable def kV:Key->V
 | .inl i=>.int i
 | .inr x=>.str x
inductive HO where
 |lst (xs:List V)
 |tup (xs:List V)
 |dK (kvs:List (Key×V))|dT (kvs:List (List Key×V))
 |set (S:Int->Bool) (n:Nat)
 |ins (C dx:Addr) (fs:List (Str×V))
 |own (x:Addr)
 |xd (fs:List (Str×V))
 |met (f x:Addr)
 |mr (lo hi:Int)
 |cT (o:Obj) (u:HO)
 |vX (ps:Array Value)
 |ext (φ:Heap->Prop)
abbrev Hp:=Addr->Option HO
noncomputable def upd(H:Hp)(a:Addr)(o:HO):Hp:=λb=>if b=a then some o else H b
theorem bb:upd H a o a=some o:=by unfold upd;rw[af rfl]
theorem bR(h:b≠a):upd H a o b=H b:=by unfold upd;rw[ag h]
theorem C9{u:HO}:upd (upd H a o) a u=upd H a u:=by
 funext b;unfold upd;split<;>rfl
theorem Za{u:HO}(h:H a=some o)(h':H b=some u)(d:o≠u):a≠b:=by
 intro e;subst e;rw[h]at h';exact d (dq h')
theorem fj(h:H a=some o)(h':H b=none):a≠b:=by
 intro e;subst e;rw[h]at h';cases h'
def pE(h:Heap)(a:Addr)(items:Array Value):Prop:=∃o,h.get? a=some o/\o.cls=.type "tuple"/\o.dict=none/\∃n,o.data=.seq items n
theorem pE.tup{items:Array Value}(x:pE h a items):IsTup h a items:=let ⟨o,e,c,_,n,d⟩:=x;⟨o,e,c,n,d⟩
theorem pE.new(h:Heap)(items:Array Value):pE (h.push { cls:=.type "tuple",data:=.seq items }) h.objs.size items:=⟨_,fi _ rfl,rfl,rfl,_,rfl⟩
section
variable(P:Program)(w:World)
def gP(H:Hp)(h:Heap)(a:Addr):HO->Prop
 | .lst xs=>xs.length<=sizeLine/\∃(its:List Value)(n:Nat),Vals xs its/\h.get? a=some { cls:=.type "list",data:=.seq its.toArray n }
 | .tup xs=>xs.length<=sizeLine/\∃its:List Value,Vals xs its/\pE h a its.toArray
 | .dK kvs=>kvs.length<=sizeLine/\(a==sysModules)=false/\∃vs,KV kvs vs/\h.DictOf (iu P w) a vs
 | .dT kvs=>kvs.length<=sizeLine/\(a==sysModules)=false/\∃xs:List (List Key×Addr×Value),
   Paired (λ(p:List Key×V)(q:List Key×Addr×Value)=>p.1=q.1/\H q.2.1=some (.tup (p.1.map kV))/\RelV p.2 q.2.2) kvs xs/\
   ∃o es ep,h.get? a=some o/\o.ExactDict/\o.data=.dict es ep/\es.toList=xs.map (entryOfKey (tupleKind (iu P w)))/\(xs.map (·.1)).Nodup
 | .set S n=>h.SetOf (intKind P w) a S n
 | .ins C dx fs=>H dx=some (.own a)/\fs.length<=1000/\dx≠a/\h.get? a=some (PySem.W.instObj C dx)/\
   ∃mA,h.Ns1 dx mA/\(∀f,nM (fs.lookup f) (mA f))/\PySem.Within mA (fs.map (·.1))
 | .own _=>∃o,h.get? a=some o
 | .xd fs=>∃mA,h.Ns1 a mA/\∀f,nM (fs.lookup f) (mA f)
 | .mr lo hi=>∃t u v,h.get? a=some { cls:=.type "range",data:=.fields #[.int lo t,.int hi u,.int 1 v] }
 | .cT o u=>h.get? a=some o/\gP H h a u
 | .vX ps=>h.get? a=some { cls:=.none,data:=.fields ps }
 | .met f x=>h.get? a=some (PySem.W.methodObj (.ref f) (.ref x))
 | .ext φ=>φ h/\(∃o,h.get? a=some o)/\∀h1 h2:Heap,φ h1->(∀o,h1.get? a=some o->h2.get? a=some o)->φ h2
def gE(H:Hp)(h:Heap):Prop:=∀a o,H a=some o->gP P w H h a o
end
section
variable{P:Program}{w:World}{H H':Hp}{h h':Heap}{a:Addr}{o:HO}
theorem gP.lt(x:gP P w H h a o):a<h.objs.size:=by
 cases o with
 |lst xs=>obtain⟨_,_,_,_,e⟩:=x;exact cX e
 |tup xs=>obtain⟨_,_,_,p⟩:=x;exact p.tup.lt
 |dK kvs=>obtain⟨_,_,_,_,o,_,_,e,_⟩:=x;exact cX e
 |dT kvs=>obtain⟨_,_,_,_,o,_,_,e,_⟩:=x;exact cX e
 |set S n=>obtain⟨o,_,_,_,e,_⟩:=x;exact cX e
 |ins C dx fs=>obtain⟨_,_,_,e,_⟩:=x;exact cX e
 |own y=>obtain⟨_,e⟩:=x;exact cX e
 |xd fs=>obtain⟨_,⟨_,_,_,e,_⟩,_⟩:=x;exact cX e
 |mr lo hi=>obtain⟨_,_,_,e⟩:=x;exact cX e
 |cT ob u=>obtain⟨e,_⟩:=x;exact cX e
 |vX ps=>exact cX (show h.get? a=some _ from x)
 |met f y=>exact cX (show h.get? a=some _ from x)
 |ext φ=>obtain⟨_,⟨_,e⟩,_⟩:=x;exact cX e
theorem Paired.Hy{α β:Type}{F G:α->β->Prop}:∀{l₁:List α}{l₂:List β},Paired F l₁ l₂->(∀a b,F a b->G a b)->Paired G l₁ l₂
 |_,_,.nil,_=>.nil
 |_,_,.cons r t,f=>.cons (f _ _ r) (Paired.Hy t f)
theorem gP.qI(x:gP P w H h a o)(k:∀b u,(b=a\/H b=some (.own a))->h.get? b=some u->h'.get? b=some u)
  (ho:∀b,H b=some (.own a)->H' b=some (.own a)) (ht:∀b xs,H b=some (.tup xs)->H' b=some (.tup xs)):gP P w H' h' a o:=by
 induction o with
 |lst xs=>obtain⟨z,its,n,r,e⟩:=x;exact⟨z,its,n,r,k _ _ (.inl rf) e⟩
 |tup xs=>obtain⟨z,its,r,ob,e,c⟩:=x;exact⟨z,its,r,ob,k _ _ (.inl rf) e,c⟩
 |dK kvs=>obtain⟨z,y,vs,r,ob,es,ep,e,c⟩:=x;exact⟨z,y,vs,r,ob,es,ep,k _ _ (.inl rf) e,c⟩
 |dT kvs=>
  obtain⟨z,y,xs,r,ob,es,ep,e,c⟩:=x;exact⟨z,y,xs,Paired.Hy r λp q z=>⟨z.1,ht _ _ z.2.1,z.2.2⟩,ob,es,ep,k _ _ (.inl rf) e,c⟩
 |set S n=>obtain⟨ob,es,ep,t,e,c⟩:=x;exact⟨ob,es,ep,t,k _ _ (.inl rf) e,c⟩
 |ins C dx fs=>
  obtain⟨d,z,ne,e,mA,⟨od,es,ep,e2,c⟩,r⟩:=x;exact⟨ho _ d,z,ne,k _ _ (.inl rf) e,mA,⟨od,es,ep,k _ _ (.inr d) e2,c⟩,r⟩
 |own y=>obtain⟨ob,e⟩:=x;exact⟨ob,k _ _ (.inl rf) e⟩
 |xd fs=>obtain⟨mA,⟨od,es,ep,e,c⟩,r⟩:=x;exact⟨mA,⟨od,es,ep,k _ _ (.inl rf) e,c⟩,r⟩
 |mr lo hi=>obtain⟨t,u,v,e⟩:=x;exact⟨t,u,v,k _ _ (.inl rf) e⟩
 |cT ob u ih=>obtain⟨e,q⟩:=x;exact⟨k _ _ (.inl rf) e,ih q⟩
 |vX ps=>
  have e:h.get? a=some { cls:=.none,data:=.fields ps }:=x;show h'.get? a=some { cls:=.none,data:=.fields ps };exact k a _ (.inl rf) e
 |met f y=>
  have e:h.get? a=some (PySem.W.methodObj (.ref f) (.ref y)):=x;show h'.get? a=some (PySem.W.methodObj (.ref f) (.ref y));exact k a _ (.inl rf) e
 |ext φ=>obtain⟨p,⟨o,e⟩,st⟩:=x;exact⟨st _ _ p λo q=>k _ _ (.inl rf) q,⟨o,k _ _ (.inl rf) e⟩,st⟩
theorem gE.lt(x:gE P w H h)(e:H a=some o):a<h.objs.size:=(x a o e).lt
theorem gE.fresh(x:gE P w H h)(e:h.objs.size<=a):H a=none:=by
 cases q:H a with
 |none=>rfl
 |some u=>exact absurd (lJ (x.lt q) e) (rW _)
theorem gE.kept(x:gE P w H h)(k:∀b u,h.get? b=some u->h'.get? b=some u):gE P w H h':=λa o e=>
 (x a o e).qI (λb u _ q=>k b u q) (λ_ q=>q) λ_ _ q=>q
theorem gE.laid(x:gE P w H h)(k:∀b u,h.get? b=some u->h'.get? b=some u)(hp:h.objs.size<=a)(new:gP P w (upd H a o) h' a o):gE P w (upd H a o) h':=λb u e=>by
 have hn:=x.fresh hp;by_cases hb:b=a
 ·subst hb;rw[bb]at e;cases e;exact new
 ·rw[bR hb]at e;exact(x b u e).qI (λc v _ q=>k c v q) (λc q=>by rw[bR (fj q hn)];exact q) λc xs q=>by rw[bR (fj q hn)];exact q
end
def Rd(H:Hp)(a:Addr)(u:HO):Prop:=H a=some u\/∃o,H a=some (.cT o u)
theorem Rd.of{u:HO}(h:H a=some u):Rd H a u:=.inl h
theorem Rd.ok{P:Program}{w:World}{u:HO}(r:Rd H a u)(x:gE P w H h):gP P w H h a u:=by
 rcases r with r|⟨o,r⟩
 ·exact x a u r
 ·obtain⟨_,q⟩:=x a _ r;exact q
def Ac:Option HO->Prop
 |some (.lst _)=>True
 |some (.dK _)=>True
 |some (.dT _)=>True
 |some (.set _ _)=>True
 |some (.ins _ _ _)=>True
 |some (.ext _)=>True
 |_=>False
section
variable{P:Program}{w:World}{H:Hp}{h h':Heap}{x e:Addr}{o':HO}
theorem gE.write(ok:gE P w H h)(mu:Ac (H x))(he:e=x\/H e=some (.own x))(k:∀b u,b≠e->h.get? b=some u->h'.get? b=some u)(xT:∃u,h'.get? e=some u)
  (new:gP P w (upd H x o') h' x o'):gE P w (upd H x o') h':=λb u q=>by
 have Oy:∀c y,H c=some (.own y)->c≠x:=λc y r z=>by subst z;rw[r]at mu;exact mu
 have Zb:∀c xs,H c=some (.tup xs)->c≠x:=λc xs r z=>by subst z;rw[r]at mu;exact mu
 by_cases hb:b=x
 ·subst hb;rw[bb]at q;cases q;exact new
 ·rw[bR hb]at q;by_cases vY:b=e
  ·have q':H b=some (.own x):=by
    rcases he with z|z
    ·exact absurd (vY.trans z) hb
    ·rw[vY];exact z
   rw[q]at q';cases q';obtain⟨v,hv⟩:=xT;exact⟨v,by rw[vY];exact hv⟩
  ·refine(ok b u q).qI (λc v hc r=>k c v ?_ r) (λc r=>by rw[bR (Oy c b r)];exact r) λc xs r=>by rw[bR (Zb c xs r)];exact r
   rcases hc with rfl|hc
   ·exact vY
   ·rintro rfl;rcases he with z|z
    ·exact Oy c b hc z
    ·rw[hc]at z;cases z;exact hb rf
end
structure Un(fs ex:List Addr)(H H':Hp)(h h':Heap):Prop where
 keep:∀b o,h.get? b=some o->H b=none->b ∉ fs->b ∉ ex->h'.get? b=some o
 slot:∀b o,h.get? b=some o->H b=none->b∈fs->b ∉ ex->∃sl,h'.get? b=some { o with slots:=sl }
 free:∀b o,h.get? b=some o->H b=none->b ∉ ex->H' b=none
 there:∀b o,h.get? b=some o->b ∉ ex->∃o',h'.get? b=some o'
 pF:∀b xs,H b=some (.tup xs)->H' b=some (.tup xs)
 mv:∀b o u,H b=some (.cT o u)->H' b=some (.cT o u)
 pG:∀b ps,H b=some (.vX ps)->∃ia,H' b=some (.vX (ps++ia))
section
variable{fs xU ex ex':List Addr}{H H1 H2:Hp}{h h1 h2 h':Heap}{a x e:Addr}{o:HO}
theorem Un.any(u:Un fs ex H H1 h h1){ob:Obj}(q:h.get? b=some ob)(n:H b=none)(hx:b ∉ ex):∃sl,h1.get? b=some { ob with slots:=sl }:=by
 by_cases hb:b∈fs
 ·exact u.slot b ob q n hb hx
 ·exact⟨ob.slots,u.keep b ob q n hb hx⟩
theorem Un.kept(k:∀b u,h.get? b=some u->h'.get? b=some u):Un fs ex H H h h':=
 ⟨λb ob q _ _ _=>k b ob q,λb ob q _ _ _=>⟨ob.slots,k b ob q⟩,λ_ _ _ n _=>n,λb ob q _=>⟨ob,k b ob q⟩,λ_ _ q=>q,λ_ _ _ q=>q,λ_ ps q=>⟨#[],by rw[q];simp⟩⟩
theorem Un.refl:Un fs ex H H h h:=Un.kept λ_ _ q=>q
theorem Un.laid(k:∀b u,h.get? b=some u->h'.get? b=some u)(hp:h.objs.size<=a)(hn:H a=none):Un fs ex H (upd H a o) h h' where
 keep:=λb u q _ _ _=>k b u q
 slot:=λb u q _ _ _=>⟨u.slots,k b u q⟩
 free:=λb u q n _=>by rw[bR (fK (lJ (cX q) hp))];exact n
 there:=λb u q _=>⟨u,k b u q⟩
 pF:=λb xs q=>by rw[bR (fj q hn)];exact q
 mv:=λb u xs q=>by rw[bR (fj q hn)];exact q
 pG:=λb ps q=>⟨#[],by rw[bR (fj q hn),q];simp⟩
theorem Un.write(mu:Ac (H x))(he:e=x\/H e=some (.own x))(k:∀b u,b≠e->h.get? b=some u->h'.get? b=some u)(xT:∃u,h'.get? e=some u):Un fs ex H (upd H x o) h h':=by
 have hx:∀b,H b=none->b≠x:=λb n z=>by subst z;rw[n]at mu;exact mu
 have hb:∀b,H b=none->b≠e:=λb n z=>by
  subst z;rcases he with r|r
  ·exact hx b n r
  ·rw[n]at r;cases r
 have hm:∀b u,H b=some u->¬Ac (some u)->b≠x:=λb u q nm z=>by subst z;rw[q]at mu;exact nm mu
 refine⟨λb u q n _ _=>k b u (hb b n) q,λb u q n _ _=>⟨u.slots,k b u (hb b n) q⟩,λb u q n _=>by rw[bR (hx b n)];exact n,λb u q _=>?_,
  λb xs q=>by rw[bR (hm b _ q λz=>z)];exact q,λb u xs q=>by rw[bR (hm b _ q λz=>z)];exact q,λb ps q=>⟨#[],by rw[bR (hm b _ q λz=>z),q];simp⟩⟩
 by_cases vY:b=e
 ·subst vY;exact xT
 ·exact⟨u,k b u vY q⟩
end
noncomputable def Dc(h:Heap)(H:Hp):List Addr:=(List.range h.objs.size).filter λa=>(H a).isSome
noncomputable def se(h:Heap)(H:Hp):Heap:=PySem.W.hideAll h (Dc h H)
theorem Zc(h:Heap)(H:Hp):(se h H).objs.size=h.objs.size:=PySem.W.hideAll_size _ _
theorem Zd{o:Obj}(e:h.get? b=some o)(n:H b=none):(se h H).get? b=some o:=
 PySem.W.hideAll_get _ e λhm=>by
  have q:(H b).isSome=true:=(jV.mp hm).2;rw[n]at q;simp at q
theorem Ze{o:Obj}(e:(se h H).get? b=some o):h.get? b=some o/\H b=none:=by
 have e':h.get? b=some o:=PySem.W.of_hideAll (Dc h H) e;refine⟨e',?_⟩;cases q:H b with
 |none=>rfl
 |some x=>
  have hm:b∈Dc h H:=jV.mpr ⟨mj.mpr (cX e'),by simp[q]⟩;have z:(se h H).get? b=none:=PySem.W.hideAll_none (Dc h H) hm;rw[z]at e;cases e
noncomputable def Zf(g h:Heap)(L:Addr):List (Addr×Obj):=(List.range h.objs.size).filterMap λa=>if a=L\/(g.get? a).isSome=true then none else(h.get? a).map λo=>(a,o)
noncomputable def eW(g h:Heap)(L d:Addr):List (Addr×Obj):=(Zf g h L).filter λp=>decide (p.1≠d)
structure Mod(K:Frag)(mg:Str->Option Value)(base:Heap):Prop where
 vZ:K.In base
 glob:base.Ns mainGlobals mg
 blt:∃mb,base.Ns builtinsNs mb/\∀x:Str,x ≠ "__name__"->mb x=bootBuiltins x
 nolimit:base.NoLimit
structure Cx where
 prog:Program
 w:World
 K:Frag
 mg:Str->Option Value
 base:Heap
 A:Around
 N:List Str
 s₀:Shared
 H₀:Hp
 env:Env
 outer:List Env
 stack:List Env
 ex:List Addr
 fn:Str->Bool
 calm:Bool
 pn:List (Addr×Obj)
 xe:QV
noncomputable def mw(l:List Env):List Addr:=l.filterMap (·.frame)
noncomputable abbrev Cx.fs(X:Cx):List Addr:=mw X.outer
def Ad(sc:Scope)(x:Str):Prop:=sc.names.lookup x=some .local\/sc.names.lookup x=some .cell\/sc.names.lookup x=some .free
def Loc(sc:Scope)(x:Str):Prop:=sc.names.lookup x=some .local\/sc.names.lookup x=some .cell
def Look(env:Env)(h:Heap)(m:Str->Option Value)(x:Str)(u:Value):Prop:=
 (env.kindOf x=some .local/\m x=some u)\/((env.kindOf x=some .cell\/env.kindOf x=some .free)/\∃c,env.cells.lookup x=some c/\h.IsCell c (some u))
structure Cx.Ok(X:Cx):Prop where
 mod:Mod X.K X.mg X.base
 kind:X.env.scope.kind=.function
 glob:X.env.globals=mainGlobals
 blt:X.env.builtins=builtinsNs
 above:X.s₀.heap.objs.size<=X.env.locals
 inj:∀x y c,X.env.cells.lookup x=some c->X.env.cells.lookup y=some c->x=y
 has:∀x,(X.env.kindOf x=some .cell\/X.env.kindOf x=some .free)->∃c,X.env.cells.lookup x=some c
 Ae:∀x c,X.fn x=true->X.env.cells.lookup x=some c->X.s₀.heap.objs.size<=c
 hd:X.calm=true->X.A.handled=none
 frames:X.A.frames=some X.stack
 Dd:X.stack=X.outer\/(X.stack=X.env::X.outer/\X.env.frame=some X.env.locals)
 Af:∀b∈X.ex,b≠X.env.locals/\∀x c,X.env.cells.lookup x=some c->c≠b
 bs:∀b o,X.base.get? b=some o->X.s₀.heap.get? b=some o/\X.H₀ b=none
 uB:X.base.objs.size<=X.s₀.heap.objs.size
 Ag:∀b o,X.base.get? b=some o->b ∉ X.ex
 xV:∀b∈X.ex,b ∉ X.fs
 pH:X.s₀.heap.FunFrames X.base X.outer
 xW:∀b∈X.fs,X.H₀ b=none
structure Inv(X:Cx)(aU:List (Addr×Obj))(σ:List (Option V))(H:Hp)(s:Shared):Prop where
 ok:X.Ok
 os:s.os=X.s₀.os
 bare:AllBare s.gens
 base:Un X.fs X.ex X.H₀ H X.s₀.heap s.heap
 loc:∃m,s.heap.Ns X.env.locals m/\∀(i:Nat)(x:Str)(v:V),X.N[i]?=some x->σ[i]?=some (some v)->Ad X.env.scope x->∃u,RelV v u/\Look X.env s.heap m x u
 cell:∀x c,X.env.cells.lookup x=some c->∃v,s.heap.IsCell c v
 free:H X.env.locals=none
 mx:∀x c,X.env.cells.lookup x=some c->H c=none
 pin:∀p∈X.pn++aU,s.heap.get? p.1=some p.2/\H p.1=none/\p.1≠X.env.locals/\p.1 ∉ X.fs/\∀v,p.2.data≠.cell v
 cq:gE X.prog X.w H s.heap
 len:σ.length=X.N.length
section
variable{X:Cx}{aU:List (Addr×Obj)}{σ:List (Option V)}{H H':Hp}{s:Shared}{h':Heap}
theorem Cx.Ok.Zg(ok:X.Ok){o:Obj}(e:X.base.get? b=some o):b ∉ X.fs:=λhb=>by
 have:=(ok.pH.mem hb).1
 rw[e]at this;cases this
theorem Inv.bs(I:Inv X aU σ H s):∀b o,X.base.get? b=some o->s.heap.get? b=some o/\H b=none:=λb o e=>
 ⟨I.base.keep b o (I.ok.bs b o e).1 (I.ok.bs b o e).2 (I.ok.Zg e) (I.ok.Ag b o e),I.base.free b o (I.ok.bs b o e).1 (I.ok.bs b o e).2 (I.ok.Ag b o e)⟩
theorem Inv.bk(I:Inv X aU σ H s):∀b o,X.base.get? b=some o->s.heap.get? b=some o:=λb o e=>(I.bs b o e).1
theorem Inv.mod(I:Inv X aU σ H s):Mod X.K X.mg X.base:=I.ok.mod
theorem Inv.iC(I:Inv X aU σ H s):X.K.In s.heap:=I.ok.mod.vZ.keeps I.bk
theorem Inv.lt(I:Inv X aU σ H s):X.env.locals<s.heap.objs.size:=let ⟨_,hn,_⟩:=I.loc;hn.lt
theorem Inv.sz(I:Inv X aU σ H s):X.s₀.heap.objs.size<=s.heap.objs.size:=gn I.ok.above (Nat.le_of_lt I.lt)
theorem Inv.Zh(I:Inv X aU σ H s)(h:s.heap.objs.size<=a):a ∉ X.fs:=λhb=>by
 obtain⟨_,o,ho,_⟩:=I.ok.pH.mem hb;exact absurd (lJ (cX ho) (gn I.sz h)) (rW _)
theorem Inv.v5(I:Inv X aU σ H s):∀x c,X.env.cells.lookup x=some c->c≠X.env.locals:=λx c e z=>by
 obtain⟨v,o,ho,hd⟩:=I.cell x c e;obtain⟨m,⟨o',es,ep,v7,jc,_⟩,_⟩:=I.loc;rw[z,v7]at ho;cases ho;rw[jc]at hd;cases hd
theorem Inv.pH(I:Inv X aU σ H s):s.heap.FunFrames X.base X.outer:=by
 have all:∀(l:List Env),(∀b∈mw l,b∈X.fs)->X.s₀.heap.FunFrames X.base l->s.heap.FunFrames X.base l:=by
  intro l;induction l with
  |nil=>intro _ _;trivial
  |cons env r ih=>
   intro hs hl;obtain⟨hk,⟨L,o,hf,hn,ho,hd⟩,hr⟩:=hl;have hL:L∈X.fs:=hs L (by unfold mw;rw[List.filterMap_cons,hf];exact cQ);obtain⟨sl,e⟩:=I.base.slot L o ho (I.ok.xW L hL) hL λz=>I.ok.xV L z hL;exact⟨hk,⟨L,_,hf,hn,e,hd⟩,ih (λb hb=>hs b (by unfold mw;rw[List.filterMap_cons,hf];exact dU _ hb)) hr⟩
 exact all X.outer (λ_ hb=>hb) I.ok.pH
theorem Inv.stack(I:Inv X aU σ H s):s.heap.FunFrames X.base X.stack:=by
 rcases I.ok.Dd with e|⟨e,hf⟩
 ·rw[e];exact I.pH
 ·rw[e];obtain⟨m,hn,_⟩:=I.loc;refine .cons (by rw[I.ok.kind];decide) hf hn ?_ I.pH;exact Heap.get?_none_of_le (gn I.ok.uB I.ok.above)
theorem Inv.Hz(I:Inv X aU σ H s):∀b∈mw X.stack,b∈X.env.locals::X.fs:=λb hb=>by
 rcases I.ok.Dd with e|⟨e,hf⟩
 ·rw[e]at hb;exact dU _ hb
 ·rw[e]at hb;unfold mw at hb;rw[List.filterMap_cons,hf]at hb;exact hb
theorem Inv.Oz(I:Inv X aU σ H s):∀b∈mw X.stack,H b=none:=λb hb=>by
 rcases cV.mp (I.Hz b hb)with e|hb
 ·rw[e];exact I.free
 ·obtain⟨_,o,ho,_⟩:=I.ok.pH.mem hb;exact I.base.free b o ho (I.ok.xW b hb) λz=>I.ok.xV b z hb
theorem Inv.step{g':Array GenState}{d':Drawn}(I:Inv X aU σ H s)
  (qJ:∀b∈ch,(b∈X.ex\/X.s₀.heap.objs.size<=b)/\b≠X.env.locals/\(∀x c,X.env.cells.lookup x=some c->c≠b)/\∀p∈X.pn++aU,p.1≠b)
  (keep:∀b o,b≠X.env.locals->b ∉ X.fs->b ∉ ch->s.heap.get? b=some o->H b=none->h'.get? b=some o)
  (slot:∀b o,b≠X.env.locals->b∈X.fs->b ∉ ch->s.heap.get? b=some o->H b=none->∃sl,h'.get? b=some { o with slots:=sl }) (free:∀b o,b ∉ ch->s.heap.get? b=some o->H b=none->H' b=none)
  (there:∀b o,b ∉ ch->s.heap.get? b=some o->∃o',h'.get? b=some o')
  (pF:∀b xs,H b=some (.tup xs)->H' b=some (.tup xs)) (mv:∀b o u,H b=some (.cT o u)->H' b=some (.cT o u)) (pG:∀b ps,H b=some (.vX ps)->∃ia,H' b=some (.vX (ps++ia)))
  (ns:∀m,s.heap.Ns X.env.locals m->h'.Ns X.env.locals m) (cq:gE X.prog X.w H' h') (hg:AllBare g') :
  Inv X aU σ H' { s with heap:=h',gens:=g',drawn:=d',toks:=t' }:=by
 have OA:∀b o,X.s₀.heap.get? b=some o->b≠X.env.locals:=λb o e=>fK (lJ (cX e) I.ok.above);have De:∀b o,X.s₀.heap.get? b=some o->b ∉ X.ex->b ∉ ch:=λb o e hx hb=>by
  rcases(qJ b hb).1 with z|z
  ·exact hx z
  ·exact absurd (lJ (cX e) z) (rW _)
 have OB:∀x c,X.env.cells.lookup x=some c->∀v,s.heap.IsCell c v->h'.IsCell c v:=λx c e v ⟨o,ho,hd⟩=>by
  have Ah:c ∉ ch:=λz=>(qJ c z).2.2.1 x c e rfl;by_cases hc:c∈X.fs
  ·obtain⟨sl,q⟩:=slot c o (I.v5 x c e) hc Ah ho (I.mx x c e);exact⟨_,q,hd⟩
  ·exact⟨o,keep c o (I.v5 x c e) hc Ah ho (I.mx x c e),hd⟩
 refine⟨I.ok,I.os,hg,⟨λb o e n hb hx=>?_,λb o e n hb hx=>?_,λb o e n hx=>?_,λb o e hx=>?_,λb xs e=>pF b xs (I.base.pF b xs e),λb o xs e=>mv b o xs (I.base.mv b o xs e),λb ps e=>?_⟩,?_,λx c e=>?_,?_,λx c e=>?_,λp hp=>?_,cq,I.len⟩
 ·exact keep b o (OA b o e) hb (De b o e hx) (I.base.keep b o e n hb hx) (I.base.free b o e n hx)
 ·obtain⟨sl,e1⟩:=I.base.slot b o e n hb hx;obtain⟨HB,e2⟩:=slot b _ (OA b o e) hb (De b o e hx) e1 (I.base.free b o e n hx);exact⟨HB,e2⟩
 ·obtain⟨o',e1⟩:=I.base.there b o e hx;exact free b o' (De b o e hx) e1 (I.base.free b o e n hx)
 ·obtain⟨o',e1⟩:=I.base.there b o e hx;exact there b o' (De b o e hx) e1
 ·obtain⟨m1,e1⟩:=I.base.pG b ps e;obtain⟨m2,e2⟩:=pG b _ e1;exact⟨m1++m2,by rw[e2,Array.append_assoc]⟩
 ·obtain⟨m,hn,hl⟩:=I.loc;refine⟨m,ns m hn,λi x v e1 e2 e3=>?_⟩;obtain⟨u,r,l⟩:=hl i x v e1 e2 e3;refine⟨u,r,?_⟩;rcases l with l|⟨k,c,e,z⟩
  ·exact .inl l
  ·exact .inr ⟨k,c,e,OB x c e _ z⟩
 ·obtain⟨v,z⟩:=I.cell x c e;exact⟨v,OB x c e v z⟩
 ·obtain⟨m,⟨o,_,_,ho,_⟩,_⟩:=I.loc;exact free _ o (λz=>(qJ _ z).2.1 rf) ho I.free
 ·obtain⟨v,o,ho,hd⟩:=I.cell x c e;exact free c o (λz=>(qJ c z).2.2.1 x c e rf) ho (I.mx x c e)
 ·obtain⟨e,n,ne,nf,d⟩:=I.pin p hp;have Ah:p.1 ∉ ch:=λz=>(qJ p.1 z).2.2.2 p hp rfl;exact⟨keep p.1 p.2 ne nf Ah e n,free p.1 p.2 Ah e n,ne,nf,d⟩
theorem Inv.un(I:Inv X aU σ H s)(u:Un X.fs [] H H' s.heap h')(cq:gE X.prog X.w H' h'):Inv X aU σ H' { s with heap:=h',toks:=t' }:=by
 obtain⟨m,⟨o,es,ep,ho,r⟩,_⟩:=id I.loc;obtain⟨sl,hL⟩:=u.any ho I.free (by simp);exact I.step (g':=s.gens) (d':=s.drawn) (ch:=[]) (λ_ z=>nomatch z) (λb o _ hb _ e n=>u.keep b o e n hb (by simp)) (λb o _ hb _ e n=>u.slot b o e n hb (by simp)) (λb o _ e n=>u.free b o e n (by simp)) (λb o _ e=>u.there b o e (by simp)) u.pF u.mv u.pG (λm' hm=>by
  obtain⟨o',es',Df,v7,r'⟩:=hm;rw[ho]at v7;cases v7;exact⟨_,es',Df,hL,r'⟩) cq I.bare
theorem Inv.call{g':Array GenState}{d':Drawn}(I:Inv X aU σ H s)(u:Un (mw X.stack) ch H H' s.heap h')(cq:gE X.prog X.w H' h')(hg:AllBare g')
  (qJ:∀b∈ch,(b∈X.ex\/X.s₀.heap.objs.size<=b)/\b≠X.env.locals/\(∀x c,X.env.cells.lookup x=some c->c≠b)/\∀p∈X.pn++aU,p.1≠b) :
  Inv X aU σ H' { s with heap:=h',gens:=g',drawn:=d',toks:=t' }:=by
 obtain⟨m,⟨o,es,ep,ho,r⟩,_⟩:=id I.loc;obtain⟨sl,hL⟩:=u.any ho I.free λz=>(qJ _ z).2.1 rfl;exact I.step (ch:=ch) qJ (λb o hL hb hc e n=>u.keep b o e n (λz=>(cV.mp (I.Hz b z)).elim hL hb) hc) (λb o _ _ hc e n=>u.any e n hc) (λb o hc e n=>u.free b o e n hc) (λb o hc e=>u.there b o e hc) u.pF u.mv u.pG (λm' hm=>by
  obtain⟨o',es',Df,v7,r'⟩:=hm;rw[ho]at v7;cases v7;exact⟨_,es',Df,hL,r'⟩) cq hg
theorem Inv.turned{it:Addr}(I:Inv X aU σ H s)(k:∀b o,b≠it->s.heap.get? b=some o->h'.get? b=some o)(hn:H it=none)(hL:it≠X.env.locals)
  (h1:it∈X.ex\/X.s₀.heap.objs.size<=it) (h2:∀x c,X.env.cells.lookup x=some c->c≠it) (h3:∀p∈X.pn++aU,p.1≠it):Inv X aU σ H { s with heap:=h',toks:=t' }:=by
 have Ai:∀b u,H b=some u->b≠it:=λb u e z=>by rw[z,hn]at e;cases e
 refine I.step (g':=s.gens) (d':=s.drawn) (ch:=[it]) (λb hb=>?_) (λb o _ _ hc e _=>k b o (λz=>hc (by simp[z])) e) (λb o _ _ hc e _=>⟨o.slots,k b o (λz=>hc (by simp[z])) e⟩) (λ_ _ _ _ n=>n)
  (λb o hc e=>⟨o,k b o (λz=>hc (by simp[z])) e⟩) (λ_ _ e=>e) (λ_ _ _ e=>e) (λb ps e=>⟨#[],by rw[e];simp⟩) (λm hm=>?_) (λb u e=>?_) I.bare
 ·have e:b=it:=by simpa using hb
  subst e;exact⟨h1,hL,h2,h3⟩
 ·obtain⟨o,es,ep,ho,r⟩:=hm;exact⟨o,es,ep,k _ o (Ne.symm hL) ho,r⟩
 ·refine(I.cq b u e).qI (λc v hc q=>k c v ?_ q) (λ_ q=>q) λ_ _ q=>q;rcases hc with z|z
  ·rw[z];exact Ai b u e
  ·exact Ai c _ z
theorem Inv.tok(I:Inv X aU σ H s)(t:Nat):Inv X aU σ H { s with toks:=t }:=I.un (h':=s.heap) (t':=t) Un.refl I.cq
theorem Inv.kept{t':Nat}(I:Inv X aU σ H s)(k:∀b u,s.heap.get? b=some u->h'.get? b=some u):Inv X aU σ H { s with heap:=h',toks:=t' }:=I.un (Un.kept k) (I.cq.kept k)
theorem Inv.laid{a:Addr}{o:HO}{t':Nat}(I:Inv X aU σ H s)(k:∀b u,s.heap.get? b=some u->h'.get? b=some u)(hp:s.heap.objs.size<=a)(new:gP X.prog X.w (upd H a o) h' a o) :
  Inv X aU σ (upd H a o) { s with heap:=h',toks:=t' }:=I.un (Un.laid k hp (I.cq.fresh hp)) (I.cq.laid k hp new)
theorem Inv.write{x e:Addr}{o:HO}{t':Nat}(I:Inv X aU σ H s)(mu:Ac (H x))(he:e=x\/H e=some (.own x))(k:∀b u,b≠e->s.heap.get? b=some u->h'.get? b=some u)(xT:∃u,h'.get? e=some u)
  (new:gP X.prog X.w (upd H x o) h' x o):Inv X aU σ (upd H x o) { s with heap:=h',toks:=t' }:=I.un (Un.write mu he k xT) (I.cq.write mu he k xT new)
theorem Inv.Dg{OC:List (Addr×Obj)}(I:Inv X aU σ H s)(h:∀p∈OC,s.heap.get? p.1=some p.2/\H p.1=none/\p.1≠X.env.locals/\p.1 ∉ X.fs/\∀v,p.2.data≠.cell v):Inv X OC σ H s:=
 ⟨I.ok,I.os,I.bare,I.base,I.loc,I.cell,I.free,I.mx,λp hp=>(cN.mp hp).elim (λz=>I.pin p (eV _ z)) (h p),I.cq,I.len⟩
theorem OD{N:List Str}(hN:N.Nodup){j:Nat}(a:N[i]?=some x)(b:N[j]?=some x):i=j:=by
 obtain⟨h1,e1⟩:=dC.mp a;obtain⟨h2,e2⟩:=dC.mp b;exact(List.getElem_inj hN).mp (e1.trans e2.symm)
theorem OE(I:Inv X aU σ H s)(hN:X.N.Nodup)(hi:X.N[i]?=some x)(hx:Loc X.env.scope x)(r:RelV v u)
  (h:∀s',Inv X aU (σ.set i (some v)) H s'->(∃a,Heap.SameBut a s.heap s'.heap/\(a=X.env.locals\/X.env.cells.lookup x=some a))->Q () s') (hf:X.fn x=true\/X.env.scope.names.lookup x=some .local:=by first|exact .inl rfl|exact .inr rfl|assumption):wpAny M A (storeName X.env x u) Q E s:=by
 obtain⟨m,hn,hl⟩:=id I.loc;have Zi:(X.env.scope.kind == .class||(X.env.scope.kind == .module&&X.env.locals != X.env.globals))=false:=by rw[I.ok.kind];rfl
 have OF:i<σ.length:=by rw[I.len];exact(dC.mp hi).1
 have v5:=I.v5;have OG:∀{a:Addr}{h':Heap},(∃o,s.heap.get? a=some o/\H a=none)->Heap.SameBut a s.heap h'->gE X.prog X.w H h':=λ{a h'} ha hs b ob e=>by
  obtain⟨_,_,OH⟩:=ha;refine(I.cq b ob e).qI (λc w' hc q=>(hs.2 c ?_).trans q) (λ_ q=>q) λ_ _ q=>q;rintro rfl;rcases hc with rfl|hc
  ·rw[OH]at e;cases e
  ·rw[OH]at hc;cases hc
 rcases hx with hk|hk
 ·refine wpAny_storeName_local hk hn (λh' v8 hs=>?_) Zi;obtain⟨oL,_,_,Aj,_⟩:=id hn;refine h _ ⟨I.ok,I.os,I.bare,⟨λb o e n hb hx=>?_,λb o e n hb hx=>?_,I.base.free,λb o e hx=>?_,I.base.pF,I.base.mv,I.base.pG⟩,⟨_,v8,λj y v' e1 e2 e3=>?_⟩,λy c e=>?_,I.free,I.mx,λp hp=>?_,OG ⟨oL,Aj,I.free⟩ hs,by simpa using I.len⟩ ⟨_,hs,.inl rf⟩
  ·exact(hs.2 b (fK (lJ (cX e) I.ok.above))).trans (I.base.keep b o e n hb hx)
  ·obtain⟨sl,e1⟩:=I.base.slot b o e n hb hx;exact⟨sl,(hs.2 b (fK (lJ (cX e) I.ok.above))).trans e1⟩
  ·obtain⟨o',e1⟩:=I.base.there b o e hx;exact⟨o',(hs.2 b (fK (lJ (cX e) I.ok.above))).trans e1⟩
  ·by_cases hj:j=i
   ·subst hj;rw[hi]at e1;cases e1;rw[List.getElem?_set_self OF]at e2;cases e2;exact⟨u,r,.inl ⟨hk,by simp⟩⟩
   ·rw[List.getElem?_set_ne (Ne.symm hj)]at e2;obtain⟨u',r',q⟩:=hl j y v' e1 e2 e3;refine⟨u',r',?_⟩;rcases q with⟨k,e⟩|⟨k,c,e,z⟩
    ·refine .inl ⟨k,?_⟩
     have:y≠x:=λe=>hj (OD hN e1 (e▸hi))
     simp[this,e]
    ·exact .inr ⟨k,c,e,z.sameBut hs (v5 y c e)⟩
  ·obtain⟨w',z⟩:=I.cell y c e;exact⟨w',z.sameBut hs (v5 y c e)⟩
  ·obtain⟨e,n,ne,nf,d⟩:=I.pin p hp;exact⟨(hs.2 p.1 ne).trans e,n,ne,nf,d⟩
 ·have Ak:X.fn x=true:=by
   rcases hf with z|z
   ·exact z
   ·rw[z]at hk;cases hk
  obtain⟨c,hc⟩:=I.ok.has x (.inl hk);obtain⟨w',z⟩:=I.cell x c hc;refine wpAny_storeName_cell I.ok.kind hk hc z (λh' lN hs=>?_);obtain⟨oc,OI,Zj⟩:=id z;refine h { s with heap:=h' } ⟨I.ok,I.os,I.bare,⟨λb o e n hb hx=>?_,λb o e n hb hx=>?_,I.base.free,λb o e hx=>?_,I.base.pF,I.base.mv,I.base.pG⟩,⟨m,hn.sameBut hs (Ne.symm (v5 x c hc)),λj y v' e1 e2 e3=>?_⟩,λy c' e=>?_,I.free,I.mx,λp hp=>?_,OG ⟨oc,OI,I.mx x c hc⟩ hs,by simpa using I.len⟩ ⟨c,hs,.inr hc⟩
  ·exact(hs.2 b (fK (lJ (cX e) (I.ok.Ae x c Ak hc)))).trans (I.base.keep b o e n hb hx)
  ·obtain⟨sl,e1⟩:=I.base.slot b o e n hb hx;exact⟨sl,(hs.2 b (fK (lJ (cX e) (I.ok.Ae x c Ak hc)))).trans e1⟩
  ·obtain⟨o',e1⟩:=I.base.there b o e hx;exact⟨o',(hs.2 b (fK (lJ (cX e) (I.ok.Ae x c Ak hc)))).trans e1⟩
  ·by_cases hj:j=i
   ·subst hj;rw[hi]at e1;cases e1;rw[List.getElem?_set_self OF]at e2;cases e2;exact⟨u,r,.inr ⟨.inl hk,c,hc,lN⟩⟩
   ·rw[List.getElem?_set_ne (Ne.symm hj)]at e2;obtain⟨u',r',q⟩:=hl j y v' e1 e2 e3;refine⟨u',r',?_⟩;rcases q with q|⟨k,c',e,z'⟩
    ·exact .inl q
    ·refine .inr ⟨k,c',e,z'.sameBut hs ?_⟩;rintro rfl;exact hj (OD hN e1 (I.ok.inj _ _ _ e hc▸hi))
  ·by_cases OJ:c'=c
   ·subst OJ;exact⟨_,lN⟩
   ·obtain⟨w2,z2⟩:=I.cell y c' e;exact⟨w2,z2.sameBut hs OJ⟩
  ·obtain⟨e,n,ne,nf,d⟩:=I.pin p hp;refine⟨(hs.2 p.1 ?_).trans e,n,ne,nf,d⟩;intro q;rw[q,OI]at e;have q':oc=p.2:=dq e;exact d w' (by rw[<- q'];exact Zj)
theorem OK(I:Inv X aU σ H s)(hN:X.N.Nodup)(hi:X.N[i]?=some x)(hx:Loc X.env.scope x)(r:RelV v u)
  (h:∀s',Inv X aU (σ.set i (some v)) H s'->Q () s') (hf:X.fn x=true\/X.env.scope.names.lookup x=some .local:=by first|exact .inl rfl|exact .inr rfl|assumption):wpAny M A (storeName X.env x u) Q E s:=
 OE I hN hi hx r (λs' I' _=>h s' I') hf
theorem Inv.Zk{s':Shared}(I:Inv X aU σ H s)(ho:s'.os=s.os)(u:Un (mw X.stack) ch H H' s.heap s'.heap)(cq:gE X.prog X.w H' s'.heap)(hg:AllBare s'.gens)
  (qJ:∀b∈ch,(b∈X.ex\/X.s₀.heap.objs.size<=b)/\b≠X.env.locals/\(∀x c,X.env.cells.lookup x=some c->c≠b)/\∀p∈X.pn++aU,p.1≠b):Inv X aU σ H' s':=by
 obtain⟨h',g',d',t',o'⟩:=s';have e:o'=s.os:=ho;subst e;exact I.call (g':=g') (t':=t') (d':=d') u cq hg qJ
end
abbrev XK:=Value->Option Addr->Hp->Prop
abbrev St:=List (Option V)
abbrev VK:=V->Hp->Prop
abbrev TE:=St->Hp->VK->Prop
abbrev TT:=St->Hp->(Bool->Hp->Prop)->Prop
abbrev TA:=St->Hp->(List V->Hp->Prop)->Prop
structure Ends where
 nx:St->Hp->Prop
 rt:VK
 bk:St->Hp->Prop:=λ_ _=>False
 ct:St->Hp->Prop:=λ_ _=>False
abbrev TS:=Ends->St->Hp->Prop
def EP(X:Cx)(aU:List (Addr×Obj))(σ:St)(Q:VK)(u:Value)(s':Shared):Prop:=∃v H',Inv X aU σ H' s'/\RelV v u/\Q v H'
def TP(X:Cx)(aU:List (Addr×Obj))(σ:St)(Q:Bool->Hp->Prop)(b:Bool)(s':Shared):Prop:=∃H',Inv X aU σ H' s'/\Q b H'
def AP(X:Cx)(aU:List (Addr×Obj))(σ:St)(Q:List V->Hp->Prop)(us:List Value)(s':Shared):Prop:=∃vs H',Inv X aU σ H' s'/\Vals vs us/\Q vs H'
def SP(X:Cx)(aU:List (Addr×Obj))(D:Ends)(f:Flow)(s':Shared):Prop:=
 match f with
 | .next=>∃σ' H',Inv X aU σ' H' s'/\D.nx σ' H'
 | .brk=>∃σ' H',Inv X aU σ' H' s'/\D.bk σ' H'
 | .cont=>∃σ' H',Inv X aU σ' H' s'/\D.ct σ' H'
 | .ret u=>∃v σ' H',Inv X aU σ' H' s'/\RelV v u/\D.rt v H'
def PE(X:Cx)(e:Expr)(t:TE):Prop:=
 ∀(aU:List (Addr×Obj))(s:Shared)(σ:St)(H:Hp)(Q:VK),Inv X aU σ H s->t σ H Q->wpAny (model X.prog X.w) X.A (eval e X.env) (EP X aU σ Q) X.xe s
def PT(X:Cx)(e:Expr)(t:TT):Prop:=
 ∀(aU:List (Addr×Obj))(s:Shared)(σ:St)(H:Hp)(Q:Bool->Hp->Prop),Inv X aU σ H s->t σ H Q->wpAny (model X.prog X.w) X.A (isTrue e X.env (eval e X.env)) (TP X aU σ Q) X.xe s
def PW(X:Cx)(e:Expr)(t:TT):Prop:=
 ∀(v9:Sem Value)(aU:List (Addr×Obj))(s:Shared)(σ:St)(H:Hp)(Q:Bool->Hp->Prop),Inv X aU σ H s->t σ H Q->wpAny (model X.prog X.w) X.A (isTrue e X.env v9) (TP X aU σ Q) X.xe s
theorem PW.pt{t:TT}(h:PW X e t):PT X e t:=h _
def PA(X:Cx)(es:List Expr)(t:TA):Prop:=
 ∀(pos:Pos)(aU:List (Addr×Obj))(s:Shared)(σ:St)(H:Hp)(Q:List V->Hp->Prop),Inv X aU σ H s->t σ H Q->wpAny (model X.prog X.w) X.A (spliced (backTo pos (starEach es X.env))) (AP X aU σ Q) X.xe s
def PS(X:Cx)(st:Stmt)(t:TS):Prop:=
 ∀(aU:List (Addr×Obj))(s:Shared)(σ:St)(H:Hp)(D:Ends),Inv X aU σ H s->t D σ H->wpAny (model X.prog X.w) X.A (exec st X.env) (SP X aU D) X.xe s
def lP(X:Cx)(st:List Stmt)(t:TS):Prop:=
 ∀(aU:List (Addr×Obj))(s:Shared)(σ:St)(H:Hp)(D:Ends),Inv X aU σ H s->t D σ H->wpAny (model X.prog X.w) X.A (execs st X.env) (SP X aU D) X.xe s
theorem bj{α:Type}{t:Sem α}{Q Q':α->Shared->Prop}(h:wpAny M A t Q E s)(hQ:∀a s,Q a s->Q' a s):wpAny M A t Q' E s:=ah h hQ λ_ _ x=>x
section
variable{X:Cx}
theorem bin{a b:Expr}{ta tb:TE}(ha:PE X a ta)(hb:PE X b tb){R:V->V->Hp->Prop}(I:Inv X aU σ H s)(h:ta σ H λx H1=>tb σ H1 λy H2=>R x y H2)
  {α:Type} {Q:α->Shared->Prop} {f:Value->Value->Sem α}
  (hf:∀v u s2 x y H2,Inv X aU σ H2 s2->RelV x v->RelV y u->R x y H2->wpAny (model X.prog X.w) X.A (f v u) Q X.xe s2) :
  wpAny (model X.prog X.w) X.A (eval a X.env) (λv s₁=>wpAny (model X.prog X.w) X.A (eval b X.env) (λu s₂=>wpAny (model X.prog X.w) X.A (f v u) Q X.xe s₂) X.xe s₁) X.xe s:=by
 refine bj (ha aU s σ H _ I h) λv s1 ⟨x,H1,I1,r1,q1⟩=>?_;refine bj (hb aU s1 σ H1 _ I1 q1) λu s2 ⟨y,H2,I2,r2,q2⟩=>?_;exact hf v u s2 x y H2 I2 r1 r2 q2
def bg(i:Nat):TE:=λσ H Q=>∃v,σ[i]?=some (some v)/\Q v H
def tC(v:V):TE:=λ_ H Q=>Q v H
theorem OL{pos:Pos}(hN:X.N[i]?=some x)(hv:Ad X.env.scope x)(hd:(x==("__debug__":Str))=false:=by decide)(jY:(x==("__classdict__":Str))=false:=by decide):PE X (.Name x pos) (bg i):=by
 intro aU s σ H Q I h;obtain⟨v,e,h⟩:=h;obtain⟨m,hn,hl⟩:=I.loc;obtain⟨u,r,l⟩:=hl i x v hN e hv;have fin:EP X aU σ Q u s:=⟨v,H,I,r,h⟩;rcases l with⟨hk,hm⟩|⟨hk,c,hc,OM⟩
 ·exact wpAny_Name (wpAny_loadName_local I.ok.kind hk hn hm fin) hd
 ·rcases hk with hk|hk
  ·exact wpAny_Name (wpAny_loadName_cell I.ok.kind hk hc OM fin) hd
  ·exact wpAny_Name (wpAny_loadName_free I.ok.kind hk hc OM fin jY) hd
theorem ba{i j pos}:PE X (.Constant (.int i) j pos) (tC (.int i)):=λ_ _ _ H _ I h=>wpAny_Constant_int ⟨.int i,H,I.tok _,⟨_,rfl⟩,h⟩
theorem pI{b j pos}:PE X (.Constant (.bool b) j pos) (tC (.bl b)):=λ_ _ _ H _ I h=>Constant_bool ⟨.bl b,H,I,rfl,h⟩
theorem Dh{j pos}:PE X (.Constant .none j pos) (tC .df):=λ_ _ _ H _ I h=>Constant_none ⟨.df,H,I,rfl,h⟩
theorem dh{x j pos}:PE X (.Constant (.str x) j pos) (tC (.str x)):=λ_ _ _ H _ I h=>Calls.Constant_str ⟨.str x,H,I.tok _,⟨_,rfl⟩,h⟩
def Gl(X:Cx)(x:Str):Prop:=X.env.kindOf x=some .globalImplicit
theorem HD{pos:Pos}{Q:QV}(I:Inv X aU σ H s)(hg:Gl X x)(hm:X.mg x=some u)(h:Q u s)
  (hd:(x==("__debug__":Str))=false:=by decide):wpAny (model X.prog X.w) X.A (eval (.Name x pos) X.env) Q E s:=
 Calls.Name_function_global I.ok.kind hg (Calls.loadGlobal_global (by rw[I.ok.glob];exact I.mod.glob.keeps I.bk) hm h) hd
theorem sg{pos:Pos}{Q:QV}(I:Inv X aU σ H s)(hg:Gl X x)(hm:X.mg x=none)(hv:bootBuiltins x=some u)(h:Q u s)
  (hn:x ≠ "__name__":=by decide) (hd:(x==("__debug__":Str))=false:=by decide):wpAny (model X.prog X.w) X.A (eval (.Name x pos) X.env) Q E s:=by
 obtain⟨mb,h1,h2⟩:=I.mod.blt;exact Calls.Name_function_global I.ok.kind hg (Calls.loadGlobal_builtin (by rw[I.ok.glob];exact I.mod.glob.keeps I.bk) hm (by rw[I.ok.blt];exact h1.keeps I.bk) ((h2 x hn).trans hv) h) hd
theorem pJ{pos:Pos}(hg:Gl X x)(hm:X.mg x=some u)(r:RelV v u)(hd:(x==("__debug__":Str))=false:=by decide):PE X (.Name x pos) (tC v):=
 λ_ _ _ H _ I h=>HD I hg hm ⟨v,H,I,r,h⟩ hd
theorem Zl{pos:Pos}(hg:Gl X x)(hm:X.mg x=none)(hv:bootBuiltins x=some u)(r:RelV v u)(hn:x ≠ "__name__":=by decide)(hd:(x==("__debug__":Str))=false:=by decide):PE X (.Name x pos) (tC v):=
 λ_ _ _ H _ I h=>sg I hg hm hv ⟨v,H,I,r,h⟩ hn hd
def Zm(ta tb:TE)(k:Int->Int->Hp->Prop):St->Hp->Prop:=λσ H=>ta σ H λx H1=>tb σ H1 λy H2=>∃i j,x=.int i/\y=.int j/\k i j H2
variable{a b:Expr}{ta tb:TE}{pos:Pos}
def PC(X:Cx)(op:CmpOp)(a b:Expr)(t:TE):Prop:=
 ∀(aU:List (Addr×Obj))(s:Shared)(σ:St)(H:Hp)(Q:VK),Inv X aU σ H s->t σ H Q->
  wpAny (model X.prog X.w) X.A (eval a X.env) (λv s₁=>wpAny (model X.prog X.w) X.A (eval b X.env) (λu s₂=>wpAny (model X.prog X.w) X.A (compareOp op v u) (EP X aU σ Q) X.xe s₂) X.xe s₁) X.xe s
theorem Zn(b:Expr)(h:op≠.In)(h2:op≠.NotIn):behindInMarks op b=false:=by
 have e1:(op==CmpOp.In)=false:=by cases op<;>first|rfl|exact absurd rfl h
 have e2:(op==CmpOp.NotIn)=false:=by cases op<;>first|rfl|exact absurd rfl h2
 cases b<;>simp[behindInMarks,e1,e2]
def ON(p:Int->Int->Bool)(ta tb:TE):TE:=λσ H Q=>Zm ta tb (λi j H2=>Q (.bl (p i j)) H2) σ H
abbrev Zo:TE->TE->TE:=ON λi j=>decide (i<=j)
theorem Zp{p:Int->Int->Bool}(ha:PE X a ta)(hb:PE X b tb)
  (rule:∀(i j:Int)(t u:Tok)(Q:QV)(s:Shared),Q (.bool (p i j)) s->wpAny (model X.prog X.w) X.A (compareOp op (.int i t) (.int j u)) Q X.xe s):PC X op a b (ON p ta tb):=by
 intro aU s σ H Q I h;refine bin ha hb I h λv u s2 x y H2 I2 rx ry q=>?_;obtain⟨i,j,rfl,rfl,q⟩:=q;obtain⟨t,rfl⟩:=rx;obtain⟨t',rfl⟩:=ry;exact rule i j t t' _ s2 ⟨.bl _,H2,I2,rf,q⟩
theorem OO(ha:PE X a ta)(hb:PE X b tb):PC X .LtE a b (Zo ta tb):=Zp ha hb λ_ _ _ _ _ _ h=>le_int h
def tB(t:TE):TT:=λσ H Q=>t σ H λx H1=>∃c,x=.bl c/\Q c H1
theorem wc(h:PC X op a b t)(h1:behindInMarks op b=false:=by first|exact Zn _ (by decide) (by decide)|rfl):PT X (.Compare a [op] [b] pos) (tB t):=by
 intro aU s σ H Q I hw;refine wpAny_isTrue_Compare1 (bj (h aU s σ H _ I hw) λv s1 h1=>bj h1 λu s2 h2=>bj h2 λc s3 ⟨x,H1,I1,r1,q1⟩=>?_) h1;obtain⟨d,rfl,q⟩:=q1;cases r1;exact ai ⟨H1,I1,q⟩
theorem pK(h:PE X e t)(he:∀v9,isTrue e X.env v9=(do let v <- v9;standAt e.pos;holding [v] (truthy v)):=by intro _;rfl):PT X e (tB t):=by
 intro aU s σ H Q I hw;refine isTrue_plain (bj (h aU s σ H _ I hw) λv s1 ⟨x,H1,I1,r1,q1⟩=>?_) (he _);obtain⟨d,rfl,q⟩:=q1;cases r1;exact ai ⟨H1,I1,q⟩
variable{tA Di:TT}{eW:List Expr}
def pL(t u:TT):TT:=λσ H Q=>t σ H λc H1=>if c=true then u σ H1 Q else Q false H1
def pM(t u:TT):TT:=λσ H Q=>t σ H λc H1=>if c=true then Q true H1 else u σ H1 Q
def HE(t:TT):TT:=λσ H Q=>t σ H λc H1=>Q (!c) H1
theorem xX(ha:PT X a tA):PW X (.BoolOp .And [a] pos) tA:=by
 intro wh aU s σ H Q I h;refine isTrue_and (bj (ha aU s σ H Q I h) λc s1 e=>?_);cases c with
 |true=>exact isTrue_and_nil e
 |false=>exact e
theorem xY(ha:PT X a tA):PW X (.BoolOp .Or [a] pos) tA:=by
 intro wh aU s σ H Q I h;refine isTrue_or (bj (ha aU s σ H Q I h) λc s1 e=>?_);cases c with
 |false=>exact isTrue_or_nil e
 |true=>exact e
theorem qK(ha:PT X a tA)(hb:PW X (.BoolOp .And (b::eW) pos) Di):PW X (.BoolOp .And (a::b::eW) pos) (pL tA Di):=by
 intro wh aU s σ H Q I h;refine isTrue_and (bj (ha aU s σ H _ I h) λc s1 ⟨H1,I1,q1⟩=>?_);cases c with
 |true=>exact hb wh aU s1 σ H1 Q I1 q1
 |false=>exact⟨H1,I1,q1⟩
theorem wd(ha:PT X a tA)(hb:PW X (.BoolOp .Or (b::eW) pos) Di):PW X (.BoolOp .Or (a::b::eW) pos) (pM tA Di):=by
 intro wh aU s σ H Q I h;refine isTrue_or (bj (ha aU s σ H _ I h) λc s1 ⟨H1,I1,q1⟩=>?_);cases c with
 |true=>exact⟨H1,I1,q1⟩
 |false=>exact hb wh aU s1 σ H1 Q I1 q1
theorem we(ha:PT X a tA):PT X (.UnaryOp .Not a pos) (HE tA):=by
 intro aU s σ H Q I h;exact isTrue_not (ha aU s σ H (λc H1=>Q (!c) H1) I h)
def Zq(ta tb:TE):TE:=λσ H Q=>ta σ H λx H1=>∃c,x=.bl c/\if c=true then tb σ H1 Q else Q (.bl false) H1
theorem OP{op}(h:PE X a t):PE X (.BoolOp op [a] pos) t:=λaU s σ H Q I hw=>BoolOp_one (h aU s σ H Q I hw)
theorem HF(ha:PE X a ta)(hb:PE X (.BoolOp .And (b::eW) pos) tb):PE X (.BoolOp .And (a::b::eW) pos) (Zq ta tb):=by
 intro aU s σ H Q I h;refine BoolOp_and (bj (ha aU s σ H _ I h) λv s1 ⟨x,H1,I1,r1,q1⟩=>?_);obtain⟨c,rfl,q1⟩:=q1;cases r1;refine ai ?_;cases c with
 |true=>exact hb aU s1 σ H1 Q I1 q1
 |false=>exact⟨.bl false,H1,I1,rf,q1⟩
def Zr(t:TT)(ta tb:TE):TE:=λσ H Q=>t σ H λc H1=>if c=true then ta σ H1 Q else tb σ H1 Q
theorem Al{c:Expr}(hc:PT X c tA)(ha:PE X a ta)(hb:PE X b tb):PE X (.IfExp c a b pos) (Zr tA ta tb):=by
 intro aU s σ H Q I h;refine wpAny_IfExp (bj (hc aU s σ H _ I h) λd s1 ⟨H1,I1,q1⟩=>?_);cases d with
 |true=>exact ha aU s1 σ H1 Q I1 q1
 |false=>exact hb aU s1 σ H1 Q I1 q1
end
def dQ(K:Frag)(H:Hp)(a:Addr)(xs:List V):Prop:=
 Rd H a (.lst xs) \/
  ∃(o:Obj)(its:Array Value)(n:Nat),K.lookup a=some o/\o.cls=.type "list"/\o.dict=none/\o.data=.seq its n/\its.size<=sizeLine/\Vals xs its.toList
def bq(K:Frag)(H:Hp)(a:Addr)(xs:List V):Prop:=
 Rd H a (.tup xs) \/
  ∃(o:Obj)(its:Array Value)(n:Nat),K.lookup a=some o/\o.cls=.type "tuple"/\o.data=.seq its n/\its.size<=sizeLine/\Vals xs its.toList
noncomputable def Zs:Value->Option V
 | .none=>some .df
 | .bool b=>some (.bl b)
 | .int i _=>some (.int i)
 | .str x _=>some (.str x)
 | .bytes b _=>some (.nL b)
 | .float b _=>some (.xS b)
 | .ref a=>some (.ref a)
 | .type n=>some (.ty n)
 |_=>none
theorem RelV.abs{x:V}(r:RelV x u):Zs u=some x:=by
 cases x with
 |df=>cases r;rfl
 |bl _=>cases r;rfl
 |int _=>obtain⟨t,rfl⟩:=r;rfl
 |str _=>obtain⟨t,rfl⟩:=r;rfl
 |nL _=>obtain⟨t,rfl⟩:=r;rfl
 |xS _=>obtain⟨t,rfl⟩:=r;rfl
 |ref _=>cases r;rfl
 |ty _=>cases r;rfl
theorem RelV.inj{x y:V}{u:Value}(r:RelV x u)(q:RelV y u):x=y:=dq (r.abs.symm.trans q.abs)
theorem Vals.inj:∀{xs ys:List V}{us:List Value},Vals xs us->Vals ys us->xs=ys
 |_,_,_,.nil,.nil=>rfl
 |_,_,_,.cons r t,.cons r' t'=>by rw[r.inj r',Vals.inj t t']
section
variable{X:Cx}{aU:List (Addr×Obj)}{σ:St}{H:Hp}{s:Shared}{a:Addr}{xs ys:List V}
theorem dQ.of{K:Frag}(h:H a=some (.lst xs)):dQ K H a xs:=.inl (.inl h)
theorem bq.of{K:Frag}(h:H a=some (.tup xs)):bq K H a xs:=.inl (.inl h)
theorem Inv.list(I:Inv X aU σ H s)(h:dQ X.K H a xs):∃its:List Value,Vals xs its/\PlainL s.heap a its.toArray/\xs.length<=sizeLine:=by
 rcases h with h|⟨o,its,n,hk,hc,hd,hs,hz,r⟩
 ·obtain⟨z,its,n,r,e⟩:=h.ok I.cq;exact⟨its,r,⟨_,n,e,rf,rf,rf⟩,z⟩
 ·refine⟨its.toList,r,⟨o,n,I.iC a o hk,hc,hd,by simpa using hs⟩,?_⟩;have e:=r.length;simp only[vQ]at e;lia
theorem Inv.tuple(I:Inv X aU σ H s)(h:bq X.K H a xs):∃its:List Value,Vals xs its/\IsTup s.heap a its.toArray/\xs.length<=sizeLine:=by
 rcases h with h|⟨o,its,n,hk,hc,hs,hz,r⟩
 ·obtain⟨z,its,r,p⟩:=h.ok I.cq;exact⟨its,r,p.tup,z⟩
 ·refine⟨its.toList,r,⟨o,I.iC a o hk,hc,n,by simpa using hs⟩,?_⟩;have e:=r.length;simp only[vQ]at e;lia
theorem Inv.OQ(I:Inv X aU σ H s)(h:dQ X.K H a xs)(h':dQ X.K H a ys):xs=ys:=by
 obtain⟨its,r,⟨o,n,e,_,_,d⟩,_⟩:=I.list h;obtain⟨its',r',⟨o',n',e',_,_,d'⟩,_⟩:=I.list h';rw[e]at e';cases e';rw[d]at d';injection d' with d1 _
 have:its=its':=by simpa using aj Array.toList d1
 subst this;exact r.inj r'
theorem Inv.OR(I:Inv X aU σ H s)(h:bq X.K H a xs)(h':bq X.K H a ys):xs=ys:=by
 obtain⟨its,r,⟨o,e,_,n,d⟩,_⟩:=I.tuple h;obtain⟨its',r',⟨o',e',_,n',d'⟩,_⟩:=I.tuple h';rw[e]at e';cases e';rw[d]at d';injection d' with d1 _
 have:its=its':=by simpa using aj Array.toList d1
 subst this;exact r.inj r'
end
noncomputable abbrev Cx.qL(X:Cx)(E:QV):Cx:={ X with xe:=E }
noncomputable abbrev Cx.uC(X:Cx):Cx:=X.qL λ_ _=>False
theorem Cx.Ok.qL{X:Cx}(ok:X.Ok)(E:QV):(X.qL E).Ok:=
 ⟨ok.mod,ok.kind,ok.glob,ok.blt,ok.above,ok.inj,ok.has,ok.Ae,ok.hd,ok.frames,ok.Dd,ok.Af,ok.bs,ok.uB,ok.Ag,ok.xV,ok.pH,ok.xW⟩
theorem Cx.Ok.uD(ok:(X.qL E).Ok):X.Ok:=
 ⟨ok.mod,ok.kind,ok.glob,ok.blt,ok.above,ok.inj,ok.has,ok.Ae,ok.hd,ok.frames,ok.Dd,ok.Af,ok.bs,ok.uB,ok.Ag,ok.xV,ok.pH,ok.xW⟩
section
variable{X:Cx}{aU:List (Addr×Obj)}{σ:St}{H:Hp}{s:Shared}{E:QV}
theorem Inv.qL(I:Inv X aU σ H s)(E:QV):Inv (X.qL E) aU σ H s:=⟨I.ok.qL E,I.os,I.bare,I.base,I.loc,I.cell,I.free,I.mx,I.pin,I.cq,I.len⟩
theorem Inv.uD(I:Inv (X.qL E) aU σ H s):Inv X aU σ H s:=⟨I.ok.uD,I.os,I.bare,I.base,I.loc,I.cell,I.free,I.mx,I.pin,I.cq,I.len⟩
theorem SP.uD{D:Ends}{f:Flow}{s':Shared}(h:SP (X.qL E) aU D f s'):SP X aU D f s':=by
 cases f with
 |next=>obtain⟨σ',H',I,q⟩:=h;exact⟨σ',H',I.uD,q⟩
 |brk=>obtain⟨σ',H',I,q⟩:=h;exact⟨σ',H',I.uD,q⟩
 |cont=>obtain⟨σ',H',I,q⟩:=h;exact⟨σ',H',I.uD,q⟩
 |ret u=>obtain⟨v,σ',H',I,r,q⟩:=h;exact⟨v,σ',H',I.uD,r,q⟩
theorem lP.uC{st:List Stmt}{t:TS}(h:lP X.uC st t):lP X st t:=λaU s σ H D I hw=>
 ah (h aU s σ H D (I.qL _) hw) (λ_ _ q=>q.uD) λ_ _ z=>False.elim z
end
section
variable{X:Cx}{st:Stmt}{eW:List Stmt}{t u:TS}{e:Expr}{te:TE}{pos:Pos}
def gG:TS:=λD σ H=>D.nx σ H
def cF(t u:TS):TS:=λD σ H=>t { D with nx:=u D } σ H
theorem dz:lP X [] gG:=λ_ _ σ H _ I h=>wpAny_execs_nil ⟨σ,H,I,h⟩
theorem bo(h1:PS X st t)(h2:lP X eW u):lP X (st::eW) (cF t u):=by
 intro aU s σ H D I h;refine wpAny_execs_cons (bj (h1 aU s σ H { D with nx:=u D } I h) λf s1 q=>?_);cases f with
 |next=>
  obtain⟨σ',H',I',q⟩:=q;exact h2 aU s1 σ' H' D I' q
 |ret v=>exact q
 |brk=>exact q
 |cont=>exact q
theorem bY(h1:PS X st t):lP X [st] t:=by
 intro aU s σ H D I h;refine wpAny_execs_cons (bj (h1 aU s σ H D I h) λf s1 q=>?_);cases f with
 |next=>exact wpAny_execs_nil q
 |ret v=>exact q
 |brk=>exact q
 |cont=>exact q
def xZ:TS:=λD σ H=>D.ct σ H
theorem HG:PS X (.Continue pos) xZ:=λ_ _ σ H _ I h=>wpAny_Continue ⟨σ,H,I,h⟩
theorem Inv.quiet(I:Inv X aU σ H s):interactive X.env=false:=by simp[interactive,I.ok.kind]
def wg(te:TE):TS:=λD σ H=>te σ H λ_ H1=>D.nx σ H1
theorem oJ(he:PE X e te)(hs:swapsWith e none pos.line X.env=pure false:=by rfl):PS X (.Expr e pos) (wg te):=by
 intro aU s σ H D I h;exact wpAny_Expr_any (bj (he aU s σ H _ I h) λv s1 ⟨x,H1,I1,r1,q1⟩=>⟨σ,H1,I1,q1⟩) I.quiet hs
def fQ(te:TE):TS:=λD σ H=>te σ H D.rt
theorem cC(he:PE X e te):PS X (.Return (some e) pos) (fQ te):=by
 intro aU s σ H D I h;exact wpAny_Return_some (bj (he aU s σ H _ I h) λv s1 ⟨x,H1,I1,r1,q1⟩=>⟨x,σ,H1,I1,r1,q1⟩)
def eA(c:TT)(t u:TS):TS:=λD σ H=>c σ H λb H1=>if b=true then t D σ H1 else u D σ H1
theorem dj{c:Expr}{a b:List Stmt}{tc:TT}(hc:PT X c tc)(ha:lP X a t)(hb:lP X b u):PS X (.If c a b pos) (eA tc t u):=by
 intro aU s σ H D I h;refine wpAny_If (bj (hc aU s σ H _ I h) λd s1 ⟨H1,I1,q1⟩=>?_);cases d with
 |true=>exact ha aU s1 σ H1 D I1 q1
 |false=>exact hb aU s1 σ H1 D I1 q1
def OS:TS:=λ_ _ _=>False
theorem Zt:PS X st OS:=λ_ _ _ _ _ _ h=>h.elim
theorem Dj{Zu:List Stmt}:lP X Zu OS:=λ_ _ _ _ _ _ h=>h.elim
end
abbrev TG:=V->St->Hp->(St->Hp->Prop)->Prop
abbrev qM:=List V->St->Hp->(St->Hp->Prop)->Prop
def PG(X:Cx)(target:Expr)(t:TG):Prop:=
 ∀(aU:List (Addr×Obj))(s:Shared)(σ:St)(H:Hp)(v:V)(u:Value)(Q:St->Hp->Prop),Inv X aU σ H s->RelV v u->t v σ H Q->
  wpAny (model X.prog X.w) X.A (assign target X.env u) (λ_ s'=>∃σ' H',Inv X aU σ' H' s'/\Q σ' H') X.xe s
def x3(X:Cx)(ts:List Expr)(t:qM):Prop:=
 ∀(aU:List (Addr×Obj))(s:Shared)(σ:St)(H:Hp)(vs:List V)(us:List Value)(Q:St->Hp->Prop),Inv X aU σ H s->Vals vs us->t vs σ H Q->
  wpAny (model X.prog X.w) X.A (assignInOrder ((assignEach ts X.env).map (·.2)) us) (λ_ s'=>∃σ' H',Inv X aU σ' H' s'/\Q σ' H') X.xe s
abbrev HH:=V->V->V->Hp->(Hp->Prop)->Prop
def OT(X:Cx)(t:HH):Prop:=
 ∀(aU:List (Addr×Obj))(s:Shared)(σ:St)(H:Hp)(o i v:V)(ov iv u:Value)(Q:Hp->Prop),Inv X aU σ H s->RelV o ov->RelV i iv->RelV v u->t o i v H Q->
  wpAny (model X.prog X.w) X.A (setItem ov iv u) (λ_ s'=>∃H',Inv X aU σ H' s'/\Q H') X.xe s
section
variable{X:Cx}{pos:Pos}
def cG(i:Nat):TG:=λv σ H Q=>Q (σ.set i (some v)) H
theorem cH(hN:X.N.Nodup)(hi:X.N[i]?=some x)(hx:Loc X.env.scope x)(hf:X.fn x=true\/X.env.scope.names.lookup x=some .local:=by first|exact .inl rfl|exact .inr rfl|assumption):PG X (.Name x pos) (cG i):=by
 intro aU s σ H v u Q I r h;exact wpAny_assign_Name (OK I hN hi hx r (λs' I'=>⟨_,H,I',h⟩) hf)
def uE:qM:=λvs σ H Q=>vs=[]/\Q σ H
def jK(t:TG)(u:qM):qM:=λvs σ H Q=>∃v r,vs=v::r/\t v σ H λσ' H'=>u r σ' H' Q
theorem ko:x3 X [] uE:=by
 intro aU s σ H vs us Q I r h;obtain⟨e,h⟩:=h;subst e;cases r;exact assignInOrder_nil ⟨σ,H,I,h⟩
theorem eZ{es:List Expr}{t:TG}{u:qM}(h1:PG X e t)(h2:x3 X es u)
  (hs:(assignEach (e::es) X.env).map (·.2)=assign e X.env::(assignEach es X.env).map (·.2):=by rfl):x3 X (e::es) (jK t u):=by
 intro aU s σ H vs us Q I r h;obtain⟨v,vr,e1,h⟩:=h;subst e1;cases r with
 |cons r rr=>
  rw[hs];refine assignInOrder_cons (bj (h1 aU s σ H _ _ _ I r h) λ_ s1 ⟨σ1,H1,I1,q1⟩=>?_);exact h2 aU s1 σ1 H1 _ _ Q I1 rr q1
def si(K:Frag)(n:Nat)(t:qM):TG:=λv σ H Q=>∃a xs,v=.ref a/\bq K H a xs/\xs.length=n/\t xs σ H Q
theorem Zv{es:List Expr}{k:Nat}{t:qM}(hc:X.calm=true)(h:x3 X es t)
  (hn:(assignEach es X.env).length=n:=by rfl) (wj:(assignEach es X.env).findIdx? (·.1)=none:=by rfl):PG X (.Tuple es k pos) (si X.K n t):=by
 intro aU s σ H v u Q I r hw;obtain⟨a,xs,e1,hq,hl,hw⟩:=hw;subst e1;cases r;obtain⟨its,rv,ht,hz⟩:=I.tuple hq;refine assign_Tuple_tuple (I.ok.hd hc) ht (by simp[hn,<- hl,rv.length]) wj λh' hx=>?_;have I1:Inv X aU σ H { s with heap:=h' }:=I.kept (t':=s.toks) λb o e=>hx b o (fK (cX e)) e;exact h aU _ σ H xs _ Q I1 (by simpa using rv) hw
def Zw(to ti:TE)(t:HH):TG:=λv σ H Q=>to σ H λo H1=>ti σ H1 λi H2=>t o i v H2 λH3=>Q σ H3
theorem x4{o i:Expr}{to ti:TE}{t:HH}(ho:PE X o to)(hi:PE X i ti)(hs:OT X t)
  (ha:∀v,assign (.Subscript o i pos) X.env v=(do
   let ov <- holding [v] (eval o X.env)
   let iv <- holding [v,ov] (eval i X.env)
   standAt pos
   holding [v,ov,iv] (setItem ov iv v)
   release [v,ov,iv] []):=by intro _;rfl):PG X (.Subscript o i pos) (Zw to ti t):=by
 intro aU s σ H v u Q I r h;rw[ha];refine ak (ao (bj (ho aU s σ H _ I h) λov s1 ⟨x,H1,I1,r1,q1⟩=>?_));refine ak (ao (bj (hi aU s1 σ H1 _ I1 q1) λiv s2 ⟨y,H2,I2,r2,q2⟩=>?_));refine ak (wpAny_standAt (ak (ao (bj (hs aU s2 σ H2 x y v ov iv u _ I2 r1 r2 r q2) λ_ s3 ⟨H3,I3,q3⟩=>?_))));exact wpAny_release ⟨σ,H3,I3,q3⟩
def dM(te:TE)(g:TG):TS:=λD σ H=>te σ H λx H1=>g x σ H1 D.nx
theorem my{te:TE}(he:PE X e te)(hg:PG X tg g)(hs:swapsWithSole [tg] e pos.line X.env=pure false:=by rfl)(hw:swappedStores [tg] e X.env=pure none:=by rfl)
  (h1:(assignEach [tg] X.env).map (·.2)=[assign tg X.env]:=by rfl):PS X (.Assign [tg] e pos) (dM te g):=by
 intro aU s σ H D I h;refine wpAny_Assign_stores (bj (he aU s σ H _ I h) λv s1 ⟨x,H1,I1,r1,q1⟩=>?_) hs hw;rw[h1];exact bj (hg aU s1 σ H1 x v _ I1 r1 q1) λ_ s2 q=>q
theorem cv{te:TE}{oK:Pos}(hN:X.N.Nodup)(hi:X.N[i]?=some x)(hx:Loc X.env.scope x)(he:PE X e te)(hs:swapsWith e (some (.Name x oK)) pos.line X.env=pure false:=by rfl)(hf:X.fn x=true\/X.env.scope.names.lookup x=some .local:=by first|exact .inl rfl|exact .inr rfl|assumption) :
  PS X (.Assign [.Name x oK] e pos) (dM te (cG i)):=by
 intro aU s σ H D I h;refine wpAny_Assign_Name (bj (he aU s σ H _ I h) λv s1 ⟨y,H1,I1,r1,q1⟩=>?_) hs;exact OK I1 hN hi hx r1 (λs2 I2=>⟨_,H1,I2,q1⟩) hf
end
section
variable{X:Cx}{pos:Pos}
end
structure It where
 go:Nat->Hp->Prop
 pN:Nat->Hp->V->Hp->Prop
 stop:Nat->Hp->Prop
def iV(X:Cx)(aU:List (Addr×Obj))(H:Hp)(b:Addr):Prop:=
 H b=none/\b≠X.env.locals/\b ∉ X.fs/\(b∈X.ex\/X.s₀.heap.objs.size<=b)/\(∀x c,X.env.cells.lookup x=some c->c≠b)/\∀p∈X.pn++aU,p.1≠b
theorem Inv.jZ{H':Hp}(I:Inv X aU σ H s)(hb:s.heap.objs.size<=b)(hn:H' b=none):iV X aU H' b:=by
 refine⟨hn,lK (lJ I.lt hb),I.Zh hb,.inr (gn I.sz hb),λx c e z=>?_,λp hp z=>?_⟩
 ·obtain⟨v,q⟩:=I.cell x c e;exact absurd (lJ q.lt (by rw[z];exact hb)) (rW _)
 ·exact absurd (lJ (cX (I.pin p hp).1) (by rw[z];exact hb)) (rW _)
structure Turn(P:Program)(w:World)(K:Frag)(tg:Expr)(J:It)(fp:List Addr)(it:Addr)(tn:Nat->Heap->Prop):Prop where
 mem:it∈fp
 obj:∀i h,tn i h->∀b∈fp,∃o,h.get? b=some o/\∀v,o.data≠.cell v
 keep:∀i h h',tn i h->(∀b∈fp,∀o,h.get? b=some o->h'.get? b=some o)->tn i h'
 item:∀(X:Cx),X.prog=P->X.w=w->X.K=K->X.calm=true->∀(i:Nat)(aU:List (Addr×Obj))(s:Shared)(σ:St)(H:Hp)(E:QV),Inv X aU σ H s->(∀b∈fp,iV X aU H b)->tn i s.heap->J.go i H->
  wpAny (model P w) X.A (pyNext (.ref it)) (λr s1=>∃u,r=some u/\
   wpAny (model P w) X.A (letOwnedTupleGo tg (.ref it) u) (λ_ s2=>∃x H',Inv X aU σ H' s2/\RelV x u/\J.pN i H x H'/\tn (i+1) s2.heap/\∀b∈fp,H' b=none) E s1) E s
 done:∀(X:Cx),X.prog=P->X.w=w->X.K=K->X.calm=true->∀(i:Nat)(aU:List (Addr×Obj))(s:Shared)(σ:St)(H:Hp)(E:QV),Inv X aU σ H s->(∀b∈fp,iV X aU H b)->tn i s.heap->J.stop i H->
  wpAny (model P w) X.A (pyNext (.ref it)) (λr s1=>r=none/\Inv X aU σ H s1) E s
 self:∀(A:Around)(i:Nat)(s:Shared)(Q:QV)(E:QV),tn i s.heap->Q (.ref it) s->wpAny (model P w) A (pyIter (.ref it)) Q E s
abbrev TI:=St->Hp->(It->Hp->Prop)->Prop
def HI(X:Cx)(aU:List (Addr×Obj))(σ:St)(tg:Expr)(R:It->Hp->Prop)(Dk:Value)(s2:Shared):Prop:=
 ∃(it:Addr)(fp:List Addr)(tn:Nat->Heap->Prop)(J:It)(H':Hp),Dk=.ref it/\Inv X aU σ H' s2/\Turn X.prog X.w X.K tg J fp it tn/\tn 0 s2.heap/\(∀b∈fp,iV X aU H' b)/\R J H'
def PI(X:Cx)(tg iter:Expr)(wi:TI):Prop:=
 ∀(aU:List (Addr×Obj))(s:Shared)(σ:St)(H:Hp)(R:It->Hp->Prop),Inv X aU σ H s->wi σ H R->
  wpAny (model X.prog X.w) X.A (eval iter X.env) (λv s1=>wpAny (model X.prog X.w) X.A (pyIter v) (HI X aU σ tg R) X.xe s1) X.xe s
theorem Am{it:Addr}{o:Obj}{n:String}{vs:Array Value}(ho:s.heap.get? it=some o)(hc:o.cls=.type n)(hd:o.data=.fields vs)
  (hn:["enumerate","zip","dict_itemiterator","dict_reverseitemiterator","odict_iterator","itertools.zip_longest","itertools.pairwise"].contains n=false) (hQ:Q () s):wpAny M A (letOwnedTupleGo tg (.ref it) u) Q E s:=by
 unfold letOwnedTupleGo;cases tg<;>first
  |exact aq hQ
  |(cases u<;>first
    |exact aq hQ
    |(refine ak (wpAny_load ho ?_);rw[hc,hd];show wpAny M A (if(["enumerate","zip","dict_itemiterator","dict_reverseitemiterator","odict_iterator","itertools.zip_longest","itertools.pairwise"].contains n&&vs[0]? == some (rawInt _))=true then _ else _) Q E s;rw[ag (by intro h;rw[hn,Bool.false_and]at h;cases h)];exact aq hQ))
noncomputable def sj(K:Frag)(a:Addr):It:=
 ⟨λi H=>∃xs x,dQ K H a xs/\xs[i]?=some x,λi H x H'=>H'=H/\∀xs,dQ K H a xs->xs[i]?=some x,λi H=>∃xs,dQ K H a xs/\xs.length<=i⟩
noncomputable def x5(K:Frag)(a:Addr):It:=
 ⟨λi H=>∃xs x,bq K H a xs/\xs[i]?=some x,λi H x H'=>H'=H/\∀xs,bq K H a xs->xs[i]?=some x,λi H=>∃xs,bq K H a xs/\xs.length<=i⟩
noncomputable def uF(lo:Int)(n:Nat):It:=⟨λi _=>i<n,λi H x H'=>H'=H/\x=.int (lo+i),λi _=>n<=i⟩
theorem Zx{P:Program}{w:World}{K:Frag}(a it:Addr):Turn P w K tg (sj K a) [it] it (λi h=>h.IsListIter it a i) where
 mem:=by simp
 obj:=λi h st b hb=>by
  have e:b=it:=by simpa using hb
  subst e;obtain⟨o,e,c,d⟩:=st;exact⟨o,e,λv z=>by rw[d]at z;cases z⟩
 keep:=λi h h' st k=>st.at λo e=>k it (by simp) o e
 item:=by
  intro X hP hw hK hc i aU s σ H E I hf st hg;subst hP hw hK;obtain⟨xs,x,hq,hx⟩:=hg;obtain⟨its,rv,p,hz⟩:=I.list hq;obtain⟨u,hu,ru⟩:=rv.get hx;obtain⟨f0,f1,f2,f3,f4,f5⟩:=hf it (by simp);refine wpAny_pyNext_list_item st p.isList (x:=u) (by simpa using hu) λh' mz sb=>?_;have I1:Inv X aU σ H { s with heap:=h' }:=I.turned (t':=s.toks) (λb o hb e=>(sb.2 b hb).trans e) f0 f1 f3 f4 f5;obtain⟨o,e,c,d⟩:=id mz;exact⟨u,rf,Am (s:={ s with heap:=h' }) e c d (by decide) ⟨x,H,I1,ru,⟨rf,λys hy=>by rw[I.OQ hy hq];exact hx⟩,mz,λb hb=>(hf b hb).1⟩⟩
 done:=by
  intro X hP hw hK hc i aU s σ H E I hf st hg;subst hP hw hK;obtain⟨xs,hq,hx⟩:=hg;obtain⟨its,rv,p,hz⟩:=I.list hq;obtain⟨f0,f1,f2,f3,f4,f5⟩:=hf it (by simp);have hl:=rv.length;exact wpAny_pyNext_list_end (I.ok.hd hc) st p.isList (by simp;lia) λh' eb=>⟨rfl,I.turned (t':=s.toks) (λb o hb e=>eb b o hb e) f0 f1 f3 f4 f5⟩
 self:=λ_ _ _ _ _ st h=>wpAny_pyIter_listiter st h
theorem Zy{P:Program}{w:World}{K:Frag}(a it:Addr):Turn P w K tg (x5 K a) [it] it (λi h=>h.IsTupleIter it a i) where
 mem:=by simp
 obj:=λi h st b hb=>by
  have e:b=it:=by simpa using hb
  subst e;obtain⟨o,e,c,d⟩:=st;exact⟨o,e,λv z=>by rw[d]at z;cases z⟩
 keep:=λi h h' st k=>st.at λo e=>k it (by simp) o e
 item:=by
  intro X hP hw hK hc i aU s σ H E I hf st hg;subst hP hw hK;obtain⟨xs,x,hq,hx⟩:=hg;obtain⟨its,rv,p,hz⟩:=I.tuple hq;obtain⟨u,hu,ru⟩:=rv.get hx;obtain⟨f0,f1,f2,f3,f4,f5⟩:=hf it (by simp);refine wpAny_pyNext_tuple_item st (show s.heap.IsTuple a its.toArray from p) (x:=u) (by simpa using hu) λh' mz sb=>?_
  have I1:Inv X aU σ H { s with heap:=h' }:=I.turned (t':=s.toks) (λb o hb e=>(sb.2 b hb).trans e) f0 f1 f3 f4 f5;obtain⟨o,e,c,d⟩:=id mz;exact⟨u,rf,Am (s:={ s with heap:=h' }) e c d (by decide) ⟨x,H,I1,ru,⟨rf,λys hy=>by rw[I.OR hy hq];exact hx⟩,mz,λb hb=>(hf b hb).1⟩⟩
 done:=by
  intro X hP hw hK hc i aU s σ H E I hf st hg;subst hP hw hK;obtain⟨xs,hq,hx⟩:=hg;obtain⟨its,rv,p,hz⟩:=I.tuple hq;obtain⟨f0,f1,f2,f3,f4,f5⟩:=hf it (by simp);have hl:=rv.length;exact wpAny_pyNext_tuple_end (I.ok.hd hc) st (show s.heap.IsTuple a its.toArray from p) (by simp;lia) λh' eb=>⟨rfl,I.turned (t':=s.toks) (λb o hb e=>eb b o hb e) f0 f1 f3 f4 f5⟩
 self:=λ_ _ _ _ _ st h=>wpAny_pyIter_tupleiter st h
theorem Zz{P:Program}{w:World}{K:Frag}(it:Addr)(lo:Int)(n:Nat):Turn P w K tg (uF lo n) [it] it (λi h=>IsRangeIter h it (lo+(i:Nat)*1) ((n:Int)-(i:Nat)) 1) where
 mem:=by simp
 obj:=λi h st b hb=>by
  have e:b=it:=by simpa using hb
  subst e;exact⟨_,st,λv z=>by
   have z':Data.fields _=Data.cell v:=z;cases z'⟩
 keep:=λi h h' st k=>k it (by simp) _ st
 item:=by
  intro X hP hw hK hc i aU s σ H E I hf st hg;subst hP hw hK;obtain⟨f0,f1,f2,f3,f4,f5⟩:=hf it (by simp);have W:=Walks.range (prog:=X.prog) (w:=X.w) (I.ok.hd hc) it lo 1 n;refine W.item i s _ _ hg st λv h' tk hv mz kk=>?_;obtain⟨t,rfl⟩:=hv;have I1:Inv X aU σ H { s with heap:=h',toks:=tk }:=I.turned (λb o hb e=>kk b o (by simpa using hb) e) f0 f1 f3 f4 f5;refine⟨_,rf,Am (s:={ s with heap:=h',toks:=tk }) (n := "range_iterator") mz rf rf (by decide) ⟨.int (lo+i),H,I1,⟨t,?_⟩,⟨rf,rf⟩,mz,λb hb=>(hf b hb).1⟩⟩;rw[Int.mul_one]
 done:=by
  intro X hP hw hK hc i aU s σ H E I hf st hg;subst hP hw hK;obtain⟨f0,f1,f2,f3,f4,f5⟩:=hf it (by simp);exact wpAny_pyNext_range_end (I.ok.hd hc) st (by have:n<=i:=hg;lia) λh' eb=>⟨rfl,I.turned (t':=s.toks) (λb o hb e=>eb b o hb e) f0 f1 f3 f4 f5⟩
 self:=λ_ _ _ _ _ st h=>wpAny_pyIter_rangeiter st h
section
variable{X:Cx}{tg:Expr}
def An(K:Frag)(tl:TE):TI:=λσ H R=>tl σ H λx H1=>∃a,x=.ref a/\(∃xs,dQ K H1 a xs)/\R (sj K a) H1
def OU(K:Frag)(tl:TE):TI:=λσ H R=>tl σ H λx H1=>∃a,x=.ref a/\(∃xs,bq K H1 a xs)/\R (x5 K a) H1
theorem ZA{l:Expr}{tl:TE}(hl:PE X l tl):PI X tg l (An X.K tl):=by
 intro aU s σ H R I h;refine bj (hl aU s σ H _ I h) λv s1 ⟨x,H1,I1,r1,q1⟩=>?_;obtain⟨a,e,⟨xs,hq⟩,q⟩:=q1;subst e;cases r1;obtain⟨its,rv,p,hz⟩:=I1.list hq;refine wpAny_pyIter_list p.isList ?_;refine⟨s1.heap.objs.size,[s1.heap.objs.size],_,_,H1,rf,I1.kept (t':=s1.toks) λb o e=>dt _ e,Zx a _,⟨_,fi _ rf,rf,rf⟩,λb hb=>?_,q⟩;have e:b=s1.heap.objs.size:=by simpa using hb
 subst e;exact I1.jZ (cn _) (I1.cq.fresh (cn _))
theorem ZC{l:Expr}{tl:TE}(hl:PE X l tl):PI X tg l (OU X.K tl):=by
 intro aU s σ H R I h;refine bj (hl aU s σ H _ I h) λv s1 ⟨x,H1,I1,r1,q1⟩=>?_;obtain⟨a,e,⟨xs,hq⟩,q⟩:=q1;subst e;cases r1;obtain⟨its,rv,p,hz⟩:=I1.tuple hq;refine wpAny_pyIter_tuple (show s1.heap.IsTuple a its.toArray from p) ?_
 refine⟨s1.heap.objs.size,[s1.heap.objs.size],_,_,H1,rf,I1.kept (t':=s1.toks) λb o e=>dt _ e,Zy a _,⟨_,fi _ rf,rf,rf⟩,λb hb=>?_,q⟩;have e:b=s1.heap.objs.size:=by simpa using hb
 subst e;exact I1.jZ (cn _) (I1.cq.fresh (cn _))
theorem ZD{R:It->Hp->Prop}{lo hi:Int}{t u v:Tok}{tk:Nat}(I:Inv X aU σ H s)(h1:-(2^62)<=lo)(h2:lo<2^62)(h3:-(2^62)<=hi)(h4:hi<2^62)
  (q:R (uF lo (hi-lo).toNat) H):wpAny (model X.prog X.w) X.A (pyIter (.ref s.heap.objs.size)) (HI X aU σ tg R) E { s with heap:=s.heap.push { cls:=.type "range",data:=.fields #[.int lo t,.int hi u,.int 1 v] },toks:=tk }:=by
 refine wpAny_pyIter_range (IsRange.new ..) (small_one h1 h2 h3 h4) ?_;have I1:Inv X aU σ H { s with heap:=s.heap.push { cls:=.type "range",data:=.fields #[.int lo t,.int hi u,.int 1 v] },toks:=tk }:=I.kept λb o e=>dt _ e;refine⟨(s.heap.push { cls:=.type "range",data:=.fields #[.int lo t,.int hi u,.int 1 v] }).objs.size,[(s.heap.push { cls:=.type "range",data:=.fields #[.int lo t,.int hi u,.int 1 v] }).objs.size],_,_,H,rf,
  I1.kept (t':=tk) λb o e=>dt _ e,Zz _ lo (hi-lo).toNat,?_,λb hb=>?_,q⟩
 ·have e1:lo+((0:Nat):Int)*1=lo:=by simp
  have e2:(((hi-lo).toNat:Nat):Int)-((0:Nat):Int)=Builtin.Range.rangeSize lo hi 1:=by rw[rangeSize_one];split<;>lia
  show IsRangeIter _ _ (lo+((0:Nat):Int)*1) ((((hi-lo).toNat:Nat):Int)-((0:Nat):Int)) 1;rw[e1,e2];exact fi _ rf
 ·have e:b=(s.heap.push { cls:=.type "range",data:=.fields #[.int lo t,.int hi u,.int 1 v] }).objs.size:=by simpa using hb
  subst e;exact I1.jZ (cn _) (I1.cq.fresh (cn _))
def OV(ta:TA):TI:=λσ H R=>ta σ H λvs H1=>∃j:Int,vs=[.int j]/\-(2^62)<=j/\j<2^62/\R (uF 0 j.toNat) H1
theorem wk{a:Expr}{ta:TA}{p pos:Pos}(hg:Gl X "range")(hm:X.mg "range"=none)(ha:PA X [a] ta)(hs:starEach [a] X.env=[(false,eval a X.env)]:=by rfl):PI X tg (.Call (.Name "range" p) [a] [] pos) (OV ta):=by
 intro aU s σ H R I h;refine Call_ (sg I hg hm boot_range (zT (bj (ha pos aU s σ H _ I h) λus s1 ⟨vs,H1,I1,r1,q1⟩=>?_) hs rf));obtain⟨j,e,q1,q2,q⟩:=q1;subst e;cases r1 with
 |cons r rr=>
  cases rr;obtain⟨t,rfl⟩:=r;exact call_range_1 (ZD I1 (by lia) (by lia) q1 q2 (by simpa using q))
def wm(wi:TI)(g:TG)(tb:TS):TS:=λD σ H=>wi σ H λJ H1=>∃W:Nat->Nat->St->Hp->Prop,(∃m,W 0 m σ H1)/\∀i m σ H,W i m σ H->
 (J.stop i H/\D.nx σ H)\/(J.go i H/\∃N:St->Hp->Prop,(∀σ' H',N σ' H'->∃m',m'<m/\W (i+1) m' σ' H')/\∀x H',J.pN i H x H'->g x σ H' λσ2 H2=>tb { D with nx:=N,ct:=N,bk:=D.nx } σ2 H2)
noncomputable def Ao(fp:List Addr)(h:Heap):List (Addr×Obj):=fp.filterMap λb=>(h.get? b).map λo=>(b,o)
theorem Dl{o:Obj}(hb:b∈fp)(e:h.get? b=some o):(b,o)∈Ao fp h:=List.mem_filterMap.mpr ⟨b,hb,by rw[e];rfl⟩
theorem ZE{p:Addr×Obj}(hp:p∈Ao fp h):p.1∈fp/\h.get? p.1=some p.2:=by
 obtain⟨b,hb,e⟩:=List.mem_filterMap.mp hp;cases q:h.get? b with
 |none=>rw[q]at e;cases e
 |some o=>
  rw[q]at e;have e':(b,o)=p:=dq e;subst e';exact⟨hb,q⟩
theorem Inv.pinned(I:Inv X aU σ H s)(hf:∀b∈fp,iV X aU H b)(ho:∀b∈fp,∃o,s.heap.get? b=some o/\∀v,o.data≠.cell v):Inv X (aU++Ao fp s.heap) σ H s:=
 I.Dg λp hp=>(cN.mp hp).elim (λz=>I.pin p (dZ _ z)) λz=>by
  obtain⟨hb,e⟩:=ZE z;obtain⟨f0,f1,f2,_⟩:=hf p.1 hb;obtain⟨o,e',d⟩:=ho p.1 hb;rw[e]at e';cases e';exact⟨e,f0,f1,f2,d⟩
theorem Inv.HJ{pl:List (Addr×Obj)}(I:Inv X (aU++pl) σ H s):Inv X aU σ H s:=I.Dg λp hp=>I.pin p (dZ _ (eV _ hp))
theorem jd{iter:Expr}{body:List Stmt}{wi:TI}{pos:Pos}(hp:PassesOwn (model X.prog X.w) X.A X.env X.xe)(hc:X.calm=true)(hi:PI X tg iter wi)(hg:PG X tg g)(hb:lP X body tb)
  (hs:∀x,foldedSetIterable iter X.env x=pure x:=by intro _;rfl):PS X (.For tg iter body [] pos) (wm wi g tb):=by
 intro aU s σ H D I h;refine wpAny_For (bj (hi aU s σ H _ I h) λv s1 h1=>bj h1 λDk s2 h2=>?_) hs;obtain⟨it,fp,tn,J,H2,e,I2,T,mK,f2,W,⟨m0,w0⟩,sk⟩:=h2;subst e;have HK:∀{H':Hp},(∀b∈fp,H' b=none)->∀b∈fp,iV X aU H' b:=λhn b hb=>⟨hn b hb,(f2 b hb).2⟩;refine codeAny_forLoop_any (λn s'=>∃i σ' H',Inv X aU σ' H' s'/\tn i s'.heap/\(∀b∈fp,H' b=none)/\W i n σ' H') ?_ m0 ⟨0,σ,H2,I2,mK,λb hb=>(f2 b hb).1,w0⟩;rintro n s3 ⟨i,σ3,H3,I3,OW,OX,w3⟩;rcases sk i n σ3 H3 w3 with⟨stop,qn⟩|⟨go,N,hN,step⟩
 ·refine au hp (bj (T.done X rf rf rf hc i aU s3 σ3 H3 X.xe I3 (HK OX) OW stop) λr s4 ⟨hr,I4⟩=>?_);subst hr;exact wpAny_execs_nil ⟨σ3,H3,I4,qn⟩
 ·refine au hp (bj (T.item X rf rf rf hc i aU s3 σ3 H3 X.xe I3 (HK OX) OW go) λr s4 ⟨u,hr,h4⟩=>?_);subst hr;refine au hp (bj h4 λ_ s5 ⟨x,H5,I5,r5,y5,HL,Dm⟩=>?_);have ZF:=I5.pinned (HK Dm) (T.obj _ _ HL);refine au hp (bj (hg _ s5 σ3 H5 x u _ ZF r5 (step x H5 y5)) λ_ s6 ⟨σ6,H6,I6,q6⟩=>?_);refine au hp (bj (hb _ s6 σ6 H6 _ I6 q6) λf s7 q7=>?_);have again:∀{σ7:St}{H7:Hp},Inv X (aU++Ao fp s5.heap) σ7 H7 s7->N σ7 H7->∃m,m<n/\∃i σ' H',Inv X aU σ' H' s7/\tn i s7.heap/\(∀b∈fp,H' b=none)/\W i m σ' H':=λ{σ7 H7} I7 n7=>by
   obtain⟨m',hm,w7⟩:=hN σ7 H7 n7;refine⟨m',hm,i+1,σ7,H7,I7.HJ,T.keep _ _ _ HL λb hb o e=>(I7.pin (b,o) (dZ _ (dZ _ (Dl hb e)))).1,λb hb=>?_,w7⟩;obtain⟨o,e,d⟩:=T.obj _ _ HL b hb;exact(I7.pin (b,o) (dZ _ (dZ _ (Dl hb e)))).2.1
  cases f with
  |next=>obtain⟨σ7,H7,I7,n7⟩:=q7;exact again I7 n7
  |cont=>obtain⟨σ7,H7,I7,n7⟩:=q7;exact again I7 n7
  |brk=>obtain⟨σ7,H7,I7,q7⟩:=q7;exact⟨σ7,H7,I7.HJ,q7⟩
  |ret v=>obtain⟨x7,σ7,H7,I7,r7,q7⟩:=q7;exact⟨x7,σ7,H7,I7.HJ,r7,q7⟩
end
theorem so{K:Frag}(Pv:Nat->St->Hp->Prop)(h0:Pv 0 σ H)(hl:∀i σ H,i<=xs.length->Pv i σ H->dQ K H a xs)
  (hs:∀i x σ H,xs[i]?=some x->Pv i σ H->g x σ H λσ2 H2=>tb { D with nx:=Pv (i+1),ct:=Pv (i+1),bk:=D.nx } σ2 H2) (hd:∀σ H,Pv xs.length σ H->D.nx σ H) :
  ∃W:Nat->Nat->St->Hp->Prop,(∃m,W 0 m σ H)/\∀i m σ H,W i m σ H->
   ((sj K a).stop i H/\D.nx σ H)\/((sj K a).go i H/\∃N:St->Hp->Prop,(∀σ' H',N σ' H'->∃m',m'<m/\W (i+1) m' σ' H')/\∀x H',(sj K a).pN i H x H'->g x σ H' λσ2 H2=>tb { D with nx:=N,ct:=N,bk:=D.nx } σ2 H2):=by
 refine⟨λi m σ H=>m=xs.length-i/\i<=xs.length/\Pv i σ H,⟨xs.length,by simp,jv _,h0⟩,?_⟩;rintro i m σ H ⟨rfl,hi,p⟩;have q:=hl i σ H hi p;by_cases cE:i<xs.length
 ·refine .inr ⟨⟨xs,xs[i],q,by simp[cE]⟩,Pv (i+1),λσ' H' p'=>⟨xs.length-(i+1),by lia,rf,cE,p'⟩,λx H' y=>?_⟩;obtain⟨e,y⟩:=y;subst e;exact hs i x σ _ (y xs q) p
 ·have e:i=xs.length:=by lia
  subst e;exact .inl ⟨⟨xs,q,cn _⟩,hd σ H p⟩
theorem HM{K:Frag}(Pv:Nat->St->Hp->Prop)(h0:Pv 0 σ H)(hl:∀i σ H,i<=xs.length->Pv i σ H->bq K H a xs)
  (hs:∀i x σ H,xs[i]?=some x->Pv i σ H->g x σ H λσ2 H2=>tb { D with nx:=Pv (i+1),ct:=Pv (i+1),bk:=D.nx } σ2 H2) (hd:∀σ H,Pv xs.length σ H->D.nx σ H) :
  ∃W:Nat->Nat->St->Hp->Prop,(∃m,W 0 m σ H)/\∀i m σ H,W i m σ H->
   ((x5 K a).stop i H/\D.nx σ H)\/((x5 K a).go i H/\∃N:St->Hp->Prop,(∀σ' H',N σ' H'->∃m',m'<m/\W (i+1) m' σ' H')/\∀x H',(x5 K a).pN i H x H'->g x σ H' λσ2 H2=>tb { D with nx:=N,ct:=N,bk:=D.nx } σ2 H2):=by
 refine⟨λi m σ H=>m=xs.length-i/\i<=xs.length/\Pv i σ H,⟨xs.length,by simp,jv _,h0⟩,?_⟩;rintro i m σ H ⟨rfl,hi,p⟩;have q:=hl i σ H hi p;by_cases cE:i<xs.length
 ·refine .inr ⟨⟨xs,xs[i],q,by simp[cE]⟩,Pv (i+1),λσ' H' p'=>⟨xs.length-(i+1),by lia,rf,cE,p'⟩,λx H' y=>?_⟩;obtain⟨e,y⟩:=y;subst e;exact hs i x σ _ (y xs q) p
 ·have e:i=xs.length:=by lia
  subst e;exact .inl ⟨⟨xs,q,cn _⟩,hd σ H p⟩
theorem Dn{lo:Int}(Pv:Nat->St->Hp->Prop)(h0:Pv 0 σ H)
  (hs:∀i σ H,i<n->Pv i σ H->g (.int (lo+i)) σ H λσ2 H2=>tb { D with nx:=Pv (i+1),ct:=Pv (i+1),bk:=D.nx } σ2 H2) (hd:∀σ H,Pv n σ H->D.nx σ H) :
  ∃W:Nat->Nat->St->Hp->Prop,(∃m,W 0 m σ H)/\∀i m σ H,W i m σ H->
   ((uF lo n).stop i H/\D.nx σ H)\/((uF lo n).go i H/\∃N:St->Hp->Prop,(∀σ' H',N σ' H'->∃m',m'<m/\W (i+1) m' σ' H')/\∀x H',(uF lo n).pN i H x H'->g x σ H' λσ2 H2=>tb { D with nx:=N,ct:=N,bk:=D.nx } σ2 H2):=by
 refine⟨λi m σ H=>m=n-i/\i<=n/\Pv i σ H,⟨n,by simp,jv _,h0⟩,?_⟩;rintro i m σ H ⟨rfl,hi,p⟩;by_cases cE:i<n
 ·refine .inr ⟨cE,Pv (i+1),λσ' H' p'=>⟨n-(i+1),by lia,rf,cE,p'⟩,λx H' y=>?_⟩;obtain⟨e,y⟩:=y;subst e y;exact hs i σ _ cE p
 ·have e:i=n:=by lia
  subst e;exact .inl ⟨cn _,hd σ H p⟩
abbrev R2:=V->V->Hp->VK->Prop
def gQ(X:Cx)(f:Value->Value->Sem Value)(r:R2):Prop:=
 ∀(aU:List (Addr×Obj))(s:Shared)(σ:St)(H:Hp)(x y:V)(v u:Value)(Q:VK),Inv X aU σ H s->RelV x v->RelV y u->r x y H Q->
  wpAny (model X.prog X.w) X.A (f v u) (EP X aU σ Q) X.xe s
def HN(X:Cx)(f:Value->Sem Value)(r:V->Hp->VK->Prop):Prop:=
 ∀(aU:List (Addr×Obj))(s:Shared)(σ:St)(H:Hp)(x:V)(v:Value)(Q:VK),Inv X aU σ H s->RelV x v->r x H Q->
  wpAny (model X.prog X.w) X.A (f v) (EP X aU σ Q) X.xe s
def ib(X:Cx)(f:Value)(r:List V->Hp->VK->Prop):Prop:=
 ∀(aU:List (Addr×Obj))(s:Shared)(σ:St)(H:Hp)(xs:List V)(us:List Value)(Q:VK),Inv X aU σ H s->Vals xs us->r xs H Q->
  wpAny (model X.prog X.w) X.A (call f us) (EP X aU σ Q) X.xe s
def ZG(X:Cx)(r:V->Hp->(Bool->Hp->Prop)->Prop):Prop:=
 ∀(aU:List (Addr×Obj))(s:Shared)(σ:St)(H:Hp)(x:V)(v:Value)(Q:Bool->Hp->Prop),Inv X aU σ H s->RelV x v->r x H Q->
  wpAny (model X.prog X.w) X.A (truthy v) (TP X aU σ Q) X.xe s
def cO(r:R2)(ta tb:TE):TE:=λσ H Q=>ta σ H λx H1=>tb σ H1 λy H2=>r x y H2 Q
def Dp(r:V->Hp->VK->Prop)(ta:TE):TE:=λσ H Q=>ta σ H λx H1=>r x H1 Q
def rI(C:Int->Int->Prop)(g:Int->Int->V):R2:=λx y H Q=>∃i j,x=.int i/\y=.int j/\C i j/\Q (g i j) H
def jx(g:Int->Int->V):R2:=λx y H Q=>∃i j,x=.int i/\y=.int j/\Q (g i j) H
def rU(g:Int->V):V->Hp->VK->Prop:=λx H Q=>∃i,x=.int i/\Q (g i) H
section
variable{X:Cx}{a b c:Expr}{ta tb tc:TE}{pos:Pos}
theorem HP(ha:PE X a ta)(hb:PE X b tb){R:V->V->Hp->Prop}(I:Inv X aU σ H s)
  (h:ta σ H λx H1=>tb σ H1 λy H2=>R x y H2) {Q:QV} {f:Value->Value->Sem Value}
  (hf:∀v u s2 x y H2,Inv X aU σ H2 s2->RelV x v->RelV y u->R x y H2->wpAny (model X.prog X.w) X.A (f v u) Q X.xe s2) :
  wpAny (model X.prog X.w) X.A (eval a X.env) (λv s₁=>wpAny (model X.prog X.w) X.A (eval b X.env) (λu s₂=>wpAny (model X.prog X.w) X.A (f v u) Q X.xe s₂) X.xe s₁) X.xe s:=by
 refine bj (ha aU s σ H _ I h) λv s1 ⟨x,H1,I1,r1,q1⟩=>?_;refine bj (hb aU s1 σ H1 _ I1 q1) λu s2 ⟨y,H2,I2,r2,q2⟩=>?_;exact hf v u s2 x y H2 I2 r1 r2 q2
theorem bQ{op:Operator}(ho:gQ X (binaryOp op) r)(ha:PE X a ta)(hb:PE X b tb):PE X (.BinOp a op b pos) (cO r ta tb):=by
 intro aU s σ H Q I h;exact wpAny_BinOp (HP ha hb I h λv u s2 x y H2 I2 rx ry q=>ho aU s2 σ H2 x y v u Q I2 rx ry q)
theorem nN{op:UnaryOp}{r:V->Hp->VK->Prop}(ho:HN X (unaryOp op) r)(ha:PE X a ta):PE X (.UnaryOp op a pos) (Dp r ta):=by
 intro aU s σ H Q I h;exact UnaryOp_ (bj (ha aU s σ H _ I h) λv s1 ⟨x,H1,I1,r1,q1⟩=>ho aU s1 σ H1 x v Q I1 r1 q1)
theorem HQ{C:Int->Int->Prop}{g:Int->Int->Int}
  (rule:∀(i j:Int)(t u:Tok)(s:Shared)(Q:QV)(E:QV),C i j->Q (.int (g i j) s.toks) { s with toks:=s.toks+1 }->wpAny (model X.prog X.w) X.A (f (.int i t) (.int j u)) Q E s) :
  gQ X f (rI C λi j=>.int (g i j)):=by
 intro aU s σ H x y v u Q I rx ry h;obtain⟨i,j,rfl,rfl,hc,q⟩:=h;obtain⟨t,rfl⟩:=rx;obtain⟨t',rfl⟩:=ry;exact rule i j t t' s _ _ hc ⟨.int (g i j),H,I.tok _,⟨_,rf⟩,q⟩
theorem OY{g:Int->Int->Int}
  (rule:∀(i j:Int)(t u:Tok)(s:Shared)(Q:QV)(E:QV),Q (.int (g i j) s.toks) { s with toks:=s.toks+1 }->wpAny (model X.prog X.w) X.A (f (.int i t) (.int j u)) Q E s) :
  gQ X f (jx λi j=>.int (g i j)):=by
 intro aU s σ H x y v u Q I rx ry h;obtain⟨i,j,rfl,rfl,q⟩:=h;obtain⟨t,rfl⟩:=rx;obtain⟨t',rfl⟩:=ry;exact rule i j t t' s _ _ ⟨.int (g i j),H,I.tok _,⟨_,rf⟩,q⟩
theorem Dq{g:Int->Int->Bool}
  (rule:∀(i j:Int)(t u:Tok)(s:Shared)(Q:QV)(E:QV),Q (.bool (g i j)) s->wpAny (model X.prog X.w) X.A (f (.int i t) (.int j u)) Q E s) :
  gQ X f (jx λi j=>.bl (g i j)):=by
 intro aU s σ H x y v u Q I rx ry h;obtain⟨i,j,rfl,rfl,q⟩:=h;obtain⟨t,rfl⟩:=rx;obtain⟨t',rfl⟩:=ry;exact rule i j t t' s _ _ ⟨.bl (g i j),H,I,rf,q⟩
def ZH(i j:Int):Prop:=0<j/\j<1073741824
def Ap(i j:Int):Prop:=(-(2^64)<i/\i<2^64)\/(-(2^64)<j/\j<2^64)
theorem Ap.ok{i j:Int}(h:Ap i j):IntMulOk i j:=by
 rcases h with⟨h1,h2⟩|⟨h1,h2⟩
 ·exact .of_left (intBits_le_64 h1 h2)
 ·exact .of_right (intBits_le_64 h1 h2)
theorem eM:gQ X (binaryOp .Add) (jx λi j=>.int (i+j)):=OY λ_ _ _ _ _ _ _ q=>add_int q
theorem sr:gQ X (binaryOp .Sub) (jx λi j=>.int (i-j)):=OY λ_ _ _ _ _ _ _ q=>sub_int q
theorem lQ:gQ X (binaryOp .Mult) (rI Ap λi j=>.int (i*j)):=HQ λ_ _ _ _ _ _ _ hc q=>mul_int q hc.ok
theorem OZ:gQ X (binaryOp .FloorDiv) (rI ZH λi j=>.int (i/j)):=HQ λi j _ _ _ _ _ hc q=>by
 have h1:(0:Int)<j:=hc.1;have h2:j<1073741824:=hc.2;exact floordiv_int (by lia) (by rw[Int.fdiv_eq_ediv_of_nonneg i (by lia)];exact q) (.inl (PyProof.noPylong_small (by lia)))
theorem j5:gQ X (binaryOp .Mod) (rI (λ_ j=>0<j) λi j=>.int (i%j)):=HQ λi j _ _ _ _ _ hc q=>by
 have h1:(0:Int)<j:=hc;exact mod_int' (by lia) (by rw[Int.fmod_eq_emod_of_nonneg i (by lia)];exact q)
theorem ZI{f:Value->Sem Value}{g:Int->Int}
  (rule:∀(i:Int)(t:Tok)(s:Shared)(Q:QV)(E:QV),Q (.int (g i) s.toks) { s with toks:=s.toks+1 }->wpAny (model X.prog X.w) X.A (f (.int i t)) Q E s) :
  HN X f (rU λi=>.int (g i)):=by
 intro aU s σ H x v Q I rx h;obtain⟨i,rfl,q⟩:=h;obtain⟨t,rfl⟩:=rx;exact rule i t s _ _ ⟨.int (g i),H,I.tok _,⟨_,rf⟩,q⟩
theorem nO:HN X (unaryOp .USub) (rU λi=>.int (-i)):=ZI λ_ _ _ _ _ q=>neg_int q
end
noncomputable def Dr:V->V->Bool
 | .df,.df=>true | .df,.int _=>true | .int _,.df=>true | .df,.bl _=>true | .bl _,.df=>true | .df,.str _=>true | .str _,.df=>true
 | .int _,.int _=>true | .bl _,.bl _=>true | .str _,.str _=>true | .nL _,.nL _=>true
 | .int _,.str _=>true | .str _,.int _=>true | .bl _,.str _=>true | .str _,.bl _=>true
 |_,_=>false
def j6:R2:=λx y H Q=>Dr x y=true/\Q (.bl (decide (x=y))) H
def HR:R2:=λx y H Q=>Dr x y=true/\Q (.bl (!decide (x=y))) H
theorem Aq{i j:Int}:decide (V.int i=V.int j)=(i==j):=by
 rw[Bool.eq_iff_iff];simp
theorem O0{i j:Bool}:decide (V.bl i=V.bl j)=(i==j):=by
 rw[Bool.eq_iff_iff];simp
theorem O1{i j:Str}:decide (V.str i=V.str j)=(i==j):=by
 rw[Bool.eq_iff_iff];simp
theorem O2{i j:Array UInt8}:decide (V.nL i=V.nL j)=(i.toList==j.toList):=by
 rw[Bool.eq_iff_iff];cases i;cases j;simp
section
variable{X:Cx}{a b c:Expr}{ta tb tc:TE}{pos:Pos}
theorem gq{Q:VK}{k k':Bool}(I:Inv X aU σ H s)(q:Q (.bl k) H)(e:k=k'):EP X aU σ Q (.bool k') s:=by
 subst e;exact⟨.bl k,H,I,rf,q⟩
theorem eB:gQ X (compareOp .Eq) j6:=by
 intro aU s σ H x y v u Q I rx ry h;obtain⟨hs,q⟩:=h;cases x with
 |df=>
  cases rx;cases y with
  |df=>cases ry;exact PySem.EqNone.eq_none_none (gq I q (by simp))
  |bl j=>cases ry;exact PySem.EqNone.eq_none_bool (gq I q (by simp))
  |int j=>obtain⟨t',rfl⟩:=ry;exact PySem.EqNone.eq_none_int (gq I q (by simp))
  |str j=>obtain⟨t',rfl⟩:=ry;exact PySem.EqNone.eq_none_str (gq I q (by simp))
  |_=>exact absurd (show false=true from hs) iJ
 |bl i=>
  cases rx;cases y with
  |df=>cases ry;exact PySem.EqNone.eq_bool_none (gq I q (by simp))
  |bl j=>cases ry;exact eq_bool (gq I q O0)
  |str j=>obtain⟨t',rfl⟩:=ry;exact PySem.EqMixed.eq_bool_str (gq I q (by simp))
  |_=>exact absurd (show false=true from hs) iJ
 |int i=>
  obtain⟨t,rfl⟩:=rx;cases y with
  |df=>cases ry;exact PySem.EqNone.eq_int_none (gq I q (by simp))
  |int j=>obtain⟨t',rfl⟩:=ry;exact eq_int (gq I q Aq)
  |str j=>obtain⟨t',rfl⟩:=ry;exact PySem.EqMixed.eq_int_str (gq I q (by simp))
  |_=>exact absurd (show false=true from hs) iJ
 |str i=>
  obtain⟨t,rfl⟩:=rx;cases y with
  |df=>cases ry;exact PySem.EqNone.eq_str_none (gq I q (by simp))
  |bl j=>cases ry;exact PySem.EqMixed.eq_str_bool (gq I q (by simp))
  |int j=>obtain⟨t',rfl⟩:=ry;exact PySem.EqMixed.eq_str_int (gq I q (by simp))
  |str j=>obtain⟨t',rfl⟩:=ry;exact eq_str (gq I q O1)
  |_=>exact absurd (show false=true from hs) iJ
 |nL i=>
  obtain⟨t,rfl⟩:=rx;cases y with
  |nL j=>obtain⟨t',rfl⟩:=ry;exact PySem.W.eq_bytes (gq I q O2)
  |_=>exact absurd (show false=true from hs) iJ
 |_=>cases y<;>exact absurd (show false=true from hs) iJ
theorem nP:gQ X (compareOp .NotEq) HR:=by
 intro aU s σ H x y v u Q I rx ry h;obtain⟨hs,q⟩:=h;cases x with
 |df=>
  cases rx;cases y with
  |df=>cases ry;exact PySem.EqNone.ne_none_none (gq I q (by simp))
  |bl j=>cases ry;exact PySem.EqNone.ne_none_bool (gq I q (by simp))
  |int j=>obtain⟨t',rfl⟩:=ry;exact PySem.EqNone.ne_none_int (gq I q (by simp))
  |str j=>obtain⟨t',rfl⟩:=ry;exact PySem.EqNone.ne_none_str (gq I q (by simp))
  |_=>exact absurd (show false=true from hs) iJ
 |bl i=>
  cases rx;cases y with
  |df=>cases ry;exact PySem.EqNone.ne_bool_none (gq I q (by simp))
  |bl j=>cases ry;exact ne_bool (gq I q (aj not O0))
  |str j=>obtain⟨t',rfl⟩:=ry;exact PySem.EqMixed.ne_bool_str (gq I q (by simp))
  |_=>exact absurd (show false=true from hs) iJ
 |int i=>
  obtain⟨t,rfl⟩:=rx;cases y with
  |df=>cases ry;exact PySem.EqNone.ne_int_none (gq I q (by simp))
  |int j=>obtain⟨t',rfl⟩:=ry;exact ne_int (gq I q (aj not Aq))
  |str j=>obtain⟨t',rfl⟩:=ry;exact PySem.EqMixed.ne_int_str (gq I q (by simp))
  |_=>exact absurd (show false=true from hs) iJ
 |str i=>
  obtain⟨t,rfl⟩:=rx;cases y with
  |df=>cases ry;exact PySem.EqNone.ne_str_none (gq I q (by simp))
  |bl j=>cases ry;exact PySem.EqMixed.ne_str_bool (gq I q (by simp))
  |int j=>obtain⟨t',rfl⟩:=ry;exact PySem.EqMixed.ne_str_int (gq I q (by simp))
  |str j=>obtain⟨t',rfl⟩:=ry;exact ne_str (gq I q (aj not O1))
  |_=>exact absurd (show false=true from hs) iJ
 |nL i=>
  obtain⟨t,rfl⟩:=rx;cases y with
  |nL j=>obtain⟨t',rfl⟩:=ry;exact PySem.W.ne_bytes (gq I q (aj not O2))
  |_=>exact absurd (show false=true from hs) iJ
 |_=>cases y<;>exact absurd (show false=true from hs) iJ
theorem Ds:gQ X (compareOp .Lt) (jx λi j=>.bl (decide (i<j))):=Dq λ_ _ _ _ _ _ _ q=>lt_int q
theorem Ar:gQ X (compareOp .LtE) (jx λi j=>.bl (decide (i<=j))):=Dq λ_ _ _ _ _ _ _ q=>le_int q
theorem wo:gQ X (compareOp .Gt) (jx λi j=>.bl (decide (j<i))):=Dq λ_ _ _ _ _ _ _ q=>gt_int q
theorem ZJ:gQ X (compareOp .GtE) (jx λi j=>.bl (decide (j<=i))):=Dq λ_ _ _ _ _ _ _ q=>ge_int q
theorem ZK:gQ X (compareOp .IsNot) (λx y H Q=>y=.df/\Q (.bl (!decide (x=.df))) H):=by
 intro aU s σ H x y v u Q I rx ry h;obtain⟨rfl,q⟩:=h;cases ry;refine isnot_none_gen (gq I q ?_);cases x<;>first
  |(cases rx;rfl)
  |(obtain⟨t,rfl⟩:=rx;rfl)
theorem cM(b:Expr)(h:op≠.In:=by decide)(h2:op≠.NotIn:=by decide):behindInMarks op b=false:=by
 have e1:(op==CmpOp.In)=false:=by cases op<;>first|rfl|exact absurd rfl h
 have e2:(op==CmpOp.NotIn)=false:=by cases op<;>first|rfl|exact absurd rfl h2
 cases b<;>simp[behindInMarks,e1,e2]
theorem qN(ho:gQ X (compareOp op) r)(ha:PE X a ta)(hb:PE X b tb)(hm:behindInMarks op b=false):PE X (.Compare a [op] [b] pos) (cO r ta tb):=by
 intro aU s σ H Q I h;exact wpAny_Compare1 (HP ha hb I h λv u s2 x y H2 I2 rx ry q=>ho aU s2 σ H2 x y v u Q I2 rx ry q) hm
def gH(t:TE):TT:=λσ H Q=>t σ H λx H'=>∃k,x=.bl k/\Q k H'
theorem cS(ho:gQ X (compareOp op) r)(ha:PE X a ta)(hb:PE X b tb)(hm:behindInMarks op b=false):PT X (.Compare a [op] [b] pos) (gH (cO r ta tb)):=by
 intro aU s σ H Q I h;refine wpAny_isTrue_Compare1 (bj (ha aU s σ H _ I h) λv s1 ⟨x,H1,I1,r1,q1⟩=>bj (hb aU s1 σ H1 _ I1 q1) λu s2 ⟨y,H2,I2,r2,q2⟩=>
  bj (ho aU s2 σ H2 x y v u _ I2 r1 r2 q2) λc s3 ⟨z,H3,I3,r3,k,e,q3⟩=>?_) hm
 subst e;cases r3;exact ai ⟨H3,I3,q3⟩
def O3(K:Frag)(x:V)(H:Hp)(k:Bool):Prop:=
 match x with
 | .df=>k=false
 | .bl b=>k=b
 | .int i=>k=(i != 0)
 | .str y=>y.length<=sizeLine/\k=((y.length:Int) != 0)
 | .nL y=>y.size<=sizeLine/\k=((y.size:Int) != 0)
 | .ref p=>(∃xs,dQ K H p xs/\k=!xs.isEmpty)\/(∃xs,bq K H p xs/\k=!xs.isEmpty)\/∃kvs,H p=some (.dK kvs)/\k=!kvs.isEmpty
 |_=>False
theorem ZL{κ:Type}{kvs:List (κ×V)}{vs:List (κ×Value)}(r:KV kvs vs):(!vs.isEmpty)=!kvs.isEmpty:=by
 cases r<;>rfl
theorem O4{its:List Value}(r:Vals xs its):(!its.toArray.isEmpty)=!xs.isEmpty:=by
 cases r<;>simp
theorem As:(sizeLine:Nat)<2^63:=by rw[sizeLine_eq];decide
theorem ZM:ZG X (λx H Q=>∃k,O3 X.K x H k/\Q k H):=by
 intro aU s σ H x v Q I rx h;obtain⟨k,e,q⟩:=h;have hl:=As;have hs:sizeLine=16777216:=sizeLine_eq;cases x with
 |df=>
  cases rx;have e':k=false:=e;subst e';exact truthy_none ⟨H,I,q⟩
 |bl b=>
  cases rx;have e':k=b:=e;subst e';exact ai ⟨H,I,q⟩
 |int i=>
  obtain⟨t,rfl⟩:=rx;have e':k=(i != 0):=e;subst e';exact PySem.P.truthy_int ⟨H,I,q⟩
 |str y=>
  obtain⟨t,rfl⟩:=rx;obtain⟨hy,e'⟩:y.length<=sizeLine/\k=((y.length:Int) != 0):=e;subst e';exact PySem.P.truthy_str (by lia) ⟨H,I.tok _,q⟩
 |nL y=>
  obtain⟨t,rfl⟩:=rx;obtain⟨hy,e'⟩:y.size<=sizeLine/\k=((y.size:Int) != 0):=e;subst e';exact PySem.W.truthy_bytes (by lia) ⟨H,I.tok _,q⟩
 |ref p=>
  cases rx;have e':(∃xs,dQ X.K H p xs/\k=!xs.isEmpty)\/(∃xs,bq X.K H p xs/\k=!xs.isEmpty)\/∃kvs,H p=some (.dK kvs)/\k=!kvs.isEmpty:=e;rcases e' with⟨xs,hx,e'⟩|⟨xs,hx,e'⟩|⟨kvs,hx,e'⟩
  ·subst e';obtain⟨its,r,pl,hz⟩:=I.list hx;have cB:=r.length;exact wpAny_truthy_list pl.isList (by simp only[eK];lia) ⟨H,I.tok _,by rw[O4 r];exact q⟩
  ·subst e';obtain⟨its,r,pl,hz⟩:=I.tuple hx;have cB:=r.length;exact truthy_tuple pl (by simp only[eK];lia) ⟨H,I.tok _,by rw[O4 r];exact q⟩
  ·subst e';obtain⟨hz,hS,vs,r,m⟩:kvs.length<=sizeLine/\(p==sysModules)=false/\∃vs,KV kvs vs/\s.heap.DictOf (iu X.prog X.w) p vs:=I.cq p _ hx;have cB:kvs.length=vs.length:=Paired.length r;exact wpAny_truthy_dict hS m (by lia) ⟨H,I.tok _,by rw[ZL r];exact q⟩
 |_=>exact(show False from e).elim
theorem HS(ha:PE X a ta)(he:∀v9,isTrue a X.env v9=(do let v <- v9;standAt a.pos;holding [v] (truthy v))) :
  PT X a (λσ H Q=>ta σ H λx H'=>∃k,O3 X.K x H' k/\Q k H'):=by
 intro aU s σ H Q I h;exact isTrue_plain (bj (ha aU s σ H _ I h) λv s1 ⟨x,H1,I1,r1,q1⟩=>ZM aU s1 σ H1 x v Q I1 r1 q1) (he _)
theorem vals1{x:V}(r:Vals [x] us):∃u,us=[u]/\RelV x u:=by
 cases r with
 |cons r1 r2=>cases r2;exact⟨_,rf,r1⟩
theorem vals2{x y:V}(r:Vals [x,y] us):∃u w',us=[u,w']/\RelV x u/\RelV y w':=by
 cases r with
 |cons r1 r2=>
  cases r2 with
  |cons r3 r4=>cases r4;exact⟨_,_,rf,r1,r3⟩
theorem ZN(hc:X.calm=true):ib X (.builtin "max") (λxs H Q=>∃i j,xs=[.int i,.int j]/\Q (.int (if j>i then j else i)) H):=by
 intro aU s σ H xs us Q I r h;obtain⟨i,j,rfl,q⟩:=h;obtain⟨u,w',rfl,⟨t,rfl⟩,⟨t',rfl⟩⟩:=vals2 r;refine max_two_ints (I.ok.hd hc) λh' tk k=>⟨_,H,I.kept k,?_,q⟩;by_cases hj:j>i
 ·rw[af hj,af hj];exact⟨_,rf⟩
 ·rw[ag hj,ag hj];exact⟨_,rf⟩
theorem Dt:ib X (.type "int") (λxs H Q=>(∃i,xs=[.int i]/\Q (.int i) H)\/∃k,xs=[.bl k]/\Q (.int (if k then 1 else 0)) H):=by
 intro aU s σ H xs us Q I r h;rcases h with⟨i,rfl,q⟩|⟨k,rfl,q⟩
 ·obtain⟨u,rfl,t,rfl⟩:=vals1 r;exact call_int_int ⟨.int i,H,I,⟨_,rf⟩,q⟩
 ·obtain⟨u,rfl,r1⟩:=vals1 r;cases r1;exact call_int_bool ⟨.int (if k then 1 else 0),H,I.tok _,⟨_,rf⟩,q⟩
end
structure HU(h:Heap)(x dx C:Addr)(mA:Str->Option Value):Prop where
 obj:h.get? x=some (PySem.W.instObj C dx)
 ns:h.Ns1 dx mA
 ne:dx≠x
theorem ZO{dx:Addr}{mA:Str->Option Value}(n:h.Ns1 dx mA):∃od,h.get? dx=some od/\∀name,PySem.W.lookIn name od=some (mA name):=by
 obtain⟨o,es,ep,ho,hd,hk,_,hm⟩:=n;refine⟨o,ho,λname=>?_⟩;have e:=hm name;unfold nsFind findBy at e;rw[<- Array.find?_toList]at e;unfold PySem.W.lookIn;rw[hd];dsimp only;split
 ·rename_i y q
  rw[q]at e;exact aj some e
 ·rename_i q
  rw[q]at e;have a:es.toList.any (·.refKey)=false:=by
   rw[List.any_eq_false];intro y hy;obtain⟨z,t,ZP⟩:=hk y (Array.mem_toList_iff.mp hy);simp[DictEntry.refKey,ZP]
  have a':¬es.toList.any (·.refKey)=true:=by rw[a];exact iJ
  rw[ag a'];exact aj some e
theorem HU.look{x dx C:Addr}{mA:Str->Option Value}(I:HU h x dx C mA):∃od,PySem.W.InstAt h x (PySem.W.instObj C dx) C (some od)/\∀name,PySem.W.lookIn name od=some (mA name):=
 let ⟨od,ho,hl⟩:=ZO I.ns
 ⟨od,⟨I.obj,rfl,rfl,ho⟩,hl⟩
section
variable{prog:Program}{w:World}{A:Around}{E:QV}{s:Shared}{K:Frag}{x dx C f:Addr}{mA:Str->Option Value}{name:Str}{v:Value}
end
theorem nM.some_of{o:Option Value}(r:nM (some v) o):∃u,o=some u/\RelV v u:=by
 cases o with
 |none=>exact(show False from r).elim
 |some u=>exact⟨u,rf,r⟩
section
variable{P:Program}{w:World}{H H':Hp}{h h':Heap}{a C dx:Addr}{fs xU:List (Str×V)}
theorem ZQ(cq:gE P w H h)(e:H a=some (.ins C dx fs)):∃mA,HU h a dx C mA/\(∀f,nM (fs.lookup f) (mA f))/\PySem.Within mA (fs.map (·.1))/\fs.length<=1000/\H dx=some (.own a):=by
 obtain⟨d,z,ne,ob,mA,n,r,q⟩:=(show gP P w H h a (.ins C dx fs) from cq a _ e)
 exact⟨mA,⟨ob,n,ne⟩,r,q,z,d⟩
end
structure HV(K:Frag)(C:Addr):Prop where
 pg:PySem.W.plainGet K C Str.empty=true
 hd:PySem.W.hasDictIn K C=true
 po:PySem.W.plainOver K C=true
 sa:PySem.W.findIn K (.ref C) "__setattr__"=some (some (.builtin "object.__setattr__"))
theorem HV.get{K:Frag}{C:Addr}(c:HV K C)(f:Str):PySem.W.plainGet K C f=true:=c.pg
section
variable{X:Cx}{aU:List (Addr×Obj)}{σ:St}{H:Hp}{s:Shared}{a C dx:Addr}{fs:List (Str×V)}{f:Str}{v:V}{A:Around}{E:QV}
end
section
variable{X:Cx}{o e value:Expr}{f:Str}{pos oK ZR:Pos}{ta tv:TE}
end
section
variable{X:Cx}{aU:List (Addr×Obj)}{σ:St}{H:Hp}{s:Shared}{A:Around}{E:QV}{Q:QV}{c:Value}{b:Bool}
inductive nQ(K:Frag)(H:Hp):V->Value->Prop where
 |df:nQ K H .df (.type "NoneType")
 |bl (x:Bool):nQ K H (.bl x) (.type "bool")
 |int (i:Int):nQ K H (.int i) (.type "int")
 |str (x:Str):nQ K H (.str x) (.type "str")
 |xS (x:UInt64):nQ K H (.xS x) (.type "float")
 |lst {a:Addr} {xs:List V} (e:H a=some (.lst xs)):nQ K H (.ref a) (.type "list")
 |cT {a:Addr} {o:Obj} {xs:List V} (e:H a=some (.cT o (.lst xs))):nQ K H (.ref a) (.type "list")
 |tup {a:Addr} {xs:List V} (e:H a=some (.tup xs)):nQ K H (.ref a) (.type "tuple")
 |dK {a:Addr} {kvs:List (Key×V)} (e:H a=some (.dK kvs)):nQ K H (.ref a) (.type "dict")
 |dT {a:Addr} {kvs:List (List Key×V)} (e:H a=some (.dT kvs)):nQ K H (.ref a) (.type "dict")
 |ins {a C dx:Addr} {fs:List (Str×V)} (e:H a=some (.ins C dx fs)) (cl:HV K C) (ha:PySem.W.findIn K (.ref C) "__class__"=some (some (.builtin "object.__class__")))
   (hn:PySem.W.specialIn K (.builtin "object.__class__") "__get__"=some (some (.builtin "getset_descriptor.__get__"))) (HW:PySem.W.takesIn K (.builtin "object.__class__")=some true)
   (hm:PySem.W.mroIn K C (.type "object")=some true):nQ K H (.ref a) (.ref C)
theorem ZS{x:V}{t:Value}(I:Inv X aU σ H s)(rx:RelV x u)(ty:nQ X.K H x t)(e:kitOne X.K t c=some b)(h:∀tk,Q (.bool b) { s with toks:=tk }) :
  wpAny (model X.prog X.w) A (call (.builtin "isinstance") [u,c]) Q E s:=by
 cases ty with
 |df=>cases(show u=Value.none from rx);exact rX PySem.W.kitx_none I.iC True.intro e (λz=>nomatch z) h
 |bl y=>cases(show u=Value.bool y from rx);exact rX PySem.W.kitx_bool I.iC True.intro e (λz=>nomatch z) h
 |int i=>obtain⟨t,q⟩:=(show ∃t,u=Value.int i t from rx);cases q;exact rX PySem.W.kitx_int I.iC True.intro e (λz=>nomatch z) h
 |str y=>obtain⟨t,q⟩:=(show ∃t,u=Value.str y t from rx);cases q;exact rX PySem.W.kitx_str I.iC True.intro e (λz=>nomatch z) h
 |xS y=>obtain⟨t,q⟩:=(show ∃t,u=Value.float y t from rx);cases q;exact rX PySem.W.kitx_float I.iC True.intro e (λz=>nomatch z) h
 | @lst a xs ea=>
  cases(show u=Value.ref a from rx)
  obtain⟨_,_,n,_,h1⟩:=(show gP X.prog X.w H s.heap a (.lst xs) from I.cq a _ ea)
  exact rX PySem.W.kitx_list I.iC ⟨_,h1,rf⟩ e (λz=>nomatch z) h
 | @cT a ob xs ea=>
  cases(show u=Value.ref a from rx)
  obtain⟨_,_,_,n,_,h1⟩:=(show gP X.prog X.w H s.heap a (.cT ob (.lst xs)) from I.cq a _ ea)
  exact rX PySem.W.kitx_list I.iC ⟨_,h1,rf⟩ e (λz=>nomatch z) h
 | @tup a xs ea=>
  cases(show u=Value.ref a from rx)
  obtain⟨_,_,_,p⟩:=(show gP X.prog X.w H s.heap a (.tup xs) from I.cq a _ ea)
  obtain⟨o,h1,h2,_⟩:=p;exact rX PySem.W.kitx_tuple I.iC ⟨o,h1,h2⟩ e (λz=>nomatch z) h
 | @dK a kvs ea=>
  cases(show u=Value.ref a from rx)
  obtain⟨_,_,vs,_,p⟩:=(show gP X.prog X.w H s.heap a (.dK kvs) from I.cq a _ ea)
  obtain⟨o,es,ep,h1,h2,_⟩:=p;exact rX PySem.W.kitx_dict I.iC ⟨o,h1,h2.1⟩ e (λz=>nomatch z) h
 | @dT a kvs ea=>
  cases(show u=Value.ref a from rx)
  obtain⟨_,_,xs,_,o,es,ep,h1,h2,_⟩:=(show gP X.prog X.w H s.heap a (.dT kvs) from I.cq a _ ea)
  exact rX PySem.W.kitx_dict I.iC ⟨o,h1,h2.1⟩ e (λz=>nomatch z) h
 | @ins a C dx fs ea cl ha hn HW hm=>
  cases(show u=Value.ref a from rx)
  obtain⟨mA,O,_⟩:=ZQ I.cq ea;obtain⟨od,J,_⟩:=O.look;exact rX (PySem.W.kitx_own (cl.get _) cl.hd ha hn HW hm) I.iC J e (λz=>nomatch z) h
end
structure eO(k:Nat)(A:Around):Prop where
 hd:A.handled=none
 dp:A.depth+3*k+5<recursionLimit
 un:A.units+16*k+200<cLine
theorem eO.mono{j k:Nat}(r:eO k A)(h:j<=k):eO j A:=⟨r.hd,by have:=r.dp;lia,by have:=r.un;lia⟩
theorem eO.deeper{k:Nat}{A:Around}(r:eO (k+1) A)(env:Env):eO k (A.deeper env):=
 ⟨r.hd,by have:=r.dp;show A.depth+1+3*k+5<_;lia,by have:=r.un;show A.units+3+16*k+200<_;lia⟩
theorem eO.depth{k:Nat}{A:Around}(r:eO k A):A.depth<recursionLimit:=by have:=r.dp;lia
theorem eO.units{k:Nat}{A:Around}(r:eO k A):A.units+64<cLine:=by have:=r.un;lia
def cy:TA:=λ_ H Q=>Q [] H
def bz(ta:TE)(tr:TA):TA:=λσ H Q=>ta σ H λx H1=>tr σ H1 λxs H2=>Q (x::xs) H2
section
variable{X:Cx}{e:Expr}{es:List Expr}{te:TE}{t:TA}{pos:Pos}
theorem aZ:PA X [] cy:=λ_ _ _ _ H Q I h=>Calls.spliced_nil ⟨[],H,I,.nil,h⟩
theorem aV(ha:PE X e te)(hr:PA X es t)(hs:starEach (e::es) X.env=(false,eval e X.env)::starEach es X.env:=by rfl):PA X (e::es) (bz te t):=by
 intro pos aU s σ H Q I h;rw[hs];show wpAny _ _ (spliced ((false,eval e X.env)::backTo pos (starEach es X.env))) _ _ s;refine CT (bj (ha aU s σ H _ I h) λu s1 ⟨x,H1,I1,r1,q1⟩=>?_);exact bj (hr pos aU s1 σ H1 _ I1 q1) λus s2 ⟨xs,H2,I2,r2,q2⟩=>⟨x::xs,H2,I2,.cons r1 r2,q2⟩
def fo(t:TA):TE:=λσ H Q=>t σ H λxs H1=>xs.length<=sizeLine/\∀p,H1 p=none->Q (.ref p) (upd H1 p (.tup xs))
def gI(t:TA):TE:=λσ H Q=>t σ H λxs H1=>xs.length<=sizeLine/\∀p,H1 p=none->Q (.ref p) (upd H1 p (.lst xs))
theorem cU{x1}(h:PA X es t):PE X (.Tuple es x1 pos) (fo t):=by
 intro aU s σ H Q I hq;refine wpAny_Tuple_spliced (bj (h pos aU s σ H _ I hq) λus s1 ⟨xs,H1,I1,r,z,q⟩=>⟨by rw[<- r.length];exact z,?_⟩);have hf:H1 s1.heap.objs.size=none:=I1.cq.fresh (cn _);refine⟨.ref s1.heap.objs.size,upd H1 s1.heap.objs.size (.tup xs),I1.laid (t':=s1.toks) (λb u e=>dt _ e) (cn _) ?_,rf,q _ hf⟩;exact⟨z,us,r,⟨_,fi _ rf,rf,rf,_,rf⟩⟩
theorem gT(h:PA X es t):PE X (.List es pos) (gI t):=by
 intro aU s σ H Q I hq;refine wpAny_List_spliced (bj (h pos aU s σ H _ I hq) λus s1 ⟨xs,H1,I1,r,z,q⟩=>⟨by rw[<- r.length];exact z,?_⟩);have hf:H1 s1.heap.objs.size=none:=I1.cq.fresh (cn _);refine⟨.ref s1.heap.objs.size,upd H1 s1.heap.objs.size (.lst xs),I1.laid (t':=s1.toks) (λb u e=>dt _ e) (cn _) ?_,rf,q _ hf⟩;exact⟨z,us,0,r,fi _ rf⟩
end
abbrev Sp:=List V->Hp->VK->XK->Prop
abbrev oO:=List Env->Hp->Shared->XK->Value->Shared->Prop
structure x6(P:Program)(w:World)(K:Frag)(mg:Str->Option Value)(base:Heap)(A:Around)(outer:List Env)(s:Shared)(H:Hp):Prop where
 frames:A.frames=some outer
 mod:Mod K mg base
 bs:∀b o,base.get? b=some o->s.heap.get? b=some o/\H b=none
 uB:base.objs.size<=s.heap.objs.size
 pH:s.heap.FunFrames base outer
 xW:∀b∈mw outer,H b=none
 cq:gE P w H s.heap
 bare:AllBare s.gens
def CE(outer:List Env)(P:Program)(w:World)(H:Hp)(s:Shared)(Q:VK)(u:Value)(s':Shared):Prop:=
 ∃v H',s'.os=s.os/\AllBare s'.gens/\Un (mw outer) [] H H' s.heap s'.heap/\gE P w H' s'.heap/\RelV v u/\Q v H'
def CR(CX:oO)(outer:List Env)(P:Program)(w:World)(H:Hp)(s:Shared)(Q:VK)(E:XK)(r:Result)(s':Shared):Prop:=
 match r with
 | .ok (.ret u)=>CE outer P w H s Q u s'
 | .ok _=>False
 | .error e=>CX outer H s E e s'
structure cc(P:Program)(w:World)(K:Frag)(mg:Str->Option Value)(base:Heap)(CX:oO)(k:Nat)(f:Addr)(fd:FuncData)(ps:List Str)(sp:Sp):Prop where
 len:∀vs H Q E,sp vs H Q E->vs.length=ps.length
 run:∀(A:Around)(outer:List Env)(s:Shared)(H:Hp)(args:Args)(us:List Value)(vs:List V)(Q:VK)(E:XK),eO k A->x6 P w K mg base A outer s H->BindsTo s fd args (ps.zip us)->Vals vs us->sp vs H Q E->
  codeAny (model P w) A (.call (.ref f) args) (CR CX outer P w H s Q E) s
theorem cc.mono{P:Program}{w:World}{K:Frag}{mg:Str->Option Value}{base:Heap}{CX:oO}{j k:Nat}{f:Addr}{fd:FuncData}{ps:List Str}{sp:Sp}(F:cc P w K mg base CX j f fd ps sp)(h:j<=k) :
  cc P w K mg base CX k f fd ps sp:=⟨F.len,λA outer s H args us vs Q E hr=>F.run A outer s H args us vs Q E (hr.mono h)⟩
section
variable{X:Cx}{aU:List (Addr×Obj)}{σ:St}{H:Hp}{s s':Shared}
theorem Inv.HX(I:Inv X aU σ H s):x6 X.prog X.w X.K X.mg X.base X.A X.stack s H:=
 ⟨I.ok.frames,I.ok.mod,I.bs,gn I.ok.uB I.sz,I.stack,I.Oz,I.cq,I.bare⟩
theorem Inv.after{Q:VK}(I:Inv X aU σ H s)(h:CE X.stack X.prog X.w H s Q u s'):EP X aU σ Q u s':=by
 obtain⟨v,H',os,bare,un,cq,r,q⟩:=h;obtain⟨hh,g,d,t,HY⟩:=s';obtain rfl:HY=s.os:=os;exact⟨v,H',I.call (h':=hh) (g':=g) (d':=d) (t':=t) (ch:=[]) un cq bare (λb z=>absurd z (by simp)),r,q⟩
end
def jL(sp:Sp)(jM:List V)(E:XK)(t:TA):TE:=λσ H Q=>t σ H λvs H1=>sp (vs++jM) H1 Q E
def Binds(K:Frag)(fd:FuncData)(ps:List Str)(ds:List Value):Prop:=
 ∀(s:Shared)(us:List Value),K.In s.heap->(us++ds).length=ps.length->BindsTo s fd ⟨us,[]⟩ (ps.zip (us++ds))
theorem Binds.all{K:Frag}{fd:FuncData}{ps:List Str}(h:∀us:List Value,us.length=ps.length->bindArgs fd ⟨us,[]⟩=pure (ps.zip us)):Binds K fd ps []:=λs us _ hl=>by
 rw[iT]at hl |-;exact .of_eq (h us hl)
def Passes(CX:oO)(X:Cx)(E:XK):Prop:=∀(aU:List (Addr×Obj))(σ:St)(H:Hp)(s:Shared)(e:Value)(s':Shared),Inv X aU σ H s->CX X.stack H s E e s'->X.xe e s'
section
variable{X:Cx}{CX:oO}{k:Nat}{f C:Addr}{fd:FuncData}{ps:List Str}{sp:Sp}{jM:List V}{ds:List Value}{E:XK}{x m:Str}{p pos jy:Pos}{e o:Expr}{es:List Expr}{ta:TE}{t:TA}
theorem ZT{Q:VK}{vs:List V}(F:cc X.prog X.w X.K X.mg X.base CX k f fd ps sp)(hr:eO k X.A)(hb:Binds X.K fd ps ds)(hd:Vals jM ds)(hx:Passes CX X E)
  (I:Inv X aU σ H s) (r:Vals vs us) (h:sp (vs++jM) H Q E):wpAny (model X.prog X.w) X.A (call (.ref f) us) (EP X aU σ Q) X.xe s:=by
 have r2:Vals (vs++jM) (us++ds):=r.append hd;have hl:(us++ds).length=ps.length:=by rw[<- r2.length];exact F.len _ _ _ _ h
 refine wpAny_call (codeAny_mono (F.run X.A X.stack s H ⟨us,[]⟩ (us++ds) (vs++jM) Q E hr I.HX (hb s us I.iC hl) r2 h) λr s' hq=>?_);cases r with
 |error e=>exact hx aU σ H s e s' I hq
 |ok fl=>
  cases fl with
  |ret u=>exact I.after hq
  |next=>exact False.elim hq
  |brk=>exact False.elim hq
  |cont=>exact False.elim hq
theorem cK(F:cc X.prog X.w X.K X.mg X.base CX k f fd ps sp)(hr:eO k X.A)(hg:Gl X x)(hm:X.mg x=some (.ref f))(hk:Kp X.K f)(hb:Binds X.K fd ps ds)(hd:Vals jM ds)(hx:Passes CX X E)
  (ha:PA X (e::es) t) (wq:(x==("__debug__":Str))=false:=by decide) (he:starEach (e::es) X.env=(false,eval e X.env)::starEach es X.env:=by rfl) (kq:(backTo pos (starEach es X.env)).any (·.1)=false:=by rfl) :
  PE X (.Call (.Name x p) (e::es) [] pos) (jL sp jM E t):=by
 intro aU s σ H Q I h;refine av (HD I hg hm ?_ wq);refine PySem.W.callWith_K (h₀:=X.base) I.ok.mod.vZ hk (bj (ha pos aU s σ H _ I h) λus s1 ⟨vs,H1,I1,r,q⟩=>⟨I1.iC,?_⟩) he kq;exact ZT F hr hb hd hx I1 r q
end
section
variable{X:Cx}{CX:oO}{k:Nat}{f C:Addr}{fd:FuncData}{ps ks:List Str}{sp:Sp}{E:XK}{x m:Str}{p pos jy agf:Pos}{e o:Expr}{es:List Expr}{kws:List Keyword}{te ta:TE}{t tk:TA}{nm:Option Str}
variable{g:List Value->List Value->List Value}{gV:List V->List V->List V}
end
structure dy(N P:List Str)(sc:Scope):Prop where
 kind:sc.kind=.function
 co:sc.isCoroutine=false
 gen:sc.isGenerator=false
 nd:N.Nodup
 pre:N.take P.length=P
 par:∀x∈P,sc.names.lookup x=some .local\/sc.names.lookup x=some .cell
 ZU:∀y∈sc.names,y.2≠.free
theorem dI{N P:List Str}{sc:Scope}(a:sc.kind=.function)(b:sc.isCoroutine=false)(c:sc.isGenerator=false)(h:N.Nodup/\(∀x∈P,sc.names.lookup x=some .local\/sc.names.lookup x=some .cell)/\∀y∈sc.names,y.2≠.free)(e:N.take P.length=P):dy N P sc:=⟨a,b,c,h.1,e,h.2.1,h.2.2⟩
theorem O5{kindOf:Str->Option NameKind}{x:Str}:∀{binds:List (Str×Value)}{m:Str->Option Value},(∀v,(x,v) ∉ binds)->bindL kindOf binds m x=m x
 | [],_,_=>rfl
 |(n,v)::r,m,h=>by
  unfold bindL;rw[O5 λw hw=>h w (dU _ hw)];split
  ·have:x≠n:=by rintro rfl;exact h v cQ
   simp[this]
  ·rfl
theorem O6{kindOf:Str->Option NameKind}{x:Str}:∀{binds:List (Str×Value)}{m:Str->Option Value},(∀v,(x,v) ∉ binds)->bindC kindOf binds m x=m x
 | [],_,_=>rfl
 |(n,v)::r,m,h=>by
  unfold bindC;rw[O6 λw hw=>h w (dU _ hw)];split
  ·rfl
  ·have:x≠n:=by rintro rfl;exact h v cQ
   simp[this]
theorem O7{kindOf:Str->Option NameKind}{x:Str}{v:Value}:∀{P:List Str}{vs:List Value}{i:Nat}{m:Str->Option Value},P.Nodup->P[i]?=some x->vs[i]?=some v->kindOf x=some .local->
  bindL kindOf (P.zip vs) m x=some v
 | [],_,_,_,_,h,_,_=>by simp at h
 |_::_,[],_,_,_,_,h,_=>by simp at h
 |p::P,w::vs,0,m,nd,h1,h2,hk=>by
  simp at h1 h2;subst h1;subst h2;show bindL kindOf ((p,w)::P.zip vs) m p=_;unfold bindL;rw[O5 λv hv=>(xO.mp nd).1 (zU hv).1,af hk];simp
 |p::P,w::vs,i+1,m,nd,h1,h2,hk=>by
  show bindL kindOf ((p,w)::P.zip vs) m x=_;unfold bindL;exact O7 (i:=i) (xO.mp nd).2 (by simpa using h1) (by simpa using h2) hk
theorem O8{kindOf:Str->Option NameKind}{x:Str}{v:Value}:∀{P:List Str}{vs:List Value}{i:Nat}{m:Str->Option Value},P.Nodup->P[i]?=some x->vs[i]?=some v->kindOf x≠some .local->
  bindC kindOf (P.zip vs) m x=some v
 | [],_,_,_,_,h,_,_=>by simp at h
 |_::_,[],_,_,_,_,h,_=>by simp at h
 |p::P,w::vs,0,m,nd,h1,h2,hk=>by
  simp at h1 h2;subst h1;subst h2;show bindC kindOf ((p,w)::P.zip vs) m p=_;unfold bindC;rw[O6 λv hv=>(xO.mp nd).1 (zU hv).1,ag hk];simp
 |p::P,w::vs,i+1,m,nd,h1,h2,hk=>by
  show bindC kindOf ((p,w)::P.zip vs) m x=_;unfold bindC;exact O8 (i:=i) (xO.mp nd).2 (by simpa using h1) (by simpa using h2) hk
noncomputable def start(N:List Str)(vs:List V):St:=vs.map some++List.replicate (N.length-vs.length) none
noncomputable def oP(CX:oO)(P:Program)(w:World)(K:Frag)(mg:Str->Option Value)(base:Heap)(N:List Str)(qual:Str)(scope:Scope)(f:Addr)(cd:Value)(A:Around)(outer:List Env)(s:Shared)(H:Hp)(E:XK):Cx where
 prog:=P
 w:=w
 K:=K
 mg:=mg
 base:=base
 A:=A.deeper (envOfC qual scope s.heap.objs.size f cd)
 N:=N
 s₀:=s
 H₀:=H
 env:=envOfC qual scope s.heap.objs.size f cd
 outer:=outer
 stack:=envOfC qual scope s.heap.objs.size f cd::outer
 ex:=[]
 calm:=true
 fn:=λ_=>true
 pn:=[]
 xe:=λe s'=>wpAny (model P w) (A.deeper (envOfC qual scope s.heap.objs.size f cd)) (leaving (envOfC qual scope s.heap.objs.size f cd) e) (λ_ iQ=>CX outer H s E e iQ) (λe' iQ=>CX outer H s E e' iQ) s'
theorem O9{sc:Scope}(h:sc.names.lookup x=some .cell):∃c,(cellsFrom n sc.names []).lookup x=some c:=by
 have q:=Hr sc.names n [] (.inl h);exact Option.isSome_iff_exists.mp q
theorem HZ{CX:oO}{P:Program}{w:World}{K:Frag}{mg:Str->Option Value}{base:Heap}{N ps:List Str}{qual:Str}{scope:Scope}{f:Addr}{cd:Value}{outer:List Env}{s1:Shared}{E:XK}{vs:List V}
  (S:dy N ps scope) (hd:A.handled=none) (e0:x6 P w K mg base A outer s H) (hl:vs.length=ps.length) (r:Vals vs us)
  (x:InCallC s s.heap.objs.size (bindL (envOfC qual scope s.heap.objs.size f cd).kindOf (ps.zip us) λ_=>none) (cellsFrom (s.heap.objs.size+1) scope.names []) (bindC (envOfC qual scope s.heap.objs.size f cd).kindOf (ps.zip us) λ_=>none) s1) :
  Inv (oP CX P w K mg base N qual scope f cd A outer s H E) [] (start N vs) H s1:=by
 have kq:ps.length<=N.length:=by have:=aj List.length S.pre;rw[gy]at this;lia
 obtain⟨h1,tk,rfl,hk⟩:=x.done;have Au:∀b:Addr,b ∉ (oP CX P w K mg base N qual scope f cd A outer s H E).ex:=λb z=>absurd (show b∈([]:List Addr) from z) (by simp)
 refine⟨⟨e0.mod,S.kind,rf,rf,cn _,λy z c h1 h2=>?_,λy hy=>?_,λy c _ h=>?_,λ_=>hd,Around.frames_deeper e0.frames,.inr ⟨rf,rf⟩,λb z=>absurd z (Au b),e0.bs,e0.uB,λb _ _=>Au b,λb z=>absurd z (Au b),e0.pH,e0.xW⟩,
  rfl,e0.bare,Un.kept hk,⟨_,x.toInCall.ns,λi y v h1 h2 h3=>?_⟩,λy c h=>⟨_,x.cell y c h⟩,e0.cq.fresh (cn _),λy c h=>?_,λp hp=>absurd (show p∈([]:List (Addr×Obj)) from hp) (by simp),e0.cq.kept hk,?_⟩
 ·exact name_of_addr x.apart (vR h1) (vR h2)
 ·have hy:scope.names.lookup y=some .cell\/scope.names.lookup y=some .free:=hy;rcases hy with hy|hy
  ·exact O9 hy
  ·exact absurd rf (S.ZU _ (vR hy))
 ·exact Nat.le_of_lt (x.above y c (vR h))
 ·have hi:i<vs.length:=by
   unfold start at h2;by_cases hi:i<vs.length
   ·exact hi
   ·rw[jb (by simpa using hi)]at h2;rw[List.getElem?_replicate]at h2;split at h2<;>cases h2
  have ha:vs[i]?=some v:=by
   unfold start at h2;rw[iK (by simpa using hi),dG]at h2;cases e:vs[i]? with
   |none=>rw[e]at h2;cases h2
   |some a=>rw[e]at h2;cases h2;rfl
  obtain⟨u,hu,rv⟩:=r.get ha;have hp:ps[i]?=some y:=by
   rw[<- S.pre,List.getElem?_take_of_lt (by lia)];exact h1
  have Pa:ps.Nodup:=by rw[<- S.pre];exact S.nd.sublist (List.take_sublist _ _)
  refine⟨u,rv,?_⟩;rcases S.par y (dP hp)with k|k
  ·exact .inl ⟨k,O7 Pa hp hu k⟩
  ·obtain⟨c,e⟩:=O9 (n:=s.heap.objs.size+1) k;refine .inr ⟨.inl k,c,e,?_⟩;have q:=x.cell y c e;rw[O8 Pa hp hu (by show scope.names.lookup y≠_;rw[k];decide)]at q;exact q
 ·exact e0.cq.fresh (Nat.le_of_lt (x.above y c (vR h)))
 ·unfold start;show _=N.length;rw[cm,bu,zV];lia
theorem ZV{CX:oO}{P:Program}{w:World}{K:Frag}{mg:Str->Option Value}{base:Heap}{k:Nat}{f:Addr}{name qual:Str}{params:Arguments}{body:List Stmt}{scope:Scope}{dV kV doc pm cz ct oc:Value}{an od:Option Addr}
  {pO:Array (Option Value)} {N ps:List Str} {sp:Sp} (lk:K.lookup f=some ⟨oc,od,.func (fnOf name qual params body scope dV kV doc pm an cz ct),pO⟩) (jY:PySem.W.codeIn K cz qual=true) (S:dy N ps scope)
  (len:∀vs H Q E,sp vs H Q E->vs.length=ps.length)
  (wt:∀(A:Around)(outer:List Env)(s:Shared)(H:Hp)(vs:List V)(Q:VK)(E:XK),eO k (A.deeper (envOfC qual scope s.heap.objs.size f cz))->sp vs H Q E->
   ∃t,lP (oP CX P w K mg base N qual scope f cz A outer s H E) body t/\t { nx:=λ_ H'=>Q .df H',rt:=Q } (start N vs) H) :
  cc P w K mg base CX (k+1) f (fnOf name qual params body scope dV kV doc pm an cz ct) ps sp:=by
 refine⟨len,λA outer s H args us vs Q E hr e0 hb r iW=>?_⟩;have hl:=len _ _ _ _ iW;have KX:K.In s.heap:=e0.mod.vZ.keeps λb o e=>(e0.bs b o e).1;have lim:s.heap.NoLimit:=e0.mod.nolimit.keeps λb o e=>(e0.bs b o e).1;have Av:∀y∈ps.zip us,scope.names.lookup y.1=some .local\/(scope.names.lookup y.1=some .cell/\((cellsFrom (s.heap.objs.size+1) scope.names []).lookup y.1).isSome=true):=λ⟨n,v⟩ hy=>by
  rcases S.par n (zU hy).1 with q|q
  ·exact .inl q
  ·exact .inr ⟨q,Hr _ _ _ (.inl q)⟩
 refine codeAny_call_function hr.depth (KX _ _ lk) rf S.co S.gen rf (PySem.W.codeRec_of KX jY) (hb _ _ _ _ ?_);refine ax S.kind Av λenv he s1 x=>?_;subst he;refine⟨lim.keeps x.toInCall.keep,codeAny_func ?_⟩;obtain⟨t,ht,hq⟩:=wt A outer s H vs Q E (hr.deeper _) iW;have I:Inv (oP CX P w K mg base N qual scope f cz A outer s H E) [] (start N vs) H s1:=HZ S hr.hd e0 hl r x;refine ah (ht [] s1 (start N vs) H _ I hq) (λfl s' hs=>?_) λe s' hs=>hs;have fin:∀{σ':St}{H':Hp}{v:V}{u:Value},Inv (oP CX P w K mg base N qual scope f cz A outer s H E) [] σ' H' s'->RelV v u->Q v H'->CE outer P w H s Q u s':=
  λ{σ' H' v u} J rv q=>⟨v,H',J.os,J.bare,J.base,J.cq,rv,q⟩
 cases fl with
 |ret u=>
  obtain⟨v,σ',H',J,rv,q⟩:=hs;exact fin J rv q
 |next=>
  obtain⟨σ',H',J,q⟩:=hs;exact fin (v:=V.df) (u:=Value.none) J rf q
 |brk=>
  obtain⟨_,_,_,q⟩:=hs;exact False.elim q
 |cont=>
  obtain⟨_,_,_,q⟩:=hs;exact False.elim q
section
variable{X:Cx}{x:Str}{p pos:Pos}{e:Expr}{es:List Expr}{t:TA}{id T:String}{r:List V->Hp->VK->Prop}
def pP(r:List V->Hp->VK->Prop)(t:TA):TE:=λσ H Q=>t σ H λvs H1=>r vs H1 Q
theorem eX(hc:ib X (.builtin id) r)(hg:Gl X x)(hm:X.mg x=none)(hv:bootBuiltins x=some (.builtin id))(ha:PA X (e::es) t)(hn:x ≠ "__name__":=by decide)(wq:(x==("__debug__":Str))=false:=by decide)
  (he:starEach (e::es) X.env=(false,eval e X.env)::starEach es X.env:=by rfl) (kq:(backTo pos (starEach es X.env)).any (·.1)=false:=by rfl):PE X (.Call (.Name x p) (e::es) [] pos) (pP r t):=by
 intro aU s σ H Q I h;refine av (sg I hg hm hv ?_ hn wq);exact PyProof.Rows.callWith_builtin1 (bj (ha pos aU s σ H _ I h) λus s1 ⟨vs,H1,I1,r1,q1⟩=>hc aU s1 σ H1 vs us Q I1 r1 q1) he kq
theorem e9(hc:ib X (.type T) r)(hg:Gl X x)(hm:X.mg x=none)(hv:bootBuiltins x=some (.type T))(ha:PA X (e::es) t)(hn:x ≠ "__name__":=by decide)(wq:(x==("__debug__":Str))=false:=by decide)
  (he:starEach (e::es) X.env=(false,eval e X.env)::starEach es X.env:=by rfl) (kq:(backTo pos (starEach es X.env)).any (·.1)=false:=by rfl):PE X (.Call (.Name x p) (e::es) [] pos) (pP r t):=by
 intro aU s σ H Q I h;refine av (sg I hg hm hv ?_ hn wq);exact zT (bj (ha pos aU s σ H _ I h) λus s1 ⟨vs,H1,I1,r1,q1⟩=>hc aU s1 σ H1 vs us Q I1 r1 q1) he kq
end
end L2
namespace HT
open PySem PyProof.Rows
section
open PySem.SeqAt
open PySem.AutoSeq1 (wpAny_loadPart')
open PySem.MeetsSeq PySem.MeetsSeq2 PySem.MeetsSeq3
end
section
variable{prog:Program}{w:World}{A:Around}{E:QV}{s:Shared}
theorem ZW{t b:Addr}{vs ws:List Value}{Q:QV}(ht:IsTup s.heap t vs.toArray)(hb:IsTup s.heap b ws.toArray)(hv:vs≠[])
  (h1:ws=[]->Q (.ref t) s) (h2:ws≠[]->Q (.ref s.heap.objs.size) { s with heap:=s.heap.push { cls:=.type "tuple",data:=.seq (vs++ws).toArray } })
  (hsz:vs.length+ws.length<=sizeLine):wpAny (model prog w) A (binaryOp .Add (.ref t) (.ref b)) Q E s:=by
 obtain⟨⟨cls,dd,data,sl⟩,ho,hc,n,hd⟩:=id ht;obtain⟨⟨agg,Du,data2,Dv⟩,Dx,x8,n2,iD⟩:=id hb;simp only at hc hd x8 iD;subst hc hd x8 iD;have e:vs.toArray++ws.toArray=(vs++ws).toArray:=by simp
 by_cases hw:ws=[]
 ·exact concat_meets ⟨_,ho,rf⟩ ⟨_,Dx,rf⟩ noFill_tuple_add seq_tuple_add PySem.F.slot_tuple_add PySem.F.entry_tuple_add (PySem.F.args_tuple_add_2 _ _)
   (tuple_addW1 t b vs.toArray ws.toArray n n2 dd Du sl Dv (by simpa using hv) (by simp[hw])) ⟨ho,Dx,h1 hw⟩
 ·refine concat_meets ⟨_,ho,rf⟩ ⟨_,Dx,rf⟩ noFill_tuple_add seq_tuple_add PySem.F.slot_tuple_add PySem.F.entry_tuple_add (PySem.F.args_tuple_add_2 _ _)
   (tuple_addW2 t b vs.toArray ws.toArray n n2 dd Du sl Dv (by simpa using hv) (by simpa using hw) (by rw[eK,eK];exact hsz)) ⟨ho,Dx,?_⟩
  rw[e];exact h2 hw
noncomputable def cY(n d:Nat):Option Int->Nat
 |none=>d
 |some v=>if v<0 then(v+(n:Int)).toNat else min v.toNat n
theorem Aw(n d:Nat):cY n d none=d:=rfl
theorem wu(n d k:Nat):cY n d (some (k:Int))=min k n:=by
 show(if(k:Int)<0 then((k:Int)+(n:Int)).toNat else min (k:Int).toNat n)=min k n
 rw[ag (by lia),CU]
theorem ZX(n d:Nat)(hd:d<=n)(o:Option Int):cY n d o<=n:=by
 cases o with
 |none=>exact hd
 |some v=>
  show(if v<0 then(v+(n:Int)).toNat else min v.toNat n)<=n
  by_cases hv:v<0
  ·rw[af hv];lia
  ·rw[ag hv];exact Nat.min_le_right _ _
theorem Pb(v:Int)(n d:Nat):(if v<0 then max (v+(n:Int)) 0 else min v (n:Int))=((cY n d (some v):Nat):Int):=by
 show(if v<0 then max (v+(n:Int)) 0 else min v (n:Int))=(((if v<0 then(v+(n:Int)).toNat else min v.toNat n):Nat):Int)
 by_cases hv:v<0
 ·simp only[af hv];lia
 ·simp only[ag hv];lia
theorem ZY(lo hi:Option Int)(n:Nat):Builtin.Slice.sliceAdjust lo hi 1 (n:Int)=(((cY n 0 lo:Nat):Int),((cY n n hi:Nat):Int)):=by
 have h1:¬((1:Int)<0):=by lia
 unfold Builtin.Slice.sliceAdjust;simp only[h1,if_false];refine Prod.ext ?_ ?_
 ·cases lo with
  |none=>rfl
  |some v=>exact Pb v n 0
 ·cases hi with
  |none=>rfl
  |some v=>exact Pb v n n
theorem ZZ(i j:Nat):Builtin.Slice.slicePlaces (i:Int) (j:Int) 1=j-i:=by
 unfold Builtin.Slice.slicePlaces;have h1:(1:Int)>0:=by lia
 simp only[h1,if_true,Int.ediv_one];split<;>lia
theorem Pc{v:Value}{o:Option Int}{Q:Option Int->Shared->Prop}(p:IsPart v o)(h:Q o s):wpAny (model prog w) A (Builtin.Slice.slicePartIndex v) Q E s:=by
 cases p with
 |none=>exact slicePart_none h
 |int i t=>exact slicePart_int h
theorem Pd{sl:Addr}{vl vu:Value}{lo hi:Option Int}{n:Nat}{Q:Int×Int×Nat->Shared->Prop}(hs:s.heap.IsSliceOf sl vl vu .none)(pl:IsPart vl lo)(pu:IsPart vu hi)
  (h:Q (((cY n 0 lo:Nat):Int),1,cY n n hi-cY n 0 lo) s):wpAny (model prog w) A (Builtin.Slice.sliceApplied (.ref sl) (pure (n:Int))) Q E s:=by
 obtain⟨os,su,x9,Ax⟩:=id hs;unfold Builtin.Slice.sliceApplied Builtin.Slice.sliceFields;refine ak (ak (wpAny_field su Ax (x:=vl) rf (ak (wpAny_field su Ax (x:=vu) rf (ak (wpAny_field su Ax (x:=.none) rf (aq ?_)))))));refine ak (slicePart_none ?_);show wpAny _ _ (if((1:Int)==0)=true then _ else _) _ _ s
 rw[ag (by decide)];refine ak (Pc pl (ak (Pc pu (ak (aq ?_)))));show wpAny _ _ (match Builtin.Slice.sliceAdjust lo hi 1 (n:Int)with|(lo,hi)=>pure (lo,(1:Int),Builtin.Slice.slicePlaces lo hi 1)) _ _ s
 rw[ZY lo hi n];show wpAny _ _ (pure (((cY n 0 lo:Nat):Int),(1:Int),Builtin.Slice.slicePlaces ((cY n 0 lo:Nat):Int) ((cY n n hi:Nat):Int) 1)) _ _ s;rw[ZZ];exact aq h
theorem Z0(xs:Array Value)(i k:Nat):((List.range k).filterMap λ(m:Nat)=>xs[((i:Int)+(m:Int)*1).toNat]?).toArray=((xs.toList.drop i).take k).toArray:=by
 have e:(λ(m:Nat)=>xs[((i:Int)+(m:Int)*1).toNat]?)=λm=>xs[i+m]?:=by
  funext m
  have:((i:Int)+(m:Int)*1).toNat=i+m:=by lia
  rw[this]
 rw[e]
 have:=pick_run xs i k
 rw[List.filterMap_map]at this;have e2:((λx=>xs[x]?) ∘ λx=>i+x)=λm=>xs[i+m]?:=rfl;rw[e2]at this;rw[this]
theorem Z1{t sl:Addr}{items:Array Value}{vl vu:Value}{lo hi:Option Int}{Q:QV}(ht:IsTup s.heap t items)(hs:s.heap.IsSliceOf sl vl vu .none)(pl:IsPart vl lo)(pu:IsPart vu hi)
  (hw:¬(cY items.size 0 lo=0/\cY items.size items.size hi=items.size))
  (h:Q (.ref s.heap.objs.size) { s with heap:=s.heap.push { cls:=.type "tuple",data:=.seq ((items.toList.drop (cY items.size 0 lo)).take (cY items.size items.size hi-cY items.size 0 lo)).toArray } })
  (hsz:items.size<=sizeLine):wpAny (model prog w) A (getItem (.ref t) (.ref sl)) Q E s:=by
 have Dy:sizeOk (.seq ((items.toList.drop (cY items.size 0 lo)).take (cY items.size items.size hi-cY items.size 0 lo)).toArray):=by
  show((items.toList.drop (cY items.size 0 lo)).take (cY items.size items.size hi-cY items.size 0 lo)).toArray.size<=sizeLine;rw[eK,gy,jW,vQ];lia
 have hj:cY items.size items.size hi<=items.size:=ZX _ _ (cn _) hi;obtain⟨os,su,x9,Ax⟩:=id hs;have Ia:s.TypeIs (.ref sl) "slice":=⟨os,su,x9⟩;unfold getItem
 try with_reducible refine ao ?_
 first|refine ak (aq ?_)|skip
 refine ak (wpAny_sequenceKey ht.typeIs (by decide) ?_);refine ak (ay (name:=Str.ofString "__getitem__") ht.typeIs CV (az CV ht.typeIs entry_tuple_getitem ?_ (args_tuple_getitem _ _)));show wpAny _ _ (Builtin.Tuple.tupleItemsOf (.ref t) >>= _) _ _ s;refine ak (tupleItemsOf_ ht ?_);refine ak (aA Ia ?_);rw[af (by decide)];refine ak (Pd hs pl pu ?_);have Ay:¬((((cY items.size 0 lo:Nat):Int)==0&&(1:Int)==1&&(cY items.size items.size hi-cY items.size 0 lo)==items.size)=true):=by
  intro q;rw[gM,gM]at q;have q1:((cY items.size 0 lo:Nat):Int)=0:=eq_of_beq q.1.1;have q2:cY items.size items.size hi-cY items.size 0 lo=items.size:=eq_of_beq q.2;exact hw ⟨by lia,by lia⟩
 show wpAny _ _ (if(((cY items.size 0 lo:Nat):Int)==0&&(1:Int)==1&&(cY items.size items.size hi-cY items.size 0 lo)==items.size)=true then _ else _) _ _ s
 rw[ag Ay,Z0];first
  |exact ak (m:=Builtin.Tuple.tupleExact _) (aC (aq ⟨_,rf,aq h⟩) Dy)
  |exact ak (m:=Builtin.Tuple.tupleExact _) (aC (ak (aq (aq ⟨_,rf,aq h⟩))) Dy)
  |exact ak (ak (m:=Builtin.Tuple.tupleExact _) (aC (aq (aq ⟨_,rf,aq h⟩)) Dy))
  |exact ak (ak (m:=Builtin.Tuple.tupleExact _) (aC (aq ⟨_,rf,aq h⟩) Dy))
end
end HT
namespace L2
open PySem PySem.Spec PyProof.Rows
variable{its:List Value}{n:Nat}{s:Shared}{x:V}{α:Type}
abbrev TO:=St->Hp->(Option Int->Hp->Prop)->Prop
def PO(X:Cx)(e:Option Expr)(t:TO):Prop:=
 ∀(aU:List (Addr×Obj))(s:Shared)(σ:St)(H:Hp)(Q:Option Int->Hp->Prop),Inv X aU σ H s->t σ H Q->
  wpAny (model X.prog X.w) X.A (evalPart e X.env) (λu s'=>∃o H',Inv X aU σ H' s'/\IsPart u o/\Q o H') X.xe s
def Pe:TO:=λ_ H Q=>Q none H
def Pf(t:TE):TO:=λσ H Q=>t σ H λx H1=>∃i,x=.int i/\Q (some i) H1
section
variable{X:Cx}{e:Expr}{te:TE}{lo hi:Option Expr}{tl th:TO}{pos p2:Pos}
theorem mQ:PO X none Pe:=by
 intro aU s σ H Q I h;rw[evalPart_none];exact aq ⟨none,H,I,.none,h⟩
theorem lT(h:PE X e te):PO X (some e) (Pf te):=by
 intro aU s σ H Q I hw;rw[evalPart_some];refine bj (h aU s σ H _ I hw) λu s1 ⟨x,H1,I1,r1,q1⟩=>?_;obtain⟨i,rfl,q⟩:=q1;obtain⟨t,rfl⟩:=r1;exact⟨some i,H1,I1,.int i t,q⟩
def ya(X:Cx)(r:V->Option Int->Option Int->Hp->VK->Prop):Prop:=
 ∀(aU:List (Addr×Obj))(s:Shared)(σ:St)(H:Hp)(x:V)(v vl vu:Value)(lo hi:Option Int)(sl:Addr)(Q:VK),Inv X aU σ H s->RelV x v->s.heap.IsSliceOf sl vl vu .none->IsPart vl lo->IsPart vu hi->r x lo hi H Q->
  ∃T id,typeLookup (.type T) "__getitem__"=pure (some (.builtin id))/\s.TypeIs v T/\wpAny (model X.prog X.w) X.A (getItem v (.ref sl)) (EP X aU σ Q) X.xe s
def Pg(r:V->Option Int->Option Int->Hp->VK->Prop)(te:TE)(tl th:TO):TE:=λσ H Q=>te σ H λx H1=>tl σ H1 λl H2=>th σ H2 λu H3=>r x l u H3 Q
theorem nT{r:V->Option Int->Option Int->Hp->VK->Prop}(hr:ya X r)(he:PE X e te)(hl:PO X lo tl)(hu:PO X hi th):PE X (.Subscript e (.Slice lo hi none p2) pos) (Pg r te tl th):=by
 intro aU s σ H Q I h;refine Subscript_ (bj (he aU s σ H _ I h) λv s1 ⟨x,H1,I1,r1,q1⟩=>?_);refine wpAny_Slice (bj (hl aU s1 σ H1 _ I1 q1) λvl s2 ⟨l,H2,I2,pl,q2⟩=>bj (hu aU s2 σ H2 _ I2 q2) λvu s3 ⟨u,H3,I3,pu,q3⟩=>?_);rw[evalPart_none];refine aq ?_;have I4:Inv X aU σ H3 { s3 with heap:=s3.heap.push { cls:=.type "slice",data:=.fields #[vl,vu,.none] } }:=I3.kept (t':=s3.toks) λb ob q=>dt _ q;obtain⟨T,id,hT,ht,hg⟩:=hr aU { s3 with heap:=s3.heap.push { cls:=.type "slice",data:=.fields #[vl,vu,.none] } } σ H3 x v vl vu l u s3.heap.objs.size Q I4 r1 (Heap.IsSliceOf.new ..) pl pu q3;show wpAny (model X.prog X.w) X.A (subscriptTail e (.Slice lo hi none p2) v (.ref s3.heap.objs.size)) (EP X aU σ Q) X.xe { s3 with heap:=s3.heap.push { cls:=.type "slice",data:=.fields #[vl,vu,.none] } };exact tail_any (ops:=[.ref s3.heap.objs.size,v]) ht hT hg (by with_unfolding_all rfl)
noncomputable def iR(xs:List V)(lo hi:Option Int):List V:=(xs.drop (HT.cY xs.length 0 lo)).take (HT.cY xs.length xs.length hi-HT.cY xs.length 0 lo)
theorem Ph(xs:List V)(lo hi:Option Int):(iR xs lo hi).length<=xs.length:=by
 unfold iR;rw[gy,jW];lia
def Z2(K:Frag):V->Option Int->Option Int->Hp->VK->Prop:=λx lo hi H Q=>∃a xs,x=.ref a/\bq K H a xs/\
 ¬(HT.cY xs.length 0 lo=0/\HT.cY xs.length xs.length hi=xs.length)/\∀p,H p=none->Q (.ref p) (upd H p (.tup (iR xs lo hi)))
theorem Z3:ya X (Z2 X.K):=by
 intro aU s σ H x v vl vu lo hi sl Q I rx hs pl pu h;obtain⟨a,xs,rfl,hx,hw,q⟩:=h;cases rx;obtain⟨its,r,ht,hz⟩:=I.tuple hx;have cB:its.toArray.size=xs.length:=by rw[eK];exact r.length.symm
 refine⟨"tuple",_,CV.lookup,ht.typeIs,?_⟩;refine HT.Z1 ht hs pl pu (by rw[cB];exact hw) ?_ (by rw[cB];exact hz);rw[cB];refine⟨.ref s.heap.objs.size,_,I.laid (t':=s.toks) (o:=.tup (iR xs lo hi)) (λb ob q=>dt _ q) (cn _) ?_,rf,q _ (I.cq.fresh (cn _))⟩;exact⟨gn (Ph xs lo hi) hz,_,(r.drop (HT.cY xs.length 0 lo)).take (HT.cY xs.length xs.length hi-HT.cY xs.length 0 lo),pE.new _ _⟩
def Z4(K:Frag):R2:=λx y H Q=>∃a b xs ys,x=.ref a/\y=.ref b/\bq K H a xs/\bq K H b ys/\xs≠[]/\xs.length+ys.length<=sizeLine/\
 (ys=[]->Q (.ref a) H)/\(ys≠[]->∀p,H p=none->Q (.ref p) (upd H p (.tup (xs++ys))))
theorem Vals.Dz{xs:List V}{us:List Value}(r:Vals xs us):us=[]↔xs=[]:=by
 cases r with
 |nil=>simp
 |cons _ _=>simp
theorem Z5:gQ X (binaryOp .Add) (Z4 X.K):=by
 intro aU s σ H x y v u Q I rx ry h;obtain⟨a,b,xs,ys,rfl,rfl,ha,hb,hx,hz,q1,q2⟩:=h;cases rx;cases ry;obtain⟨its,r1,p1,_⟩:=I.tuple ha;obtain⟨yd,r2,p2,_⟩:=I.tuple hb;refine HT.ZW p1 p2 (λz=>hx (r1.Dz.mp z)) (λz=>⟨.ref a,H,I,rf,q1 (r2.Dz.mp z)⟩) (λz=>?_) (by rw[<- r1.length,<- r2.length];exact hz);refine⟨.ref s.heap.objs.size,_,I.laid (t':=s.toks) (o:=.tup (xs++ys)) (λb ob q=>dt _ q) (cn _) ?_,rf,q2 (λw=>z (r2.Dz.mpr w)) _ (I.cq.fresh (cn _))⟩;exact⟨by rw[cm];exact hz,_,r1.append r2,pE.new _ _⟩
end
noncomputable def oQ(n:Nat)(i:Int):Option Nat:=if 0<=i then(if i<n then some i.toNat else none)else if -(n:Int)<=i then some (i+n).toNat else none
noncomputable def sx(xs:List α)(i:Int):Option α:=(oQ xs.length i).bind λj=>xs[j]?
theorem Pj{i:Int}{j:Nat}(h:oQ n i=some j):seqIndex? i n=some j/\j<n/\-(n:Int)<=i/\i<n:=by
 unfold oQ at h;by_cases h0:0<=i
 ·rw[af h0]at h;by_cases h1:i<n
  ·rw[af h1]at h;have e:i.toNat=j:=dq h;exact⟨by rw[seqIndex_of h0 h1,e],by lia,by lia,h1⟩
  ·rw[ag h1]at h;cases h
 ·rw[ag h0]at h;by_cases h1:-(n:Int)<=i
  ·rw[af h1]at h;have e:(i+n).toNat=j:=dq h;exact⟨by rw[seqIndex_neg (by lia) h1,e],by lia,h1,by lia⟩
  ·rw[ag h1]at h;cases h
theorem Pk{xs:List α}{i:Int}{v:α}(h:sx xs i=some v):∃j,seqIndex? i xs.length=some j/\xs[j]?=some v/\j<xs.length/\-(xs.length:Int)<=i/\i<xs.length:=by
 unfold sx at h;cases e:oQ xs.length i with
 |none=>rw[e]at h;cases h
 |some j=>
  rw[e]at h;obtain⟨h1,h2,h3,h4⟩:=Pj e;exact⟨j,h1,h,h2,h3,h4⟩
theorem bX{xs:List α}{j:Nat}{v:α}(h:xs[j]?=some v):sx xs (j:Int)=some v:=by
 have hj:j<xs.length:=(dC.mp h).1;have e:oQ xs.length (j:Int)=some j:=by
  unfold oQ;rw[af (by lia),af (by lia)];simp
 unfold sx;rw[e];exact h
theorem Pl(xs:List α)(v:α):sx (xs++[v]) (-1)=some v:=by
 have hl:(xs++[v]).length=xs.length+1:=by simp
 have e:oQ (xs++[v]).length (-1)=some xs.length:=by
  unfold oQ;rw[hl,ag (by decide),af (by lia)]
  congr 1
  lia
 unfold sx;rw[e];show(xs++[v])[xs.length]?=some v;simp
def Z6(b:Expr):Prop:=∀o i,subscripted b false o i=operate [o,i] (getItem o i)
def Az(X:Cx)(r:R2):Prop:=
 ∀(value slice:Expr)(aU:List (Addr×Obj))(s:Shared)(σ:St)(H:Hp)(x y:V)(v u:Value)(Q:VK),Inv X aU σ H s->RelV x v->RelV y u->r x y H Q->
  subscripted slice false v u=operate [v,u] (getItem v u)->wpAny (model X.prog X.w) X.A (subscriptTail value slice v u) (EP X aU σ Q) X.xe s
def Pm(X:Cx)(id:String)(r:V->List V->Hp->VK->Prop):Prop:=
 ∀(aU:List (Addr×Obj))(s:Shared)(σ:St)(H:Hp)(x:V)(xs:List V)(v:Value)(us:List Value)(Q:VK),Inv X aU σ H s->RelV x v->Vals xs us->r x xs H Q->
  wpAny (model X.prog X.w) X.A (call (.builtin id) (v::us)) (EP X aU σ Q) X.xe s
section
variable{X:Cx}{a b:Expr}{ta tb:TE}{pos:Pos}
theorem br{r:R2}(hr:Az X r)(ha:PE X a ta)(hb:PE X b tb)(hs:Z6 b:=by exact λ_ _=>rf):PE X (.Subscript a b pos) (cO r ta tb):=by
 intro aU s σ H Q I h;exact Subscript_ (HP ha hb I h λv u s2 x y H2 I2 rx ry q=>hr a b aU s2 σ H2 x y v u Q I2 rx ry q (hs _ _))
def sE(K:Frag):R2:=λx y H Q=>∃p xs i v,x=.ref p/\y=.int i/\dQ K H p xs/\sx xs i=some v/\Q v H
def sH(K:Frag):R2:=λx y H Q=>∃p xs i v,x=.ref p/\y=.int i/\bq K H p xs/\sx xs i=some v/\Q v H
theorem Z7:Az X (sE X.K):=by
 intro value slice aU s σ H x y v u Q I rx ry h hs;obtain⟨p,xs,i,z,rfl,rfl,hq,he,q⟩:=h;cases rx;obtain⟨t,rfl⟩:=ry;obtain⟨its,r,pl,hz⟩:=I.list hq;obtain⟨j,h1,h2,h3,h4,h5⟩:=Pk he;obtain⟨w,ew,rw'⟩:=r.get h2;have hl:=r.length;have hn:=As;have fin:EP X aU σ Q w s:=⟨z,H,I,rw',q⟩;by_cases h0:0<=i
 ·have hj:i.toNat=j:=by
   rw[seqIndex_of h0 h5]at h1;exact dq h1
  exact item_listR pl.isList h0 (by lia) (by rw[hj];simpa using ew) fin hs
 ·have hj:(i+(its.toArray.size:Int)).toNat=j:=by
   rw[seqIndex_neg (by lia) h4]at h1;rw[eK,<- hl];exact dq h1
  exact subscriptTail_builtinR (x:=w) pl.isList.typeIs slot_list_getitem.lookup
   (wpAny_getItem_list_neg (Q:=λr s'=>r=w/\EP X aU σ Q r s') pl.isList (by lia) (by rw[eK]<;>lia) (by lia) (by rw[hj];simpa using ew) ⟨rfl,fin⟩) hs
theorem Z8:Az X (sH X.K):=by
 intro value slice aU s σ H x y v u Q I rx ry h hs;obtain⟨p,xs,i,z,rfl,rfl,hq,he,q⟩:=h;cases rx;obtain⟨t,rfl⟩:=ry;obtain⟨its,r,pl,hz⟩:=I.tuple hq;obtain⟨j,h1,h2,h3,h4,h5⟩:=Pk he;obtain⟨w,ew,rw'⟩:=r.get h2;have hl:=r.length;have hn:=As;have fin:EP X aU σ Q w s:=⟨z,H,I,rw',q⟩;exact subscriptTail_builtinR (x:=w) pl.typeIs slot_tuple_getitem.lookup
  (getItem_tuple (j:=j) (Q:=λr s'=>r=w/\EP X aU σ Q r s') pl (by lia) (by lia) (by rw[eK,<- hl];exact h1) (by simpa using ew) ⟨rf,fin⟩) hs
theorem Z9(its:List Value)(n j:Nat)(u:Value):Obj.mapSeq (·.setIfInBounds j u) { cls:=.type "list",data:=.seq its.toArray n }={ cls:=.type "list",data:=.seq (its.set j u).toArray n }:=by
 simp[Obj.mapSeq]
theorem Inv.lst{aU:List (Addr×Obj)}{σ:St}{H:Hp}{s:Shared}{p:Addr}{xs:List V}(I:Inv X aU σ H s)(h:H p=some (.lst xs)) :
  ∃(its:List Value)(n:Nat),Vals xs its/\s.heap.get? p=some { cls:=.type "list",data:=.seq its.toArray n }/\xs.length<=sizeLine:=by
 obtain⟨z,its,n,r,e⟩:=I.cq p _ h;exact⟨its,n,r,e,z⟩
theorem Inv.aaa{aU:List (Addr×Obj)}{σ:St}{H:Hp}{p:Addr}{xs ys:List V}{its':List Value}{n':Nat}{f:Obj->Obj}(I:Inv X aU σ H s)(h:H p=some (.lst xs))
  (ho:s.heap.get? p=some { cls:=.type "list",data:=.seq its.toArray n }) (hf:f { cls:=.type "list",data:=.seq its.toArray n }={ cls:=.type "list",data:=.seq its'.toArray n' }) (r:Vals ys its') (hz:ys.length<=sizeLine) (t:Nat) :
  Inv X aU σ (upd H p (.lst ys)) { s with heap:=s.heap.update p f,toks:=t }:=by
 have e:(s.heap.update p f).get? p=some { cls:=.type "list",data:=.seq its'.toArray n' }:=by
  rw[qy f ho (by rw[hf]<;>rfl),hf]
 refine I.write (x:=p) (e:=p) (by rw[h];trivial) (.inl rfl) (λb u hb q=>(CW _ _ (Ne.symm hb)).trans q) ⟨_,e⟩ ?_;exact⟨hz,its',n',r,e⟩
def aab:V->V->V->Hp->(Hp->Prop)->Prop:=λo i v H Q=>∃p xs k j,o=.ref p/\i=.int k/\H p=some (.lst xs)/\oQ xs.length k=some j/\Q (upd H p (.lst (xs.set j v)))
theorem yf:OT X aab:=by
 intro aU s σ H o i v ov iv u Q I ro ri rv h;obtain⟨p,xs,k,j,rfl,rfl,hp,hj,q⟩:=h;cases ro;obtain⟨t,rfl⟩:=ri;obtain⟨its,n,r,ho,hz⟩:=I.lst hp;obtain⟨h1,h2,h3,h4⟩:=Pj hj;have hl:=r.length;have hn:=As;have I':Inv X aU σ (upd H p (.lst (xs.set j v))) { s with heap:=s.heap.update p (Obj.mapSeq (·.setIfInBounds j u)) }:=
  I.aaa hp ho (Z9 its n j u) (r.set rv j) (by rw[List.length_set];exact hz) s.toks
 by_cases h0:0<=k
 ·have hk:k.toNat=j:=by
   rw[seqIndex_of h0 h4]at h1;exact dq h1
  exact PySem.W.ki_setAt ho h0 (by lia) (by rw[eK,<- hl];exact h4) (by rw[hk];exact⟨_,I',q⟩)
 ·have hk:(k+(its.toArray.size:Int)).toNat=j:=by
   rw[seqIndex_neg (by lia) h3]at h1;rw[eK,<- hl];exact dq h1
  exact PySem.W.ki_setBack ho (by lia) (by rw[eK,<- hl];exact h3) (by lia) (by rw[hk];exact⟨_,I',q⟩)
theorem aac(lo hi:Option Int)(n:Nat):(sliceBounds lo hi none n).1=((HT.cY n 0 lo:Nat):Int)/\(sliceBounds lo hi none n).2.1=((HT.cY n n hi:Nat):Int)/\(sliceBounds lo hi none n).2.2=1:=by
 refine⟨?_,?_,rf⟩
 ·cases lo with
  |none=>simp[sliceBounds,HT.cY]
  |some i=>
   simp only[sliceBounds,HT.cY,Option.getD_none,show(1:Int)>0 by decide,if_true];by_cases h:i<0
   ·simp only[h,if_true]<;>lia
   ·simp only[h,if_false]<;>lia
 ·cases hi with
  |none=>simp[sliceBounds,HT.cY]
  |some i=>
   simp only[sliceBounds,HT.cY,Option.getD_none,show(1:Int)>0 by decide,if_true];by_cases h:i<0
   ·simp only[h,if_true]<;>lia
   ·simp only[h,if_false]<;>lia
theorem aad(its:List Value)(lo hi:Option Int):slicePick its.toArray lo hi none=((its.drop (HT.cY its.length 0 lo)).take (HT.cY its.length its.length hi-HT.cY its.length 0 lo)).toArray:=by
 obtain⟨h1,h2,h3⟩:=aac lo hi its.toArray.size;unfold slicePick;rw[h1,h2,h3];simp only[sliceRange_one,pick_run,eK]<;>rfl
def Ib(K:Frag):V->Option Int->Option Int->Hp->VK->Prop:=λx lo hi H Q=>∃a xs,x=.ref a/\dQ K H a xs/\∀p,H p=none->Q (.ref p) (upd H p (.lst (iR xs lo hi)))
theorem aae:ya X (Ib X.K):=by
 intro aU s σ H x v vl vu lo hi sl Q I rx hs pl pu h;obtain⟨a,xs,rfl,hx,q⟩:=h;cases rx;obtain⟨its,r,ht,hz⟩:=I.list hx;have cB:=r.length;refine⟨"list",_,slot_list_getitem.lookup,ht.isList.typeIs,?_⟩;refine wpAny_getItem_list_slice ht.isList hs pl pu .none (by simp) ?_ (by rw[eK]<;>lia)
 rw[aad,<- cB];refine⟨.ref s.heap.objs.size,_,I.laid (t':=s.toks) (o:=.lst (iR xs lo hi)) (λb ob q=>dt _ q) (cn _) ?_,rf,q _ (I.cq.fresh (cn _))⟩;exact⟨gn (Ph xs lo hi) hz,_,0,(r.drop (HT.cY xs.length 0 lo)).take (HT.cY xs.length xs.length hi-HT.cY xs.length 0 lo),fi _ rf⟩
noncomputable def qO:V->Bool
 | .df=>true
 | .bl _=>true
 | .int _=>true
 | .str _=>true
 |_=>false
noncomputable def lU:V->V->Bool
 | .df,.df=>true
 | .bl a,.bl b=>a==b
 | .bl a,.int b=>(if a then 1 else 0)==b
 | .int a,.bl b=>a==(if b then 1 else 0)
 | .int a,.int b=>a==b
 | .str a,.str b=>a==b
 |_,_=>false
theorem aaf{A:Around}{y:V}{u v:Value}(ry:RelV y u)(rx:RelV x v)(fy:qO y=true)(fx:qO x=true):SeqAt.EqAt A s u v (lU y x):=by
 cases y with
 |df=>
  cases ry;cases x with
  |df=>cases rx;exact SeqAt.EqAt.same _
  |bl b=>cases rx;exact SeqAt.EqAt.none_bool b
  |int b=>obtain⟨t,rfl⟩:=rx;exact SeqAt.EqAt.none_int b t
  |str b=>obtain⟨t,rfl⟩:=rx;exact SeqAt.EqAt.none_str b t
  |_=>exact absurd (show false=true from fx) iJ
 |bl a=>
  cases ry;cases x with
  |df=>cases rx;exact SeqAt.EqAt.bool_none a
  |bl b=>cases rx;exact SeqAt.EqAt.bool_bool a b
  |int b=>obtain⟨t,rfl⟩:=rx;exact SeqAt.EqAt.bool_int a b t
  |str b=>obtain⟨t,rfl⟩:=rx;exact SeqAt.EqAt.bool_str a b t
  |_=>exact absurd (show false=true from fx) iJ
 |int a=>
  obtain⟨t',rfl⟩:=ry;cases x with
  |df=>cases rx;exact SeqAt.EqAt.int_none a t'
  |bl b=>cases rx;exact SeqAt.EqAt.int_bool a t' b
  |int b=>obtain⟨t,rfl⟩:=rx;exact SeqAt.EqAt.int_int a t' b t
  |str b=>obtain⟨t,rfl⟩:=rx;exact SeqAt.EqAt.int_str a t' b t
  |_=>exact absurd (show false=true from fx) iJ
 |str a=>
  obtain⟨t',rfl⟩:=ry;cases x with
  |df=>cases rx;exact SeqAt.EqAt.str_none a t'
  |bl b=>cases rx;exact SeqAt.EqAt.str_bool a t' b
  |int b=>obtain⟨t,rfl⟩:=rx;exact SeqAt.EqAt.str_int a t' b t
  |str b=>obtain⟨t,rfl⟩:=rx;exact SeqAt.EqAt.str_str a t' b t
  |_=>exact absurd (show false=true from fx) iJ
 |_=>exact absurd (show false=true from fy) iJ
noncomputable def sI(x:V)(u:Value):Bool:=match u with
 | .none=>lU .df x
 | .bool b=>lU (.bl b) x
 | .int i _=>lU (.int i) x
 | .str z _=>lU (.str z) x
 |_=>false
theorem Pn{y:V}{u:Value}(r:RelV y u)(f:qO y=true):sI x u=lU y x:=by
 cases y with
 |df=>cases r;rfl
 |bl b=>cases r;rfl
 |int i=>obtain⟨t,rfl⟩:=r;rfl
 |str z=>obtain⟨t,rfl⟩:=r;rfl
 |_=>exact absurd (show false=true from f) iJ
theorem Ic{x:V}:∀{xs:List V}{us:List Value},Vals xs us->xs.all qO=true->us.any (sI x)=xs.any λy=>lU y x
 |_,_,.nil,_=>rfl
 |y::xs,u::us,.cons r t,f=>by
  rw[List.all_cons,gM]at f;rw[List.any_cons,List.any_cons,Pn r f.1,Ic t f.2]
theorem Ie{A:Around}{s:Shared}{x:V}{v:Value}(rx:RelV x v)(fx:qO x=true):∀{xs:List V}{us:List Value},Vals xs us->xs.all qO=true->∀u∈us,SeqAt.EqAt A s u v (sI x u)
 |_,_,.nil,_=>λu hu=>by cases hu
 |y::xs,u::us,.cons r t,f=>λu' hu=>by
  rw[List.all_cons,gM]at f;rcases cV.mp hu with rfl|hu
  ·rw[Pn r f.1];exact aaf r rx f.1 fx
  ·exact Ie rx fx t f.2 u' hu
noncomputable def qP(x:V)(xs:List V):Bool:=xs.any λy=>lU y x
def Po(K:Frag)(neg:Bool):R2:=λx y H Q=>∃p xs,y=.ref p/\(dQ K H p xs\/bq K H p xs)/\qO x=true/\xs.all qO=true/\Q (.bl (if neg then !qP x xs else qP x xs)) H
theorem aag:gQ X (compareOp .In) (Po X.K false):=by
 intro aU s σ H x y v u Q I rx ry h;obtain⟨p,xs,rfl,hq,fx,fs,q⟩:=h;cases ry;rcases hq with hq|hq
 ·obtain⟨its,r,pl,hz⟩:=I.list hq;refine SeqAt.in_listAt (sI x) pl.isList (λw hw=>Ie rx fx r fs w (by simpa using hw)) ⟨.bl _,H,I,rf,?_⟩;rw[show its.toArray.any (sI x)=its.any (sI x) by simp,Ic r fs];exact q
 ·obtain⟨its,r,pl,hz⟩:=I.tuple hq;refine SeqAt.in_tupleAt (sI x) pl (λw hw=>Ie rx fx r fs w (by simpa using hw)) ⟨.bl _,H,I,rf,?_⟩;rw[show its.toArray.any (sI x)=its.any (sI x) by simp,Ic r fs];exact q
theorem aah:ib X (.builtin "len") (λxs H Q=>∃p ys,xs=[.ref p]/\(dQ X.K H p ys\/bq X.K H p ys)/\Q (.int ys.length) H):=by
 intro aU s σ H xs us Q I r h;obtain⟨p,ys,rfl,hq,q⟩:=h;obtain⟨u,rfl,rx⟩:=vals1 r;cases rx;have hn:=As;rcases hq with hq|hq
 ·obtain⟨its,r',pl,hz⟩:=I.list hq;have cB:=r'.length;exact Calls.call_len_list pl.isList (by simp only[eK]<;>lia) ⟨.int ys.length,H,I.tok _,⟨s.toks+1,by rw[eK,cB]⟩,q⟩
 ·obtain⟨its,r',pl,hz⟩:=I.tuple hq;have cB:=r'.length;exact len_tuple pl (by simp only[eK]<;>lia) ⟨.int ys.length,H,I.tok _,⟨s.toks+1,by rw[eK,cB]⟩,q⟩
theorem aai:ib X (.type "list") (λxs H Q=>∃p ys,xs=[.ref p]/\(dQ X.K H p ys\/bq X.K H p ys)/\∀l,H l=none->Q (.ref l) (upd H l (.lst ys))):=by
 intro aU s σ H xs us Q I r h;obtain⟨p,ys,rfl,hq,q⟩:=h;obtain⟨u,rfl,rx⟩:=vals1 r;cases rx;have fin:∀(its:List Value),Vals ys its->ys.length<=sizeLine->∀(h':Heap)(c':Nat),(∀b o',s.heap.get? b=some o'->h'.get? b=some o')->
   h'.get? s.heap.objs.size=some { cls:=.type "list",dict:=none,data:=.seq its.toArray c',slots:=#[] }->EP X aU σ Q (.ref s.heap.objs.size) { s with heap:=h' }:=λits r' hz h' c' kp e=>
  ⟨.ref s.heap.objs.size,_,I.laid (t':=s.toks) kp (cn _) (show gP X.prog X.w _ h' _ (.lst ys) from⟨hz,its,c',r',e⟩),rfl,q _ (I.cq.fresh (cn _))⟩
 rcases hq with hq|hq
 ·obtain⟨its,r',pl,hz⟩:=I.list hq;have cB:=r'.length;obtain⟨o,ho,hc,n,hd⟩:=pl.isList;exact call_list_seq p (.inl rf) ho hc hd (λh' c' kp e=>fin its r' hz h' c' kp e) (by simp only[eK]<;>lia)
 ·obtain⟨its,r',pl,hz⟩:=I.tuple hq;have cB:=r'.length;obtain⟨o,ho,hc,n,hd⟩:=pl;exact call_list_seq p (.inr rf) ho hc hd (λh' c' kp e=>fin its r' hz h' c' kp e) (by simp only[eK]<;>lia)
theorem aaj:ib X (.type "tuple") (λxs H Q=>∃p ys,xs=[.ref p]/\((dQ X.K H p ys/\∀l,H l=none->Q (.ref l) (upd H l (.tup ys)))\/(bq X.K H p ys/\Q (.ref p) H))):=by
 intro aU s σ H xs us Q I r h;obtain⟨p,ys,rfl,h⟩:=h;obtain⟨u,rfl,rx⟩:=vals1 r;cases rx;rcases h with⟨hq,q⟩|⟨hq,q⟩
 ·obtain⟨its,r',pl,hz⟩:=I.list hq;have cB:=r'.length;refine call_tuple_list pl.isList (λh' kp=>?_) (by simp only[eK]<;>lia)
  have I1:Inv X aU σ H { s with heap:=h' }:=I.kept (t':=s.toks) kp;have I2:Inv X aU σ (upd H h'.objs.size (.tup ys)) { s with heap:=h'.push { cls:=.type "tuple",data:=.seq its.toArray } }:=
   I1.laid (t':=s.toks) (λb o e=>dt _ e) (cn _) (show gP X.prog X.w _ _ _ (.tup ys) from⟨hz,its,r',pE.new _ _⟩)
  exact⟨.ref h'.objs.size,_,I2,rf,q _ (I1.cq.fresh (cn _))⟩
 ·obtain⟨its,r',pl,hz⟩:=I.tuple hq;exact call_tuple_same pl ⟨.ref p,H,I,rf,q⟩
def Ig(K:Frag)(T:String)(x:V)(H:Hp):Prop:=match x with
 | .str _=>T="str"
 | .int _=>T="int"
 | .ref p=>(T="list"/\∃xs,dQ K H p xs)\/(T="tuple"/\∃o,K.lookup p=some o/\o.cls=.type "tuple"/\o.dict=none) \/
   (T="dict"/\((∃kvs,H p=some (.dK kvs))\/∃kvs,H p=some (.dT kvs)))\/(T="set"/\∃S n,H p=some (.set S n))
 |_=>False
theorem Pp{aU:List (Addr×Obj)}{σ:St}{H:Hp}{T:String}{v:Value}(I:Inv X aU σ H s)(r:RelV x v)(ty:Ig X.K T x H) :
  s.TypeIs v T/\∀a,v=.ref a->∃ob,s.heap.get? a=some ob/\ob.dict=none:=by
 cases x with
 |str z=>
  obtain⟨t,rfl⟩:=r;cases(show T="str" from ty)
  exact⟨typeIs_str s z t,λ_ e=>nomatch e⟩
 |int i=>
  obtain⟨t,rfl⟩:=r;cases(show T="int" from ty)
  exact⟨typeIs_int s i t,λ_ e=>nomatch e⟩
 |ref p=>
  cases r;rcases ty with⟨rfl,xs,hq⟩|⟨rfl,o,hk,hc,hd⟩|⟨rfl,hk⟩|⟨rfl,S,n,hk⟩
  ·obtain⟨its,_,pl,_⟩:=I.list hq;refine⟨pl.isList.typeIs,λa e=>?_⟩;cases e;obtain⟨o,n,e,c,hd,_⟩:=pl;exact⟨o,e,hd⟩
  ·refine⟨⟨o,I.iC p o hk,hc⟩,λa e=>?_⟩;cases e;exact⟨o,I.iC _ o hk,hd⟩
  ·have z:∃o,s.heap.get? p=some o/\o.ExactDict:=by
    rcases hk with⟨kvs,hk⟩|⟨kvs,hk⟩
    ·obtain⟨_,_,_,_,o,_,_,e,ex,_⟩:=I.cq p _ hk;exact⟨o,e,ex⟩
    ·obtain⟨_,_,_,_,o,_,_,e,ex,_⟩:=I.cq p _ hk;exact⟨o,e,ex⟩
   obtain⟨o,e,ex⟩:=z;refine⟨⟨o,e,ex.1⟩,λa e2=>?_⟩;cases e2;exact⟨o,e,ex.2.1⟩
  ·obtain⟨o,_,_,_,e,ex,_⟩:=I.cq p _ hk;refine⟨⟨o,e,ex.1⟩,λa e2=>?_⟩;cases e2;exact⟨o,e,ex.2.1⟩
 |_=>exact False.elim ty
def DA(K:Frag)(T:String)(r:V->List V->Hp->VK->Prop)(to:TE):TE:=λσ H Q=>to σ H λx H1=>Ig K T x H1/\r x [] H1 Q
def AA(K:Frag)(T:String)(r:V->List V->Hp->VK->Prop)(to:TE)(t:TA):TE:=λσ H Q=>to σ H λx H1=>Ig K T x H1/\t σ H1 λxs H2=>r x xs H2 Q
variable{o e:Expr}{es:List Expr}{to:TE}{t:TA}{name:Str}{jy iE:Pos}{T id:String}{r:V->List V->Hp->VK->Prop}
theorem DB(pa:PlainAttrs T)(slot:Slot T name id)(Ih:typeOf (.builtin id)=pure (.type "method_descriptor"))(hm:Pm X id r)(ho:PE X o to)
  (AB:attributeBase o name X.env (eval o X.env)=eval o X.env:=by rfl) (AD:(jy.endLine==iE.line)=true:=by rfl):PE X (.Call (.Attribute o name jy) [] [] iE) (DA X.K T r to):=by
 intro aU s σ H Q I h;refine wpAny_Call_method0_late AB AD (bj (ho aU s σ H _ I h) λv s1 ⟨x,H1,I1,r1,ty,q1⟩=>?_);obtain⟨h1,h2⟩:=Pp I1 r1 ty;exact⟨T,id,pa,slot,Ih,h1,h2,Calls.callWith_builtin rf (PySem.evalArgs_none (hm aU s1 σ H1 x [] v [] Q I1 r1 .nil q1))⟩
theorem qQ(pa:PlainAttrs T)(slot:Slot T name id)(Ih:typeOf (.builtin id)=pure (.type "method_descriptor"))(hm:Pm X id r)(ho:PE X o to)(ha:PA X (e::es) t)
  (AB:attributeBase o name X.env (eval o X.env)=eval o X.env:=by rfl)
  (Ii:((backTo iE (starEach (e::es) X.env)).all (λx=>!x.1)&&(backToKw iE (keywordEach [] X.env)).all (λx=>x.1.isSome)
   && decide ((e::es).length+([]:List Keyword).length+(if([]:List Keyword).isEmpty then 0 else 1)<30))=true:=by rfl)
  (AD:(jy.endLine==iE.line)=true:=by rfl) (hs:starEach (e::es) X.env=(false,eval e X.env)::starEach es X.env:=by rfl) (aak:(backTo iE (starEach es X.env)).any (·.1)=false:=by rfl) :
  PE X (.Call (.Attribute o name jy) (e::es) [] iE) (AA X.K T r to t):=by
 intro aU s σ H Q I h;refine wpAny_Call_method_late AB Ii AD rf (bj (ho aU s σ H _ I h) λv s1 ⟨x,H1,I1,r1,ty,q1⟩=>?_);obtain⟨h1,h2⟩:=Pp I1 r1 ty;refine⟨T,id,pa,slot,Ih,h1,h2,?_⟩;have hA:=ha iE aU s1 σ H1 _ I1 q1;rw[hs]at hA |-;refine Calls.callWith_builtin (by show(false||(backTo iE (starEach es X.env)).any (·.1))=false;rw[aak]<;>rfl) (Calls.evalArgs_plain ?_)
 exact bj hA λus s2 ⟨vs,H2,I2,r2,q2⟩=>hm aU s2 σ H2 x vs v us Q I2 r1 r2 q2
end
def Pu(X:Cx)(id:String)(r:V->List V->Hp->VK->Prop):Prop:=
 ∀(aU:List (Addr×Obj))(s:Shared)(σ:St)(H:Hp)(x:V)(xs:List V)(v:Value)(us:List Value)(Q:VK),Inv X aU σ H s->RelV x v->Vals xs us->r x xs H Q->
  wpAny (model X.prog X.w) X.A (call (.builtin id) (v::us)) (EP X aU σ Q) X.xe s
theorem Vals.one:∀{x:V}{us:List Value},Vals [x] us->∃u,us=[u]/\RelV x u
 |_,_,.cons r .nil=>⟨_,rfl,r⟩
theorem Vals.zero:∀{us:List Value},Vals [] us->us=[]
 |_,.nil=>rfl
theorem Vals.dropLast{xs:List V}{us:List Value}(h:Vals xs us):Vals xs.dropLast us.dropLast:=by
 induction h with
 |nil=>exact .nil
 |cons r t ih=>
  cases t with
  |nil=>exact .nil
  |cons q t'=>exact .cons r ih
theorem Vals.rep{xs:List V}{us:List Value}(h:Vals xs us):∀k:Nat,Vals (List.replicate k xs).flatten (List.replicate k us).flatten
 |0=>.nil
 |k+1=>by
  rw[vS,vS,CY,CY];exact Vals.append h (Vals.rep h k)
theorem aal(l:List α):l.eraseIdx (l.length-1)=l.dropLast:=by
 induction l with
 |nil=>rfl
 |cons a r ih=>
  cases r with
  |nil=>rfl
  |cons b r=>
   have e:(a::b::r).length-1=((b::r).length-1)+1:=by
    have h1:(a::b::r).length=r.length+2:=rfl;have h2:(b::r).length=r.length+1:=rfl;lia
   rw[e,List.eraseIdx_cons_succ,ih];all_goals rfl
theorem foldl_rep(its:List Value):∀(k:Nat)(acc:List Value),
  List.foldl (λx1 x2=>x1++x2) acc.toArray (List.replicate k its.toArray)=(acc++(List.replicate k its).flatten).toArray
 |0,acc=>by simp
 |k+1,acc=>by
  have e:acc.toArray++its.toArray=(acc++its).toArray:=by simp
  have e2:(acc++its)++(List.replicate k its).flatten=acc++(List.replicate (k+1) its).flatten:=by
   rw[vS,CY,i4]
  rw[<- e2,<- foldl_rep its k (acc++its),<- e,vS,List.foldl_cons]
section
variable{X:Cx}{aU:List (Addr×Obj)}{σ:St}{H:Hp}{s:Shared}{l b:Addr}{xs ys zs:List V}
theorem Inv.Pw{its':List Value}{f:Array Value->Array Value}{t':Nat}(I:Inv X aU σ H s)(hH:H l=some (.lst xs))
  (e:s.heap.get? l=some { cls:=.type "list",data:=.seq its.toArray n }) (hf:f its.toArray=its'.toArray) (hv:Vals ys its') (hz:ys.length<=sizeLine) :
  Inv X aU σ (upd H l (.lst ys)) { s with heap:=s.heap.update l (Obj.mapSeq f),toks:=t' }:=by
 have q:=PySem.IsL.update e f;rw[hf]at q;refine I.write (x:=l) (e:=l) (by rw[hH];exact trivial) (.inl rf) (λb' u hb hu=>(CW s.heap (Obj.mapSeq f) (Ne.symm hb)).trans hu) ⟨_,q⟩ ?_;exact⟨hz,its',_,hv,q⟩
theorem Inv.Px{t':Nat}(I:Inv X aU σ H s)(hv:Vals ys its)(hz:ys.length<=sizeLine) :
  Inv X aU σ (upd H s.heap.objs.size (.lst ys)) { s with heap:=s.heap.push { cls:=.type "list",data:=.seq its.toArray },toks:=t' }:=
 I.laid (λ_ _ q=>dt _ q) (cn _) ⟨hz,its,0,hv,fi _ rfl⟩
theorem Inv.fresh(I:Inv X aU σ H s):H s.heap.objs.size=none:=I.cq.fresh (cn _)
theorem Inv.AE(I:Inv X aU σ H s)(hH:H l=some (.lst xs)):xs.length<=sizeLine/\∃(its:List Value)(n:Nat),Vals xs its/\xs.length=its.length/\s.heap.get? l=some { cls:=.type "list",data:=.seq its.toArray n }:=by
 obtain⟨z,its,n,r,e⟩:=I.cq l _ hH;exact⟨z,its,n,r,r.length,e⟩
theorem aam(h:n<=sizeLine):Builtin.List.listTooLong n=false:=by
 unfold Builtin.List.listTooLong;exact ae (by lia)
end
section
variable{X:Cx}
def yh:V->List V->Hp->VK->Prop:=λx vs H Q=>∃l xs y,x=.ref l/\vs=[y]/\H l=some (.lst xs)/\xs.length<sizeLine/\Q .df (upd H l (.lst (xs++[y])))
theorem qR:Pu X "list.append" yh:=by
 intro aU s σ H x vs v us Q I rx rv h;obtain⟨l,xs,y,rfl,rfl,hH,hz,q⟩:=h;cases rx;obtain⟨u,rfl,ru⟩:=rv.one;obtain⟨z,its,n,r,hl,e⟩:=I.AE hH;refine call_meets F.slot_list_append ⟨_,e,rf⟩ F.entry_list_append (F.args_list_append_2 _ _) (PySem.list_append l its.toArray n u (by rw[eK];lia)) ⟨e,?_⟩;refine⟨.df,_,I.Pw (its':=its++[u]) hH e (by simp) (r.append (.cons ru .nil)) ?_,rf,q⟩;rw[cm,List.length_singleton];lia
def DC:V->List V->Hp->VK->Prop:=λx vs H Q=>∃l xs y,x=.ref l/\vs=[]/\H l=some (.lst xs)/\xs[xs.length-1]?=some y/\Q y (upd H l (.lst xs.dropLast))
theorem DD:Pu X "list.pop" DC:=by
 intro aU s σ H x vs v us Q I rx rv h;obtain⟨l,xs,y,rfl,rfl,hH,hy,q⟩:=h;cases rx;have hus:=rv.zero;subst hus;obtain⟨z,its,n,r,hl,e⟩:=I.AE hH;obtain⟨u,hu,ru⟩:=r.get hy;have DE:its.toArray[its.toArray.size-1]?=some u:=by
  show its.toArray[its.length-1]?=some u;rw[<- Hs,<- hl];exact hu
 refine call_meets F.slot_list_pop ⟨_,e,rf⟩ F.entry_list_pop (F.args_list_pop_1 _) (MeetsSeq.list_pop_last l its.toArray n u DE (by rw[eK];lia)) ⟨e,?_⟩;refine⟨y,_,I.Pw (its':=its.dropLast) hH e ?_ r.dropLast ?_,ru,q⟩
 ·show its.toArray.eraseIdxIfInBounds (its.toArray.size-1)=its.dropLast.toArray;rw[eK,List.eraseIdxIfInBounds_toArray,aal]
 ·rw[List.length_dropLast];lia
def uG:R2:=λx y H Q=>∃l b xs zs,x=.ref l/\y=.ref b/\H l=some (.lst xs)/\H b=some (.lst zs)/\xs.length+zs.length<=sizeLine/\∀p,H p=none->Q (.ref p) (upd H p (.lst (xs++zs)))
theorem mR:gQ X (binaryOp .Add) uG:=by
 intro aU s σ H x y v u Q I rx ry h;obtain⟨l,b,xs,zs,rfl,rfl,hH,hB,hz,q⟩:=h;cases rx;cases ry;obtain⟨z,its,n,r,hl,e⟩:=I.AE hH;obtain⟨z2,yd,n2,r2,jm,e2⟩:=I.AE hB;refine PySem.P.add_list e e2 ?_ (by rw[eK,eK];lia);have ea:its.toArray++yd.toArray=(its++yd).toArray:=by simp
 rw[ea];exact⟨.ref _,_,I.Px (t':=s.toks) (r.append r2) (by rw[cm];lia),rfl,q _ I.fresh⟩
def aan:R2:=λx y H Q=>∃l k xs,x=.ref l/\y=.int k/\H l=some (.lst xs)/\-(2^63)<=k/\k<2^63/\xs.length*k.toNat<=sizeLine/\
 ∀p,H p=none->Q (.ref p) (upd H p (.lst (List.replicate k.toNat xs).flatten))
theorem Py(xs:List α)(k:Nat):(List.replicate k xs).flatten.length=k*xs.length:=by
 induction k with
 |zero=>simp
 |succ k ih=>rw[vS,CY,cm,ih,Nat.succ_mul,Nat.add_comm]
theorem Pz:gQ X (binaryOp .Mult) aan:=by
 intro aU s σ H x y v u Q I rx ry h;obtain⟨l,k,xs,rfl,rfl,hH,h1,h2,hz,q⟩:=h;cases rx;obtain⟨t,rfl⟩:=ry;obtain⟨z,its,n,r,hl,e⟩:=I.AE hH;have cB:its.toArray.size*k.toNat<=sizeLine:=by rw[eK,<- hl];exact hz
 have aao:¬its.toArray.size*k.toNat>(2^63-1)/8:=by
  have:(sizeLine:Nat)<=(2^63-1)/8:=by decide
  lia
 have Ij:¬(!Builtin.List.listFitsIndex k)=true:=by
  rw[fitsIndex_both h1 h2];exact iJ
 have aap:¬Builtin.List.listTooLong (its.toArray.size*k.toNat)=true:=by
  rw[aam cB];exact iJ
 have kr:List.foldl (λx1 x2=>x1++x2) #[] (List.replicate (if its.toArray.isEmpty=true then 0 else k.toNat) its.toArray)=(List.replicate k.toNat its).flatten.toArray:=by
  have f0:∀m:Nat,List.foldl (λx1 x2=>x1++x2) #[] (List.replicate m its.toArray)=(List.replicate m its).flatten.toArray:=λm=>by
   have:=foldl_rep its m []
   rw[jX]at this;exact this
  rw[f0];cases its with
  |nil=>simp
  |cons a r'=>rw[ag (by simp)]
 refine wpAny_binaryOp_repeat_ref (T := "list") (U := "int") (by decide) ⟨_,e,rf⟩ (λs'=>typeIs_int s' k t) noFill_list_mul F.fills_int_mul F.slot_int_rmul repeat_list F.slot_int_index.lookup
  (call_meets F.slot_int_rmul (typeIs_int s k t) F.entry_int_rmul (F.args_int_rmul_2 _ _) (int___rmul___int_list k t l its.toArray n) ⟨e,rfl,⟨_,e,rfl⟩,call_meets F.slot_list_mul ⟨_,e,rfl⟩ F.entry_list_mul (F.args_list_mul_2 _ _) (AutoListH.list___mul___list_int_3 l its.toArray n k t Ij aao aap) ⟨e,?_⟩⟩)
 rw[kr];exact⟨.ref _,_,I.Px (t':=s.toks) (r.rep k.toNat) (by rw[Py,Nat.mul_comm];exact hz),rf,q _ I.fresh⟩
end
section
variable{prog:Program}{w:World}{A:Around}{E:QV}{s:Shared}
end
section
variable{X:Cx}
end
end L2
namespace Att
open PySem PySem.W PySem.Calls PyProof.Rows
theorem aaq{P:Params}{h:Heap}:∀(ns:List Int)(vs:List Value),WellAll P h vs (ns.map WData.int)->IntsAre vs ns:=by
 intro ns;induction ns with
 |nil=>
  intro vs w;rw[rY]at w;cases w;exact .nil
 |cons n ns ih=>
  intro vs w;rw[gN]at w;cases w with
  |cons a b=>
   cases a;exact .cons _ _ (ih _ b)
theorem aar{l:OpenLaw}{n:Nat}(hn:l.most=some n){P:Params}{h:Heap}{args:List WData}{vals:List Value}
  (DG:l.row.toRowW.claim.pre args=true) (yi:WellAll P h vals args) :
  ∃a vs ns,vals=[Value.ref a]/\args=[WData.list (ns.map WData.int)]/\h.get? a=some { cls:=.type "list",data:=.seq vs.toArray }/\IntsAre vs ns/\ns.length<=n:=by
 have hsh:WShape.hasAll [] args [.list .int]=true:=(pre_splitW DG).1;have hc:l.pre.holds [] { args:=args }=true:=(pre_splitW DG).2;obtain⟨d,r,rfl,h1,h2⟩:=hasAllW_cons hsh;obtain rfl:=hasAllW_nil h2;obtain⟨xs,rfl,h3⟩:=hasW_list h1;obtain⟨ns,rfl⟩:=items_int h3;have cB:ns.length<=n:=by
  unfold OpenLaw.pre at hc;have h4:(WTm.not (.lt (.lit (.int (n:Int))) (.len (.arg 0)))).holds [] { args:=[.list (ns.map .int)] }=true:=by
   have h4:=(holds_andW hc).1;rw[hn]at h4;exact h4
  have h5:=condW_of h4 (w_not (w_lt w_lit (w_len_list (w_arg rfl))));rw[bu]at h5;refine Nat.le_of_not_lt λq=>?_;have q':(n:Int)<((ns.length:Nat):Int):=by lia
  first
   |(rw[aD q']at h5;exact absurd h5 (by decide))
   |(simp at h5;lia)
 cases yi with
 |cons w1 w2=>
  cases w2;cases w1 with
  |list ho Ik=>exact⟨_,_,ns,rf,rf,ho,aaq ns _ Ik,cB⟩
theorem aas(l:OpenLaw)(args:List WData):l.row.toRowW.claim.post args (.bool true) args=true:=
 postW_of (r:=l.row.toRowW) (X:=(true==true))
  (show WShape.has [] (.bool true) .bool=true by first|rfl|decide|simp[WShape.has,WShape.arms,WShape.armsAll])
  (show(WTm.eq .res (.lit (.bool true))).value [] { args:=args,res:=some (.bool true),after:=args }=some (.bool (true==true)) from w_eq_bool (w_res rfl) w_lit) rfl
theorem aat{l:OpenLaw}{n:Nat}{q:Program}{yj:List Str}{XP:(Str->Option Value)->Heap->Prop}{YP:World->Heap->Prop}{d:DefRec}
  (hn:l.most=some n) (wx:d.params.defaults=[])
  (call:∀(w:World)(s₀ s₁:Shared)(mg mb:Str->Option Value)(fa:Addr)(o:Obj)(pm cd doc:Value)(a:Addr)(vs:List Value)(ns:List Int),
   Ground q yj [] XP w s₀ mg mb s₁.heap->YP w s₁.heap->
   s₁.heap.get? fa=some o->o.data=.func (docDef d.name d.params d.body d.scope pm cd doc)->s₁.heap.CodeRec cd d.name->mg d.name=some (.ref fa)->
   s₁.heap.get? a=some { cls:=.type "list",data:=.seq vs.toArray }->IntsAre vs ns->ns.length<=n->s₁.gens=#[]->
   codeAny (model l.prog w) callerA (.call (.ref fa) ⟨[.ref a],[]⟩) (λr s'=>r=.ok (.ret (.bool true))/\OldK s₁.heap s'.heap/\s'.os=s₁.os/\AllBare s'.gens) s₁) :
  WalkO q yj XP YP l.row.toRowW d [] (λf vs=>PySem.call f vs):=by
 intro w s₀ s₁ mg mb G Y fa o pm cd doc dV kV ho hd jY hD hmg hg args vals as DG agh hrd yi uH;obtain rfl:dV=.none:=Dflts.none hD wx;obtain rfl:kV=.none:=Dflts.noKw hD;obtain⟨a,vs,ns,rfl,rfl,Il,hints,cB⟩:=aar hn DG yi;refine enter_call (codeAny_mono (call w s₀ s₁ mg mb fa o pm cd doc a vs ns G Y ho (fd_plain hd) jY hmg Il hints cB hg) λr s' hq=>?_);obtain⟨rfl,h2,h3,h4⟩:=hq;exact⟨.inl ⟨.bool true,.bool true,[],rf,λ_=>rf,.bool true,aas l _,λ_=>⟨List.Pairwise.nil,λ_ hm=>(nomatch hm)⟩⟩,h2,h3,h4⟩
section
variable{prog:Program}{w:World}{A:Around}{E:QV}{s:Shared}{K:Frag}
end
end Att
namespace L2
open PySem PySem.Spec PyProof.Rows
variable{A:Around}{B:Prop}{H H':Hp}{Q:QV}{X:Cx}{a c f it l p:Addr}{b:Bool}{env:Env}{es:List Expr}{fd:FuncData}{h h':Heap}{i kt n:Nat}{its:Array Value}{aU:List (Addr×Obj)}{qual x:Str}{s:Shared}{scope:Scope}{st:Stmt}{v:Value}{xs:List V}
theorem PB:∀{vs:List Value}{ns:List Int},IntsAre vs ns->Vals (ns.map V.int) vs
 |_,_,.nil=>.nil
 |_,_,.cons n t h=>.cons ⟨t,rfl⟩ (PB h)
def Im(H:Hp):Prop:=∀b,H b=none\/∃o xs,H b=some (.cT o (.lst xs))
theorem aau{P:Program}{w:World}{K:Frag}{mg mb:Str->Option Value}{CX:oO}{k:Nat}{fa:Addr}{sp:Sp}{s₁:Shared}{vs:List Value}{ns:List Int}
  (KX:K.In s₁.heap) (uI:s₁.heap.Ns mainGlobals mg) (hb:s₁.heap.Ns builtinsNs mb) (wy:∀x:Str,x ≠ "__name__"->mb x=bootBuiltins x) (aav:s₁.heap.NoLimit) (hg:s₁.gens=#[])
  (ha:s₁.heap.get? a=some { cls:=.type "list",data:=.seq vs.toArray }) (hi:IntsAre vs ns) (hl:ns.length<=sizeLine) (hr:eO k callerA)
  (F:∀base:Heap,K.In base->base.Ns mainGlobals mg->cc P w K mg base CX k fa fd [x] sp) (aaw:∀(s:Shared)(u:Value),BindsTo s fd ⟨[u],[]⟩ [(x,u)])
  (iW:∀H:Hp,Im H->dQ K H a (ns.map V.int)->sp [.ref a] H (λv _=>v=.bl true) λ_ _ _=>False)
  (Io:∀H e s',CX [] H s₁ (λ_ _ _=>False) e s'->False) :
  codeAny (model P w) callerA (.call (.ref fa) ⟨[.ref a],[]⟩) (λr s'=>r=.ok (.ret (.bool true))/\OldK s₁.heap s'.heap/\s'.os=s₁.os/\AllBare s'.gens) s₁:=by
 have rv:=PB hi;have aax:=hi.length;have core:∀H:Hp,Im H->dQ K H a (ns.map V.int)->gE P w H s₁.heap->(∀b,H b≠none->b=a)->(H a≠none->K.lookup a=none)->
   codeAny (model P w) callerA (.call (.ref fa) ⟨[.ref a],[]⟩) (λr s'=>r=.ok (.ret (.bool true))/\OldK s₁.heap s'.heap/\s'.os=s₁.os/\AllBare s'.gens) s₁:=by
  intro H hO hS cq hA hK;have PD:∀{b:Addr}{o:Obj},s₁.heap.get? b=some o->H b=none->(se s₁.heap H).get? b=some o:=λe n=>Zd e n;have Au:∀{b:Addr}{o:Obj}{es:Array DictEntry}{ep:Nat},s₁.heap.get? b=some o->o.data=.dict es ep->H b=none:=λ{b o es ep} e d=>by
   cases q:H b with
   |none=>rfl
   |some u=>
    have e':b=a:=hA b (by rw[q];simp);subst e';rw[ha]at e;cases e;have d':Data.seq vs.toArray _=Data.dict es ep:=d;cases d'
  have DH:∀{b:Addr}{m:Str->Option Value},s₁.heap.Ns b m->(se s₁.heap H).Ns b m:=λ{b m} ⟨o,es,ep,e,d,r⟩=>⟨o,es,ep,PD e (Au e d),d,r⟩;have PF:K.In (se s₁.heap H):=λb o e=>PD (KX b o e) (by
   cases q:H b with
   |none=>rfl
   |some u=>
    have e':b=a:=hA b (by rw[q];simp);subst e';rw[hK (by rw[q];simp)]at e;cases e)
  have hM:Mod K mg (se s₁.heap H):=⟨PF,DH uI,⟨mb,DH hb,wy⟩,let ⟨mc,h1,h2⟩:=aav;⟨mc,DH h1,h2⟩⟩;have e0:x6 P w K mg (se s₁.heap H) callerA [] s₁ H:=⟨rfl,hM,λb o e=>Ze e,Nat.le_of_eq (Zc _ _),trivial,λb hb=>absurd (show b∈([]:List Addr) from hb) (by simp),cq,.of_eq hg⟩
  refine codeAny_mono ((F _ PF (DH uI)).run callerA [] s₁ H ⟨[.ref a],[]⟩ [.ref a] [.ref a] _ _ hr e0 (aaw s₁ (.ref a)) (.cons rf .nil) (iW H hO hS)) λr s' h=>?_;cases r with
  |error e=>exact(Io H e s' h).elim
  |ok fl=>
   cases fl with
   |next=>exact False.elim h
   |brk=>exact False.elim h
   |cont=>exact False.elim h
   |ret u=>
    obtain⟨v,H',os,bare,un,aay,r',q⟩:=h;have q':v=.bl true:=q;subst q';obtain rfl:u=Value.bool true:=r';refine⟨rf,OldK.of_keep λb o e=>?_,os,bare⟩;cases q:H b with
    |none=>exact un.keep b o e q (by intro z;exact absurd (show b∈([]:List Addr) from z) (by simp)) (by simp)
    |some u=>
     rcases hO b with z|⟨ob,xs,z⟩
     ·rw[q]at z;cases z
     ·have z2:=un.mv b ob _ z;obtain⟨e1,_⟩:=cq b _ z;obtain⟨e2,_⟩:=aay b _ z2;rw[e]at e1;cases e1;exact e2
 cases hk:K.lookup a with
 |some o=>
  have e:=KX a o hk;rw[ha]at e;cases e;refine core (λ_=>none) (λ_=>.inl rf) (.inr ⟨_,vs.toArray,_,hk,rf,rf,rf,by rw[eK,aax];exact hl,by simpa using rv⟩) (λb u z=>by have z':(none:Option HO)=some u:=z;cases z') (λb z=>absurd rfl z) λz=>absurd rfl z
 |none=>
  refine core (λb=>if b=a then some (.cT { cls:=.type "list",data:=.seq vs.toArray } (.lst (ns.map V.int)))else none) (λb=>?_) (.inl (.inr ⟨{ cls:=.type "list",data:=.seq vs.toArray },af rf⟩)) (λb u z=>?_) (λb z=>?_) λ_=>hk
  ·by_cases hb:b=a
   ·exact .inr ⟨_,_,af hb⟩
   ·exact .inl (ag hb)
  ·by_cases hb:b=a
   ·have z':=(af hb).symm.trans z;cases z';subst hb;exact⟨ha,by rw[bu];exact hl,vs,_,rv,ha⟩
   ·have z':=(ag hb).symm.trans z;cases z'
  ·by_cases hb:b=a
   ·exact hb
   ·exact absurd (ag hb) z
theorem aaz{l:PySem.W.OpenLaw}{k:Nat}{q:Program}{yj:List Str}{XP:(Str->Option Value)->Heap->Prop}{YP:World->Heap->Prop}{d:DefRec}{K:Params->Frag}{CX:World->oO}{sp:World->Sp}
  (hn:l.most=some n) (DI:n<=sizeLine) (wx:d.params.defaults=[]) (hr:eO k callerA)
  (hY:∀(w:World)(h:Heap),YP w h->(K w.params).In h)
  (F:∀(w:World)(mg:Str->Option Value)(fa:Addr)(h:Heap),(K w.params).In h->h.Ns mainGlobals mg->mg d.name=some (.ref fa)->
   ∃fd:FuncData,(∀(s:Shared)(u:Value),BindsTo s fd ⟨[u],[]⟩ [(x,u)])/\
    ∀base:Heap,(K w.params).In base->base.Ns mainGlobals mg->cc l.prog w (K w.params) mg base (CX w) k fa fd [x] (sp w))
  (iW:∀(w:World)(H:Hp)(a:Addr)(ns:List Int),ns.length<=n->Im H->dQ (K w.params) H a (ns.map V.int)->sp w [.ref a] H (λv _=>v=.bl true) λ_ _ _=>False)
  (Io:∀(w:World)(H:Hp)(s:Shared)(e:Value)(s':Shared),CX w [] H s (λ_ _ _=>False) e s'->False) :
  PySem.W.WalkO q yj XP YP l.row.toRowW d [] (λf vs=>PySem.call f vs):=by
 refine Att.aat hn wx λw s₀ s₁ mg mb fa o pm cd doc a vs ns G Y ho hd jY hmg Il hints cB hg=>?_;have KX:=hY w _ Y;obtain⟨fd,hb,hF⟩:=F w mg fa _ KX G.T.g hmg;exact aau KX G.T.g G.T.b G.T.builtins G.T.nolimit hg Il hints (gn cB DI) hr hF hb (λH hO hS=>iW w H a ns cB hO hS) λH e s'=>Io w H s₁ e s'
noncomputable def uJ(s:Stmt):Arguments:=match s with
 | .FunctionDef _ a _ _ _ _ _ _ _ _=>a
 |_=>{ posonlyargs:=[],args:=[],vararg:=none,kwonlyargs:=[],kw_defaults:=[],kwarg:=none,defaults:=[] }
noncomputable def pQ(s:Stmt):List Stmt:=match s with
 | .FunctionDef _ _ b _ _ _ _ _ _ _=>b
 |_=>[]
noncomputable def cu(s:Stmt):Scope:=match s with
 | .FunctionDef _ _ _ _ _ _ sc _ _ _=>sc
 |_=>{ kind:=.function,names:=[],isGenerator:=false,isCoroutine:=false }
abbrev cb:oO:=λ_ _ _ _ _ _=>False
abbrev E0:XK:=λ_ _ _=>False
theorem cL:Passes cb X E0:=λ_ _ _ _ _ _ _ h=>h.elim
structure cJ(K:Frag)(x qual:Str)(st:Stmt)(f:Addr)(fd:FuncData):Prop where
 ex:∃(oc:Value)(od:Option Addr)(kV doc pm:Value)(an:Option Addr)(cz ct:Value)(pO:Array (Option Value)),
  fd=fnOf x qual (uJ st) (pQ st) (cu st) .none kV doc pm an cz ct/\K.lookup f=some ⟨oc,od,.func fd,pO⟩/\PySem.W.codeIn K cz qual=true
 kp:Kp K f
section
variable{P:Program}{w:World}{K:Frag}{mg:Str->Option Value}{base:Heap}
theorem cJ.ok{N ps:List Str}{k:Nat}{sp:Sp}(F:cJ K x qual st f fd)(S:dy N ps (cu st))(len:∀vs H Q E,sp vs H Q E->vs.length=ps.length)
  (wt:∀(cz:Value)(A:Around)(outer:List Env)(s:Shared)(H:Hp)(vs:List V)(Q:VK)(E:XK),eO k (A.deeper (envOfC qual (cu st) s.heap.objs.size f cz))->sp vs H Q E->
   ∃t,lP (oP cb P w K mg base N qual (cu st) f cz A outer s H E).uC (pQ st) t/\t { nx:=λ_ H'=>Q .df H',rt:=Q } (start N vs) H):cc P w K mg base cb (k+1) f fd ps sp:=by
 obtain⟨oc,od,kV,doc,pm,an,cz,ct,pO,rfl,lk,jY⟩:=F.ex;refine ZV lk jY S len λA outer s H vs Q E hr iW=>?_;obtain⟨t,h,q⟩:=wt cz A outer s H vs Q E hr iW;exact⟨t,h.uC,q⟩
theorem cJ.binds{ps:List Str}(F:cJ K x qual st f fd)
  (h:∀(kV doc pm:Value)(an:Option Addr)(cz ct:Value)(us:List Value),us.length=ps.length->bindArgs (fnOf x qual (uJ st) (pQ st) (cu st) .none kV doc pm an cz ct) ⟨us,[]⟩=pure (ps.zip us)):Binds K fd ps []:=by
 obtain⟨oc,od,kV,doc,pm,an,cz,ct,pO,rfl,lk,jY⟩:=F.ex;exact .all (h kV doc pm an cz ct)
theorem PH{oc:Value}{od an:Option Addr}{pO:Array (Option Value)}{kV doc pm cz ct:Value}(l:K.lookup f=some ⟨oc,od,.func (fnOf x qual (uJ st) (pQ st) (cu st) .none kV doc pm an cz ct),pO⟩)
  (c:PySem.W.codeIn K cz qual=true) (k:Kp K f):cJ K x qual st f (fnOf x qual (uJ st) (pQ st) (cu st) .none kV doc pm an cz ct):=⟨⟨oc,od,kV,doc,pm,an,cz,ct,pO,rfl,l,c⟩,k⟩
end
theorem oS{k:Nat}(hr:eO k A):A.units+1<cLine:=Nat.lt_of_le_of_lt (Nat.add_le_add_left (by decide:1<=64) _) hr.units
theorem Ip(h:n<=1000):n<sizeLine:=Nat.lt_of_le_of_lt h (by decide)
section
variable{X:Cx}
theorem pv(i:Nat){pos:Pos}(hN:X.N[i]?=some x:=by rfl)(hv:Ad X.env.scope x:=by first|exact Or.inl rfl|exact Or.inr (.inl rfl)|exact Or.inr (Or.inr rfl))(hd:(x==("__debug__":Str))=false:=by decide)
  (jY:(x==("__classdict__":Str))=false:=by decide):PE X (.Name x pos) (bg i):=OL hN hv hd jY
end
theorem dB{A:Prop}(h:B):if false=true then A else B:=by
 rw[ag iJ];exact h
theorem eC{A:Prop}(h:A):if true=true then A else B:=by
 rw[af rfl];exact h
theorem uK{c A:Prop} [Decidable c] (h1:c->A) (h2:¬c->B):if c then A else B:=by
 by_cases h:c
 ·rw[af h];exact h1 h
 ·rw[ag h];exact h2 h
theorem PJ{c A:Prop} [Decidable c] (hc:c) (h:B):if(!decide c)=true then A else B:=by
 rw[aD hc];exact dB h
def aW(H H':Hp):Prop:=∀b o,H b=some o->H' b=some o
theorem aW.refl(H:Hp):aW H H:=λ_ _ h=>h
theorem aW.trans{H1 H2:Hp}(a:aW H H1)(b:aW H1 H2):aW H H2:=λc o h=>b c o (a c o h)
theorem aW.seq{K:Frag}(e:aW H H')(h:dQ K H a xs):dQ K H' a xs:=by
 rcases h with(h|⟨o,h⟩)|h
 ·exact .inl (.inl (e _ _ h))
 ·exact .inl (.inr ⟨o,e _ _ h⟩)
 ·exact .inr h
noncomputable def lV(cells:List (Str×Addr)):List (Str×NameKind)->List (Str×Addr)->List (Str×Addr)
 | [],acc=>acc
 |(n,k)::r,acc=>if k == .free then lV cells r ((n,(cells.lookup n).getD 0)::acc)else lV cells r acc
theorem aaA(h:∀x∈scope.names,x.2=.free->∃c,env.cells.lookup x.1=some c):closureFor scope env=pure (lV env.cells scope.names []):=by
 unfold closureFor;have key:∀(names:List (Str×NameKind))(acc:List (Str×Addr)),(∀x∈names,x.2=.free->∃c,env.cells.lookup x.1=some c)->
   (forIn names acc (λ(x:Str×NameKind)(r:List (Str×Addr))=>(if(x.2==NameKind.free)=true then do let c <- cellOf env x.1;pure (ForInStep.yield ((x.1,c)::r))else pure (ForInStep.yield r):Sem (ForInStep (List (Str×Addr))))))=pure (lV env.cells names acc):=by
  intro names;induction names with
  |nil=>intro acc _;rfl
  |cons x r ih=>
   intro acc hx;obtain⟨n,k⟩:=x;rw[List.forIn_cons];unfold lV;by_cases hk:(k==NameKind.free)=true
   ·have iL:k=.free:=by simpa using hk
    obtain⟨c,hc⟩:=hx (n,k) cQ iL;have lN:env.cells.lookup n=some c:=hc;simp only[hk,if_true];have e1:cellOf env n=pure c:=by unfold cellOf;rw[lN]
    rw[e1,lN];exact ih ((n,c)::acc) λy hy=>hx y (dU _ hy)
   ·simp only[hk,if_false,Bool.false_eq_true];exact ih acc λy hy=>hx y (dU _ hy)
 have e:=key scope.names [] h;first
  |exact e
  |(simp only[bind_pure];exact e)
theorem DJ{cells:List (Str×Addr)}{x:Str}{c:Addr}:∀(names:List (Str×NameKind))(acc:List (Str×Addr)),(lV cells names acc).lookup x=some c->acc.lookup x=some c\/((x,NameKind.free)∈names/\c=(cells.lookup x).getD 0)
 | [],_,h=>.inl h
 |(n,k)::r,acc,h=>by
  unfold lV at h;by_cases hk:(k==NameKind.free)=true
  ·have iL:k=.free:=by simpa using hk
   rw[af hk]at h;rcases DJ r _ h with z|⟨z,e⟩
   ·rw[vT]at z;cases hb:x==n with
    |true=>
     rw[hb]at z;have e':x=n:=by simpa using hb
     subst e';subst iL;exact .inr ⟨cQ,(dq z).symm⟩
    |false=>rw[hb]at z;exact .inl z
   ·exact .inr ⟨dU _ z,e⟩
  ·rw[ag hk]at h;rcases DJ r _ h with z|⟨z,e⟩
   ·exact .inl z
   ·exact .inr ⟨dU _ z,e⟩
theorem Iq{cells:List (Str×Addr)}{x:Str}:∀(names:List (Str×NameKind))(acc:List (Str×Addr)),((x,NameKind.free)∈names\/(acc.lookup x).isSome=true)->((lV cells names acc).lookup x).isSome=true
 | [],_,h=>by
  rcases h with h|h
  ·cases h
  ·exact h
 |(n,k)::r,acc,h=>by
  unfold lV;by_cases hk:(k==NameKind.free)=true
  ·rw[af hk];refine Iq r _ ?_;rcases h with h|h
   ·rcases(cV.mp h)with(e|h)
    ·cases e;exact .inr (by rw[vT];simp)
    ·exact .inl h
   ·refine .inr ?_;rw[vT];cases hb:x==n<;>simp[h]
  ·rw[ag hk];refine Iq r _ ?_;rcases h with h|h
   ·rcases(cV.mp h)with(e|h)
    ·cases e;exact absurd rf hk
    ·exact .inl h
   ·exact .inr h
theorem yk:∀(names:List (Str×NameKind))(n:Nat)(acc:List (Str×Addr)),cellsFrom n names acc=cellsFrom n names []++acc
 | [],_,_=>rfl
 |(x,k)::r,n,acc=>by
  unfold cellsFrom;by_cases hk:(k==NameKind.cell)=true
  ·rw[af hk,af hk,yk r (n+1) ((x,n)::acc),yk r (n+1) [(x,n)],i4];rfl
  ·rw[ag hk,ag hk];exact yk r n acc
theorem Ir:∀(names:List (Str×NameKind))(n:Nat)(x:Str)(c:Addr),(x,c)∈cellsFrom n names []->(x,NameKind.cell)∈names
 | [],_,_,_,h=>nomatch h
 |(y,k)::r,n,x,c,h=>by
  unfold cellsFrom at h;by_cases hk:(k==NameKind.cell)=true
  ·have iL:k=.cell:=by simpa using hk
   rw[af hk,yk]at h;refine(cN.mp h).elim (λh=>?_) λh=>?_
   ·exact dU _ (Ir r _ x c h)
   ·have e:(x,c)=(y,n):=by simpa using h
    cases e;subst iL;exact cQ
  ·rw[ag hk]at h;exact dU _ (Ir r n x c h)
theorem Iu{α:Type}{x:Str}:∀(a b:List (Str×α)),(a++b).lookup x=(a.lookup x).or (b.lookup x)
 | [],_=>by simp
 |(y,v)::r,b=>by
  rw[uv,vT,vT];cases hb:x==y with
  |true=>simp
  |false=>exact Iu r b
theorem AF{α:Type}{x:Str}{v:α}:∀{l:List (Str×α)},(l.map (·.1)).Nodup->(x,v)∈l->l.lookup x=some v
 | [],_,h=>by cases h
 |(y,w)::r,nd,h=>by
  rw[gN,xO]at nd;rw[vT];cases h with
  |head=>simp
  |tail _ h=>
   have cZ:(x==y)=false:=by
    apply beq_false_of_ne;intro hxy;exact nd.1 (dD.mpr ⟨(x,v),h,hxy⟩)
   rw[cZ];exact AF nd.2 h
theorem PK{α β:Type}{x:Str}(f:Str×α->Str×β)(hf:∀p,(f p).1=p.1):∀(l:List (Str×α)),(l.map f).lookup x=(l.lookup x).map λk=>(f (x,k)).2
 | []=>rfl
 |(n,k)::r=>by
  obtain⟨m,z⟩:∃z,f (n,k)=(n,z):=⟨(f (n,k)).2,Prod.ext (hf _) rfl⟩;rw[gN,z,vT,vT];cases hx:x==n with
  |false=>exact PK f hf r
  |true=>cases(beq_iff_eq.mp hx);simp[z]
theorem aaB(names:List (Str×NameKind)):(names.map λ(n,k)=>if(k==NameKind.free&&env.scope.kind == .function&&env.kindOf n==some .cell)then(n,NameKind.cell)else(n,k)).lookup x =
  (names.lookup x).map λk=>if(k==NameKind.free&&env.scope.kind == .function&&env.kindOf x==some .cell)=true then NameKind.cell else k:=by
 rw[PK _ (λp=>by dsimp only;split<;>rfl)]
 congr 1
 funext k
 dsimp only;split<;>rfl
theorem aaC{M:Model}{E:QV}{cl:List (Str×Addr)}{Q:Env->Shared->Prop}
  (q:Q (newEnv scope s.heap.objs.size env.globals (cellsFrom (s.heap.objs.size+1) scope.names cl) env.qual none .none (some env) builtinsNs)
   { s with heap:=pushCells (s.heap.push { cls:=.type "dict",data:=.dict #[] }) scope.names }) :
  wpAny M A (newFunctionEnv scope env.globals cl [] env.qual none .none (some env)) Q E s:=by
 have z:(s.heap.push { cls:=.type "dict",data:=.dict #[] }).objs.size=s.heap.objs.size+1:=lM ..;rw[<- z]at q;unfold newFunctionEnv;have cells:=wpAny_layCells (M:=M) (A:=A) (E:=E) (λx r=>if(x.2==NameKind.cell)=true then(do let c <- alloc { cls:=.type "cell",data:=.cell none };pure (ForInStep.yield ((x.1,c)::r)))else pure (ForInStep.yield r)) (λ_ _ _=>rfl) scope.names cl { s with heap:=s.heap.push { cls:=.type "dict",data:=.dict #[] } }
 exact ak (wpAny_alloc (ak (cells _ (ak (aq (aq q))))))
noncomputable def oU(X:Cx)(N:List Str)(scope:Scope)(cs:List (Str×Addr))(C:Addr)(s₀:Shared)(H₀:Hp)(ex:List Addr):Cx where
 prog:=X.prog
 w:=X.w
 K:=X.K
 mg:=X.mg
 base:=X.base
 A:=X.A
 N:=N
 s₀:=s₀
 H₀:=H₀
 env:=compEnvC scope cs C X.env
 outer:=X.stack
 stack:=X.stack
 ex:=ex
 fn:=λx=>scope.names.lookup x==some .cell
 calm:=X.calm
 pn:=[]
 xe:=λ_ _=>False
structure e8(oN:List Str)(uL:Scope)(N:List Str)(own:Nat)(caps:List Nat)(scope:Scope):Prop where
 kind:scope.kind=.function
 nd:N.Nodup
 DK:(scope.names.map (·.1)).Nodup
 free:∀x∈scope.names,x.2=.free->uL.names.lookup x.1=some .cell\/uL.names.lookup x.1=some .free
 len:N.length=own+caps.length
 oV:caps.map (λi=>oN[i]?)=(N.drop own).map some
 aaD:∀x∈N.drop own,scope.names.lookup x=some .free
noncomputable def uM(own:Nat)(caps:List Nat)(σ:St):St:=List.replicate own none++caps.map λi=>(σ[i]?).join
noncomputable abbrev uN(X:Cx)(scope:Scope)(C:Addr):List (Str×Addr):=cellsFrom (C+1) scope.names (lV X.env.cells scope.names [])
noncomputable abbrev AG(h:Heap)(scope:Scope):Heap:=pushCells (h.push { cls:=.type "dict",data:=.dict #[] }) scope.names
section
variable{X:Cx}{aU:List (Addr×Obj)}{σ:St}{H:Hp}{s:Shared}{N:List Str}{own:Nat}{caps:List Nat}{scope:Scope}{ex:List Addr}
theorem ym(S:e8 X.N X.env.scope N own caps scope)(I:Inv X aU σ H s)(n:Nat)(h:(cellsFrom n scope.names (lV X.env.cells scope.names [])).lookup x=some c) :
  (x,c)∈cellsFrom n scope.names []\/((x,NameKind.free)∈scope.names/\X.env.cells.lookup x=some c):=by
 rw[yk,Iu]at h;cases q:(cellsFrom n scope.names []).lookup x with
 |some c'=>
  rw[q]at h;have e:c'=c:=by simpa using h
  subst e;exact .inl (vR q)
 |none=>
  rw[q]at h;have h':(lV X.env.cells scope.names []).lookup x=some c:=by simpa using h
  rcases DJ _ _ h' with z|⟨z,e⟩
  ·cases z
  ·refine .inr ⟨z,?_⟩;obtain⟨c',lN⟩:=I.ok.has x (S.free (x,.free) z rfl);rw[lN]at e |-;rw[e];rfl
theorem PL(S:e8 X.N X.env.scope N own caps scope)(I:Inv X aU σ H s)(n:Nat)(hx:scope.names.lookup x=some .free) :
  ∃c,X.env.cells.lookup x=some c/\(cellsFrom n scope.names (lV X.env.cells scope.names [])).lookup x=some c:=by
 have hm:(x,NameKind.free)∈scope.names:=vR hx;obtain⟨c,hc⟩:=I.ok.has x (S.free (x,.free) hm rfl);refine⟨c,hc,?_⟩;obtain⟨c',lN⟩:=Option.isSome_iff_exists.mp (Iq (cells:=X.env.cells) (x:=x) scope.names [] (.inl hm));have e0:(cellsFrom n scope.names []).lookup x=none:=by
  cases q:(cellsFrom n scope.names []).lookup x with
  |none=>rfl
  |some d=>
   have:=AF S.DK (Ir _ _ _ _ (vR q))
   rw[hx]at this;cases this
 rw[yk,Iu,e0,lN];rcases DJ _ _ lN with z|⟨_,e⟩
 ·cases z
 ·rw[hc]at e;rw[e];rfl
theorem aaE(S:e8 X.N X.env.scope N own caps scope)(I:Inv X aU σ H s)(hex:∀b∈ex,iV X aU H b/\b<s.heap.objs.size) :
  Inv (oU X N scope (uN X scope s.heap.objs.size) s.heap.objs.size s H ex) [] (uM own caps σ) H { s with heap:=AG s.heap scope }:=by
 have k1:∀b o,s.heap.get? b=some o->(AG s.heap scope).get? b=some o:=λb o e=>pushCells_keeps _ _ b o (dt _ e);have ok:=cellsFrom_ok scope.names (s.heap.push { cls:=.type "dict",data:=.dict #[] }) (s.heap.objs.size+1) [] ⟨λ_ _ hm=>(nomatch hm),List.Pairwise.nil⟩ (by rw[lM];exact cn _);rw[lM]at ok;have PM:∀x c,X.env.cells.lookup x=some c->c<s.heap.objs.size:=λx c e=>by
  obtain⟨v,q⟩:=I.cell x c e;exact q.lt
 have PN:∀x,(compEnvC scope (uN X scope s.heap.objs.size) s.heap.objs.size X.env).kindOf x=(scope.names.lookup x).map λk=>if(k==NameKind.free&&X.env.scope.kind == .function&&X.env.kindOf x==some .cell)=true then NameKind.cell else k:=
  λx=>aaB (env:=X.env) scope.names
 have kk:∀x,(compEnvC scope (uN X scope s.heap.objs.size) s.heap.objs.size X.env).kindOf x=some .cell\/(compEnvC scope (uN X scope s.heap.objs.size) s.heap.objs.size X.env).kindOf x=some .free->
   scope.names.lookup x=some .cell\/scope.names.lookup x=some .free:=λx h=>by
  rw[PN]at h;cases q:scope.names.lookup x with
  |none=>rw[q]at h;rcases h with h|h<;>cases h
  |some k=>
   rw[q]at h;by_cases hf:k=.free
   ·exact .inr (by rw[hf])
   ·have hb:(k==NameKind.free)=false:=by simpa using hf
    have e:(some k).map (λk=>if(k==NameKind.free&&X.env.scope.kind == .function&&X.env.kindOf x==some .cell)=true then NameKind.cell else k)=some k:=by
     simp[hf]
    rw[e]at h;exact h
 refine⟨⟨I.ok.mod,S.kind,I.ok.glob,I.ok.blt,cn _,λx y c h1 h2=>?_,λx hx=>?_,λx c hf h=>?_,I.ok.hd,I.ok.frames,.inl rf,λb hb=>⟨?_,λx c h=>?_⟩,λb o e=>?_,gn I.ok.uB I.sz,λb o e hb=>?_,λb hb hf=>?_,I.stack,I.Oz⟩,
  rfl,I.bare,Un.kept k1,⟨λ_=>none,?_,λi x v h1 h2 h3=>?_⟩,λx c h=>?_,I.cq.fresh (cn _),λx c h=>?_,λp hp=>absurd (show p∈([]:List (Addr×Obj)) from hp) (by simp),I.cq.kept k1,?_⟩
 ·
  rcases ym S I _ h1 with a1|⟨_,a1⟩<;>rcases ym S I _ h2 with a2|⟨_,a2⟩
  ·exact name_of_addr ok.apart a1 a2
  ·exact absurd (PM _ _ a2) (Nat.not_lt.mpr (Nat.le_of_succ_le (ok.empty _ _ a1).2))
  ·exact absurd (PM _ _ a1) (Nat.not_lt.mpr (Nat.le_of_succ_le (ok.empty _ _ a2).2))
  ·exact I.ok.inj _ _ _ a1 a2
 ·
  rcases kk x hx with q|q
  ·exact Option.isSome_iff_exists.mp (Hr scope.names _ _ (.inl q))
  ·obtain⟨c,_,hc⟩:=PL S I (s.heap.objs.size+1) q;exact⟨c,hc⟩
 ·
  have wz:scope.names.lookup x=some .cell:=by simpa[oU]using hf
  rcases ym S I _ h with a|⟨a,_⟩
  ·exact Nat.le_of_succ_le (ok.empty _ _ a).2
  ·rw[AF S.DK a]at wz;cases wz
 ·exact fK (hex b hb).2
 ·rcases ym S I _ h with a|⟨_,a⟩
  ·exact lK (lJ (hex b hb).2 (Nat.le_of_succ_le (ok.empty _ _ a).2))
  ·exact(hex b hb).1.2.2.2.2.1 x c a
 ·exact I.bs b o e
 ·rcases(hex b hb).1.2.2.2.1 with z|z
  ·exact I.ok.Ag b o e z
  ·exact absurd (lJ (cX e) (gn I.ok.uB z)) (rW _)
 ·rcases cV.mp (I.Hz b hf)with z|z
  ·exact(hex b hb).1.2.1 z
  ·exact(hex b hb).1.2.2.1 z
 ·exact(Heap.Ns.new s.heap (.type "dict")).keeps (pushCells_keeps _ _)
 ·
  have hi:own<=i:=by
   refine Nat.le_of_not_lt λcE=>?_;unfold uM at h2;rw[iK (by simpa using cE),List.getElem?_replicate]at h2;split at h2<;>cases h2
  obtain⟨j,rfl⟩:∃j,i=own+j:=⟨i-own,by lia⟩;unfold uM at h2;rw[jb (by simp),zV,Nat.add_sub_cancel_left,dG]at h2;cases hc:caps[j]? with
  |none=>rw[hc]at h2;cases h2
  |some ci=>
   rw[hc]at h2;have hσ:σ[ci]?=some (some v):=by
    have z:(σ[ci]?).join=some v:=by simpa using h2
    cases q:σ[ci]? with
    |none=>rw[q]at z;cases z
    |some o=>rw[q]at z;have z':o=some v:=z;rw[z']
   have PQ:(N.drop own)[j]?=some x:=by rw[List.getElem?_drop];exact h1
   have hX:X.N[ci]?=some x:=by
    have e:=aj (λl=>l[j]?) S.oV;simp only[dG,hc,PQ,Option.map_some]at e;exact dq e
   have nU:=S.aaD x (dP PQ);obtain⟨c,hc1,x8⟩:=PL S I (s.heap.objs.size+1) nU;obtain⟨m,hn,hl⟩:=I.loc;have hk:=S.free (x,.free) (vR nU) rfl;have aaF:Ad X.env.scope x:=.inr hk;obtain⟨u,ru,lk⟩:=hl ci x v hX hσ aaF;refine⟨u,ru,?_⟩;rcases lk with⟨z,_⟩|⟨_,c',e',z⟩
   ·have z':X.env.scope.names.lookup x=some .local:=z;rcases hk with hk|hk
    ·have iL:X.env.scope.names.lookup x=some .cell:=hk;rw[z']at iL;cases iL
    ·have iL:X.env.scope.names.lookup x=some .free:=hk;rw[z']at iL;cases iL
   ·rw[hc1]at e';cases e';refine .inr ⟨?_,c,x8,z.keeps k1⟩;show(compEnvC scope _ _ X.env).kindOf x=_\/(compEnvC scope _ _ X.env).kindOf x=_;rw[PN,nU];show some (if _ then NameKind.cell else NameKind.free)=_\/some (if _ then NameKind.cell else NameKind.free)=_
    split
    ·exact .inl rf
    ·exact .inr rf
 ·rcases ym S I _ h with a|⟨_,a⟩
  ·exact⟨_,(ok.empty _ _ a).1⟩
  ·obtain⟨v,q⟩:=I.cell x c a;exact⟨v,q.keeps k1⟩
 ·rcases ym S I _ h with a|⟨_,a⟩
  ·exact I.cq.fresh (Nat.le_of_succ_le (ok.empty _ _ a).2)
  ·exact I.mx x c a
 ·unfold uM;show _=N.length;rw[S.len,cm,zV,bu]
end
def yn(X:Cx)(jN:List Expr)(t:TT):Prop:=
 ∀(aU:List (Addr×Obj))(s:Shared)(σ:St)(H:Hp)(Q:Bool->Hp->Prop),Inv X aU σ H s->t σ H Q->
  wpAny (model X.prog X.w) X.A (forIn jN true λc r=>if r=true then do let ok <- isTrue c X.env (eval c X.env);pure (ForInStep.yield ok)else pure (ForInStep.yield r)) (TP X aU σ Q) X.xe s
def uO:TT:=λ_ H Q=>Q true H
theorem jz:yn X [] uO:=λ_ _ _ H _ I h=>wpAny_tests_nil ⟨H,I,h⟩
theorem sJ{c:Expr}{t:TT}(h:PT X c t):yn X [c] t:=λaU s σ H Q I q=>wpAny_tests_one (h aU s σ H Q I q)
def Iv(M:Model)(A:Around)(env:Env)(it acc:Value)(tg ku:Expr)(jN:List Expr)(E:QV)(fin ia:Shared->Prop):Shared->Prop:=
 let kept:Shared->Prop:=λu=>wpAny M A (eval ku env) (λx u5=>wpAny M A (call (.builtin "list.append") [acc,x]) (λ_ u6=>ia u6) E u5) E u
 let aaG:Shared->Prop:=λu=>wpAny M A (forIn jN true λc r=>if r=true then(do let ok <- isTrue c env (eval c env);pure (ForInStep.yield ok))else pure (ForInStep.yield r)) (λok u4=>if ok=true then kept u4 else ia u4) E u
 let aaH:QV:=λv u=>wpAny M A (letOwnedTupleGo tg it v) (λ_ u2=>wpAny M A (assign tg env v) (λ_ u3=>aaG u3) E u2) E u
 λu=>wpAny M A (pyNext it) (λo u1=>match o with|none=>fin u1|some v=>aaH v u1) E u
theorem aaI{prog:Program}{w:World}{R:Result->Shared->Prop}{ku tg iter:Expr}{jN:List Expr}{pos:Pos}{it acc:Value}(I:Nat->Shared->Prop)(n:Nat)(start:I n s)
  (sk:∀m u,I m u->Iv (model prog w) A env it acc tg ku jN (notedBy (model prog w) A env λe v=>R (.error e) v) (R (.ok .next)) (λv=>∃j,j<m/\I j v) u) :
  codeAny (model prog w) A (.compLoop (.ListComp ku [⟨tg,iter,jN,0⟩] scope pos) 0 it acc env) R s:=by
 refine codeAny_loop rf I (λm u hu=>wpAny_noted (m:=compTurn (.ListComp ku [⟨tg,iter,jN,0⟩] scope pos) 0 it acc env) ?_) n start;have go:=sk m u hu;unfold Iv at go;rw[compTurn_list];refine ak (wpAny_standAt (ak (bj go λo u1 b1=>?_)))
 match o,b1 with
 |none,b1=>exact aq b1
 |some v,b1=>
  refine ak (bj b1 λ_ u2 b2=>ak (bj b2 λ_ u3 b3=>ak (bj b3 λok u4 b4=>?_)))
  match ok,b4 with
  |false,b4=>exact aq ⟨rf,b4⟩
  |true,b4=>exact ak (ak (bj b4 λx u5 b5=>ak (bj b5 λ_ u6 b6=>aq (aq ⟨rf,b6⟩))))
def mV(J:It)(g:TG)(tt:TT)(te:TE)(Q:VK)(W:Nat->Nat->St->Hp->List V->Prop):Prop:=
 ∀i m σ' H' ys,W i m σ' H' ys->
  (J.stop i H'/\ys.length<=sizeLine/\∀p,H' p=none->Q (.ref p) (upd H' p (.lst ys))) \/
  (J.go i H'/\ys.length<sizeLine/\∃N:St->Hp->List V->Prop,(∀σ2 H2 zs,N σ2 H2 zs->∃m',m'<m/\W (i+1) m' σ2 H2 zs)/\
   ∀x H2,J.pN i H' x H2->g x σ' H2 λσ3 H3=>tt σ3 H3 λb H4=>if b=true then te σ3 H4 λv H5=>N σ3 H5 (ys++[v])else N σ3 H4 ys)
def DM(wi:TI)(own:Nat)(caps:List Nat)(g:TG)(tt:TT)(te:TE):TE:=λσ H Q=>wi σ H λJ H1=>
 ∃W:Nat->Nat->St->Hp->List V->Prop,(∃m,W 0 m (uM own caps σ) H1 [])/\mV J g tt te Q W
section
variable{X:Cx}{tg ku iter:Expr}{jN:List Expr}{scope:Scope}{pos:Pos}{N:List Str}{own:Nat}{caps:List Nat}{wi:TI}{g:TG}{tt:TT}{te:TE}
theorem PR{σ:St}{H2:Hp}{s2:Shared}{J:It}{fp:List Addr}{tn:Nat->Heap->Prop}{Q:VK}{W:Nat->Nat->St->Hp->List V->Prop}{m0:Nat}
  {E:QV} {R:Value->Addr->Result->Shared->Prop} (hc:X.calm=true) (S:e8 X.N X.env.scope N own caps scope)
  (hg:∀cs C s₀ H₀ ex,PG (oU X N scope cs C s₀ H₀ ex) tg g) (ht:∀cs C s₀ H₀ ex,yn (oU X N scope cs C s₀ H₀ ex) jN tt) (he:∀cs C s₀ H₀ ex,PE (oU X N scope cs C s₀ H₀ ex) ku te)
  (I2:Inv X aU σ H2 s2) (T:Turn X.prog X.w X.K tg J fp it tn) (mK:tn 0 s2.heap) (f2:∀b∈fp,iV X aU H2 b)
  (w0:W 0 m0 (uM own caps σ) H2 []) (sk:mV J g tt te Q W)
  (aaJ:∀D C s' H' ys,Inv X aU σ (upd H' D (.lst ys)) s'->iV X aU (upd H' D (.lst ys)) C->(∃m,s'.heap.Ns C m)->Q (.ref D) (upd H' D (.lst ys))->R (.ref D) C (.ok .next) s') :
  wpAny (model X.prog X.w) X.A (newList []) (λacc s₃=>wpAny (model X.prog X.w) X.A (newFunctionEnv scope X.env.globals (lV X.env.cells scope.names []) [] X.env.qual none .none (some X.env)) (λPU s₄=>
   codeAny (model X.prog X.w) X.A (.compStart (.ListComp ku [⟨tg,iter,jN,0⟩] scope pos) 0 (.ref it) acc { PU with scope:=relabel scope X.env }) (R acc PU.locals) s₄) E s₃) E s2:=by
 refine aC (aaC ?_);dsimp only;generalize Iw:s2.heap.push { cls:=.type "list",dict:=none,data:=.seq ([]:List Value).toArray }=h3;have hC:h3.objs.size=s2.heap.objs.size+1:=by rw[<- Iw,lM]
 have DN:∀b o,s2.heap.get? b=some o->h3.get? b=some o:=λb o e=>Iw▸dt _ e;have I3:Inv X aU σ H2 { s2 with heap:=h3 }:=I2.kept (t':=s2.toks) DN;have gD:h3.get? s2.heap.objs.size=some { cls:=.type "list",data:=.seq ([]:List Value).toArray }:=Iw▸fi _ rfl;have fD:iV X aU H2 s2.heap.objs.size:=I2.jZ (cn _) (I2.cq.fresh (cn _));have PV:∀b∈fp,b<s2.heap.objs.size:=λb hb=>by
  obtain⟨o,e,_⟩:=T.obj 0 _ mK b hb;exact cX e
 have hex:∀b∈s2.heap.objs.size::fp,iV X aU H2 b/\b<({ s2 with heap:=h3 }:Shared).heap.objs.size:=λb hb=>by
  show _/\b<h3.objs.size;rw[hC];cases hb with
  |head=>exact⟨fD,Nat.lt_succ_self _⟩
  |tail _ hb=>exact⟨f2 b hb,zW (PV b hb)⟩
 have IB:=aaE S I3 hex;generalize hY:oU X N scope (uN X scope h3.objs.size) h3.objs.size { s2 with heap:=h3 } H2 (s2.heap.objs.size::fp)=Y at IB;have yP:Y.prog=X.prog:=by rw[<- hY];rfl
 have yW:Y.w=X.w:=by rw[<- hY];rfl
 have yK:Y.K=X.K:=by rw[<- hY];rfl
 have yc:Y.calm=true:=by rw[<- hY];exact hc
 have yA:Y.A=X.A:=by rw[<- hY];rfl
 have yx:Y.xe=λ_ _=>False:=by rw[<- hY];rfl
 have yL:Y.env.locals=h3.objs.size:=by rw[<- hY];rfl
 have PX:Y.ex=s2.heap.objs.size::fp:=by rw[<- hY];rfl
 have yfs:Y.fs=mw X.stack:=by rw[<- hY];rfl
 have PY:Y.pn=[]:=by rw[<- hY];rfl
 have Iy:Y.env=compEnvC scope (uN X scope h3.objs.size) h3.objs.size X.env:=by rw[<- hY];rfl
 have yg:PG Y tg g:=by rw[<- hY];exact hg _ _ _ _ _
 have yt:yn Y jN tt:=by rw[<- hY];exact ht _ _ _ _ _
 have ye:PE Y ku te:=by rw[<- hY];exact he _ _ _ _ _
 have yb:∀{σ':St}{H':Hp}{s':Shared}{pn:List (Addr×Obj)},Inv Y pn σ' H' s'->Un (mw X.stack) (s2.heap.objs.size::fp) H2 H' h3 s'.heap:=λ{σ' H' s' pn} J=>by
  have b:=J.base;rw[yfs,PX]at b;have e1:Y.H₀=H2:=by rw[<- hY];rfl
  have e2:Y.s₀.heap=h3:=by rw[<- hY];rfl
  rw[e1,e2]at b;exact b
 have yos:∀{σ':St}{H':Hp}{s':Shared}{pn:List (Addr×Obj)},Inv Y pn σ' H' s'->s'.os=s2.os:=λ{σ' H' s' pn} J=>by
  have e:Y.s₀.os=s2.os:=by rw[<- hY];rfl
  exact J.os.trans e
 have DL:s2.heap.objs.size≠Y.env.locals:=by rw[yL,hC];exact fK (Nat.lt_succ_self _)
 have PZ:s2.heap.objs.size ∉ fp:=λz=>rW _ (PV _ z);have Iz:∀b∈s2.heap.objs.size::fp,b∈Y.ex:=λb hb=>by rw[PX];exact hb
 have fpY:∀{pn:List (Addr×Obj)}{H':Hp},(∀p∈pn,p.1 ∉ fp)->(∀b∈fp,H' b=none)->∀b∈fp,iV Y pn H' b:=λ{pn H'} hp hn b hb=>by
  have ic:=Iz b (dU _ hb);refine⟨hn b hb,(IB.ok.Af b ic).1,IB.ok.xV b ic,.inl ic,(IB.ok.Af b ic).2,λp P0 z=>?_⟩;rw[PY,jX]at P0;exact hp p P0 (z▸hb)
 have P4:∀b o,h3.get? b=some o->(AG h3 scope).get? b=some o:=λb o e=>pushCells_keeps _ _ b o (dt _ e);have P5:tn 0 (AG h3 scope):=T.keep 0 s2.heap _ mK λb _ o e=>P4 b o (DN b o e);have gD4:=P4 _ _ gD;have loop:codeAny (model X.prog X.w) X.A (.compLoop (.ListComp ku [⟨tg,iter,jN,0⟩] scope pos) 0 (.ref it) (.ref s2.heap.objs.size) (compEnvC scope (uN X scope h3.objs.size) h3.objs.size X.env)) (R (.ref s2.heap.objs.size) h3.objs.size)
   { s2 with heap:=AG h3 scope }:=by
  refine aaI (λn s'=>∃i σ' H' ys its oV,Inv Y [] σ' H' s'/\tn i s'.heap/\(∀b∈fp,H' b=none)/\H' s2.heap.objs.size=none/\
   s'.heap.get? s2.heap.objs.size=some { cls:=.type "list",data:=.seq (its:List Value).toArray oV }/\Vals ys its/\W i n σ' H' ys) m0
   ⟨0,_,H2,[],[],_,IB,P5,λb hb=>(f2 b hb).1,fD.1,gD4,.nil,w0⟩ ?_
  rintro n s5 ⟨i,σ5,H5,ys,its,oV,I5,t5,Dm,P6,AH,DO,w5⟩;unfold Iv;dsimp only;have P7:Inv Y [(s2.heap.objs.size,{ cls:=.type "list",data:=.seq its.toArray oV })] σ5 H5 s5:=I5.Dg λp hp=>by
   have e:=cA.mp hp;subst e;exact⟨AH,P6,DL,IB.ok.xV _ (Iz _ cQ),λv z=>by cases z⟩
  have pno:∀p∈[((s2.heap.objs.size:Addr),({ cls:=.type "list",data:=.seq its.toArray oV }:Obj))],p.1 ∉ fp:=λp hp=>by
   have e:=cA.mp hp;subst e;exact PZ
  have IA:∀{H':Hp},(∀b∈fp,H' b=none)->∀b∈fp,iV Y [((s2.heap.objs.size:Addr),({ cls:=.type "list",data:=.seq its.toArray oV }:Obj))] H' b:=λhn=>fpY pno hn;rcases sk i n σ5 H5 ys w5 with⟨stop,hz,qn⟩|⟨go,hz,NN,P8,step⟩
  ·rw[<- yA];refine ah (T.done Y yP yW yK yc i _ s5 σ5 H5 (λ_ _=>False) P7 (IA Dm) t5 stop) (λr s6 h6=>?_) λ_ _ f=>f.elim;obtain⟨hr,I6⟩:=h6;subst hr;have IC:=I6.pin (s2.heap.objs.size,_) (dZ _ (cA.mpr rfl));have nD:H2 s2.heap.objs.size=none:=fD.1;have base:=yb I6;have un:Un (mw X.stack) (s2.heap.objs.size::fp) H2 (upd H5 s2.heap.objs.size (.lst ys)) h3 s6.heap:=⟨base.keep,base.slot,λb o e n hx=>by
     rw[bR (λz=>hx (by rw[z];exact cQ))];exact base.free b o e n hx,base.there,
    λb xs e=>by rw[bR (fj e nD)];exact base.pF b xs e,λb o u e=>by rw[bR (fj e nD)];exact base.mv b o u e,λb ps e=>by
     obtain⟨ia,q⟩:=base.pG b ps e;exact⟨ia,by rw[bR (fj e nD)];exact q⟩⟩
   have cq:gE X.prog X.w (upd H5 s2.heap.objs.size (.lst ys)) s6.heap:=λb u e=>by
    have P9:=I6.cq;rw[yP,yW]at P9;by_cases hb:b=s2.heap.objs.size
    ·subst hb;rw[bb]at e;cases e;exact⟨hz,its,oV,DO,IC.1⟩
    ·rw[bR hb]at e;exact(P9 b u e).qI (λc v _ q=>q) (λc q=>by rw[bR (fj q IC.2.1)];exact q) λc xs q=>by rw[bR (fj q IC.2.1)];exact q
   have I7:Inv X aU σ (upd H5 s2.heap.objs.size (.lst ys)) s6:=I3.Zk (yos I6) un cq I6.bare λb hb=>by
    have z:=(hex b hb).1;exact⟨z.2.2.2.1,z.2.1,z.2.2.2.2.1,z.2.2.2.2.2⟩
   have hCn:H5 h3.objs.size=none:=by rw[<- yL];exact I6.free
   have CD:h3.objs.size≠s2.heap.objs.size:=by rw[hC];exact Nat.succ_ne_self _
   refine aaJ _ _ s6 H5 ys I7 (I3.jZ (cn _) (by rw[bR CD];exact hCn)) ?_ (qn _ P6);obtain⟨m,hn,_⟩:=I6.loc;rw[yL]at hn;exact⟨m,hn⟩
  ·rw[<- yA];have lift:∀{α:Type}{t:Sem α}{Q1 Q2:α->Shared->Prop}{s':Shared},wpAny (model X.prog X.w) Y.A t Q1 Y.xe s'->(∀a iQ,Q1 a iQ->Q2 a iQ)->
     wpAny (model X.prog X.w) Y.A t Q2 (notedBy (model X.prog X.w) Y.A (compEnvC scope (uN X scope h3.objs.size) h3.objs.size X.env) λe s'=>R (.ref s2.heap.objs.size) h3.objs.size (.error e) s') s':=λh k=>
    ah h k λ_ _ f=>by rw[yx]at f;exact f.elim
   refine lift (T.item Y yP yW yK yc i _ s5 σ5 H5 Y.xe P7 (IA Dm) t5 go) λr s6 h6=>?_;obtain⟨u,hr,h6⟩:=h6;subst hr;refine lift h6 λ_ s7 h7=>?_;obtain⟨x,H7,I7,r7,y7,t7,fr7⟩:=h7;have I7':=I7.pinned (IA fr7) (T.obj _ _ t7);have ha:=yg _ s7 σ5 H7 x u _ I7' r7 (step x H7 y7);rw[yP,yW,Iy]at ha;refine lift ha λ_ s8 h8=>?_;obtain⟨σ8,H8,I8,q8⟩:=h8;have hb:=yt _ s8 σ8 H8 _ I8 q8;rw[yP,yW,Iy]at hb;refine lift hb λok s9 h9=>?_;obtain⟨H9,I9,q9⟩:=h9;have after:∀{σ':St}{H':Hp}{s':Shared},Inv Y ([((s2.heap.objs.size:Addr),({ cls:=.type "list",data:=.seq its.toArray oV }:Obj))]++Ao fp s7.heap) σ' H' s'->
     Inv Y [] σ' H' s'/\tn (i+1) s'.heap/\(∀b∈fp,H' b=none)/\H' s2.heap.objs.size=none/\s'.heap.get? s2.heap.objs.size=some { cls:=.type "list",data:=.seq its.toArray oV }:=λ{σ' H' s'} J=>by
    have pD:=J.pin (s2.heap.objs.size,_) (dZ _ (eV _ (cA.mpr rfl)));refine⟨J.Dg (λp hp=>by cases hp),T.keep _ _ _ t7 λb hb o e=>(J.pin (b,o) (dZ _ (dZ _ (Dl hb e)))).1,λb hb=>?_,pD.2.1,pD.1⟩;obtain⟨o,e,d⟩:=T.obj _ _ t7 b hb;exact(J.pin (b,o) (dZ _ (dZ _ (Dl hb e)))).2.1
   cases ok with
   |false=>
    rw[ag (by decide)]at q9;rw[ag (by decide)];obtain⟨m',hm,w9⟩:=P8 _ _ _ q9;obtain⟨a1,a2,a3,a4,a5⟩:=after I9;exact⟨m',hm,i+1,σ8,H9,ys,its,oV,a1,a2,a3,a4,a5,DO,w9⟩
   |true=>
    rw[af rfl]at q9;rw[af rfl];have hd:=ye _ s9 σ8 H9 _ I9 q9;rw[yP,yW,Iy]at hd;refine lift hd λv c9 h10=>?_;obtain⟨y,Qa,I10,r10,n10⟩:=h10;obtain⟨m',hm,w10⟩:=P8 _ _ _ n10;obtain⟨a1,a2,a3,a4,a5⟩:=after I10;have cB:=DO.length;refine append_at (hsz:=by rw[eK];lia) a5 λh' sb g'=>?_;have Qb:=Iz _ (cQ (a:=s2.heap.objs.size) (l:=fp));have I11:Inv Y [] σ8 Qa { c9 with heap:=h' }:=a1.turned (t':=c9.toks) (it:=s2.heap.objs.size) (λb o hb e=>(sb.2 b hb).trans e) a4 DL (.inl Qb) (IB.ok.Af _ Qb).2 (by rw[PY];intro p hp;cases hp);refine⟨m',hm,i+1,σ8,Qa,ys++[y],its++[v],oV+1,I11,T.keep _ _ _ a2 λb hb o e=>(sb.2 b (λz=>PZ (z▸hb))).trans e,a3,a4,?_,DO.snoc r10,w10⟩;rw[g',List.push_toArray]
 exact codeAny_compStart_list loop (T.self X.A 0 _ _ _ P5 loop)
theorem Qc(S:e8 X.N X.env.scope N own caps scope){σ:St}(I:Inv X aU σ H s):closureFor scope X.env=pure (lV X.env.cells scope.names []):=
 aaA λx hx hk=>I.ok.has x.1 (S.free x hx hk)
theorem je(hc:X.calm=true)(hi:PI X tg iter wi)(S:e8 X.N X.env.scope N own caps scope)
  (hg:∀cs C s₀ H₀ ex,PG (oU X N scope cs C s₀ H₀ ex) tg g) (ht:∀cs C s₀ H₀ ex,yn (oU X N scope cs C s₀ H₀ ex) jN tt) (he:∀cs C s₀ H₀ ex,PE (oU X N scope cs C s₀ H₀ ex) ku te)
  (hs:∀x,foldedSetIterable iter X.env x=pure x:=by intro _;rfl):PE X (.ListComp ku [⟨tg,iter,jN,0⟩] scope pos) (DM wi own caps g tt te):=by
 intro aU s σ H Q I h;rw[eval_ListComp];refine wpAny_comprehension_free (use:=none) rf hs (Qc S I) S.kind (λx hx hl=>AF S.DK (by rw[<- hl];exact hx)) ?_;refine bj (hi aU s σ H _ I h) λv s1 h1=>bj h1 λDk s2 h2=>?_;obtain⟨it,fp,tn,J,H2,e,I2,T,mK,f2,W,⟨m0,w0⟩,sk⟩:=h2;subst e;refine PR hc S hg ht he I2 T mK f2 w0 sk λD C s' H' ys I' F' hn q=>?_;obtain⟨m,hn⟩:=hn;refine⟨m,hn,λh' sb=>⟨.ref D,_,I'.turned (t':=s'.toks) (λb o hb e=>(sb.2 b hb).trans e) F'.1 F'.2.1 F'.2.2.2.1 F'.2.2.2.2.1 F'.2.2.2.2.2,rf,q⟩⟩
theorem wA{oK Qd:Pos}(hc:X.calm=true)(hN:X.N.Nodup)(hix:X.N[i]?=some x)(hx:X.env.scope.names.lookup x=some .local)(hi:PI X tg iter wi)(S:e8 X.N X.env.scope N own caps scope)
  (hg:∀cs C s₀ H₀ ex,PG (oU X N scope cs C s₀ H₀ ex) tg g) (ht:∀cs C s₀ H₀ ex,yn (oU X N scope cs C s₀ H₀ ex) jN tt) (he:∀cs C s₀ H₀ ex,PE (oU X N scope cs C s₀ H₀ ex) ku te)
  (hsw:swapsWith (.ListComp ku [⟨tg,iter,jN,0⟩] scope pos) (some (.Name x oK)) Qd.line X.env=pure true:=by rfl)
  (hs:∀x,foldedSetIterable iter X.env x=pure x:=by intro _;rfl):PS X (.Assign [.Name x oK] (.ListComp ku [⟨tg,iter,jN,0⟩] scope pos) Qd) (dM (DM wi own caps g tt te) (cG i)):=by
 intro aU s σ H D I h;rw[exec_Assign_Name_used _ _ _ _ hsw];refine ak (wpAny_standAt (ak ?_));show wpAny _ X.A (do let _ <- comprehension (.ListComp ku [⟨tg,iter,jN,0⟩] scope pos) scope X.env _ (newList []) false (eval iter X.env) (some (assign (.Name x oK) X.env))) _ _ s
 refine ak (ah (wpAny_comprehension_free (use:=some (assign (.Name x oK) X.env)) (Q:=λ_ s'=>SP X aU D .next s') rf hs (Qc S I) S.kind (λx hx hl=>AF S.DK (by rw[<- hl];exact hx)) ?_) (λ_ s' hq=>aq (aq hq)) λ_ _ e=>e);refine bj (hi aU s σ H _ I h) λv s1 h1=>bj h1 λDk s2 h2=>?_;obtain⟨it,fp,tn,J,H2,e,I2,T,mK,f2,W,⟨m0,w0⟩,sk⟩:=h2;subst e;refine PR hc S hg ht he I2 T mK f2 w0 sk λD' C s' H' ys I' F' hn q=>?_;obtain⟨m,hn⟩:=hn;refine wpAny_assign_Name (OE (v:=.ref D') I' hN hix (.inl hx) rf (λiQ I'' qS=>?_) (.inr hx));obtain⟨a,sb,ha⟩:=qS;have hCa:C≠a:=by
  rcases ha with ha|ha
  ·rw[ha];exact F'.2.1
  ·exact(F'.2.2.2.2.1 x a ha).symm
 exact⟨m,hn.sameBut sb hCa,λh' sb'=>⟨_,_,I''.turned (t':=iQ.toks) (λb o hb e=>(sb'.2 b hb).trans e) F'.1 F'.2.1 F'.2.2.2.1 F'.2.2.2.2.1 F'.2.2.2.2.2,q⟩⟩
end
noncomputable def aaK(b:Bool):String:=match b with
 |true => "list_iterator"
 |false => "tuple_iterator"
noncomputable def Qe(b:Bool):String:=match b with
 |true => "list"
 |false => "tuple"
noncomputable abbrev lW(b:Bool)(a:Addr)(i:Nat):Obj:={ cls:=.type (aaK b),data:=.fields #[.ref a,.int i 0] }
def iX(b:Bool)(h:Heap)(it a:Addr)(i:Nat):Prop:=h.get? it=some (lW b a i)
def jA(b:Bool)(h:Heap)(a:Addr)(its:Array Value):Prop:=∃o n,h.get? a=some o/\o.cls=.type (Qe b)/\o.data=.seq its n
section
variable(it a:Addr)(i:Nat)(its:Array Value)(o:Obj)(n:Nat)(ed:o.data=.seq its n)
include ed
theorem aaL(x:Value)(hx:its[i]?=some x) :
  Meets (Builtin.«tuple_iterator.__next__» ⟨[.ref it],[]⟩) (λ_ R s=>(s.heap.get? it=some (lW false a i)/\s.heap.get? a=some o)/\
   R (.ok (.ret x)) { s with heap:=s.heap.update it (Obj.mapFields λvs=>vs.setIfInBounds 1 (rawInt ((i:Int)+1))) }):=
 .of_wp λprog w A R s hyp=>by
  obtain⟨h,g,dr,tk,os⟩:=s;obtain⟨⟨e1,e2⟩,fin⟩:=hyp;have gW:its[((i:Nat):Int).toNat]?=some x:=by simpa using hx
  wp_walk
  rw[ed];wp_walk
  rw[gW];wp_walk
  exact⟨_,rf,fin⟩
theorem aaM(x:Value)(hx:its[i]?=some x) :
  Meets (Builtin.«list_iterator.__next__» ⟨[.ref it],[]⟩) (λ_ R s=>(s.heap.get? it=some (lW true a i)/\s.heap.get? a=some o)/\
   R (.ok (.ret x)) { s with heap:=s.heap.update it (Obj.mapFields λvs=>vs.setIfInBounds 1 (rawInt ((i:Int)+1))) }):=
 .of_wp λprog w A R s hyp=>by
  obtain⟨h,g,dr,tk,os⟩:=s;obtain⟨⟨e1,e2⟩,fin⟩:=hyp;have gW:its[((i:Nat):Int).toNat]?=some x:=by simpa using hx
  wp_walk
  rw[ed];wp_walk
  rw[gW];wp_walk
  exact⟨_,rf,fin⟩
theorem aaN(hx:its[i]?=none) :
  Meets (Builtin.«tuple_iterator.__next__» ⟨[.ref it],[]⟩) (λA R s=>A.handled=none/\(s.heap.get? it=some (lW false a i)/\s.heap.get? a=some o)/\
   ∀h' e,(∀b u,b≠it->s.heap.get? b=some u->h'.get? b=some u)->(∃u,h'.get? e=some u/\u.cls=.type "StopIteration")->R (.error (.ref e)) { s with heap:=h' }):=
 .of_wp λprog w A R s hyp=>by
  obtain⟨h,g,dr,tk,os⟩:=s;obtain⟨hh,⟨e1,e2⟩,fin⟩:=hyp;have hh':A.in1.handled=none:=hh;have gW:its[((i:Nat):Int).toNat]?=none:=by simpa using hx
  wp_walk
  rw[ed];wp_walk
  rw[gW];wp_walk
  unfold raiseNew;wp_walk
  refine fin _ _ (λb u hb q=>?_) ⟨_,fi _ rf,rf⟩;exact dt _ (dt _ ((CW _ _ (Ne.symm hb)).trans q))
theorem aaO(hx:its[i]?=none) :
  Meets (Builtin.«list_iterator.__next__» ⟨[.ref it],[]⟩) (λA R s=>A.handled=none/\(s.heap.get? it=some (lW true a i)/\s.heap.get? a=some o)/\
   ∀h' e,(∀b u,b≠it->s.heap.get? b=some u->h'.get? b=some u)->(∃u,h'.get? e=some u/\u.cls=.type "StopIteration")->R (.error (.ref e)) { s with heap:=h' }):=
 .of_wp λprog w A R s hyp=>by
  obtain⟨h,g,dr,tk,os⟩:=s;obtain⟨hh,⟨e1,e2⟩,fin⟩:=hyp;have hh':A.in1.handled=none:=hh;have gW:its[((i:Nat):Int).toNat]?=none:=by simpa using hx
  wp_walk
  rw[ed];wp_walk
  rw[gW];wp_walk
  unfold raiseNew;wp_walk
  refine fin _ _ (λb u hb q=>?_) ⟨_,fi _ rf,rf⟩;exact dt _ (dt _ ((CW _ _ (Ne.symm hb)).trans q))
end
section
variable{prog:Program}{w:World}{A:Around}{E:QV}{s:Shared}{b:Bool}{it a:Addr}{i:Nat}{its:Array Value}
theorem iX.moved(h:Heap)(e:iX b h it a i):iX b (h.update it (Obj.mapFields λvs=>vs.setIfInBounds 1 (rawInt ((i:Int)+1)))) it a (i+1):=qy _ e rfl
theorem aaP{x:Value}(e1:iX b s.heap it a i)(e2:jA b s.heap a its)(hx:its[i]?=some x)
  (q:∀h',iX b h' it a (i+1)->Heap.SameBut it s.heap h'->Q x { s with heap:=h' }):wpAny (model prog w) A (Builtin.SmallTypes.nextOf (.ref it)) Q E s:=by
 obtain⟨o,n,eo,ec,ed⟩:=e2;cases b<;>unfold Builtin.SmallTypes.nextOf
 ·exact ak (ay (T := "tuple_iterator") ⟨_,e1,rf⟩ Ox (call_meets Ox ⟨_,e1,rf⟩ F.entry_tuple_iterator_next (F.args_tuple_iterator_next_1 _) (aaL it a i its o n ed x hx) ⟨⟨e1,eo⟩,aq (q _ (iX.moved _ e1) (mm ..))⟩))
 ·exact ak (ay (T := "list_iterator") ⟨_,e1,rf⟩ slot_listiter_next (call_meets slot_listiter_next ⟨_,e1,rf⟩ entry_listiter_next (args_listiter_next _) (aaM it a i its o n ed x hx) ⟨⟨e1,eo⟩,aq (q _ (iX.moved _ e1) (mm ..))⟩))
theorem aaQ(hh:A.handled=none)(e1:iX b s.heap it a i)(e2:jA b s.heap a its)(hx:its[i]?=none)
  (q:∀h' e,Heap.ExtBut it s.heap h'->(∃u,h'.get? e=some u/\u.cls=.type "StopIteration")->E (.ref e) { s with heap:=h' }):wpAny (model prog w) A (Builtin.SmallTypes.nextOf (.ref it)) Q E s:=by
 obtain⟨o,n,eo,ec,ed⟩:=e2;cases b<;>unfold Builtin.SmallTypes.nextOf
 ·exact ak (ay (T := "tuple_iterator") ⟨_,e1,rf⟩ Ox (call_meets Ox ⟨_,e1,rf⟩ F.entry_tuple_iterator_next (F.args_tuple_iterator_next_1 _) (aaN it a i its o n ed hx) ⟨hh,⟨e1,eo⟩,λh' e k z=>q h' e (λc u hc y=>k c u hc y) z⟩))
 ·exact ak (ay (T := "list_iterator") ⟨_,e1,rf⟩ slot_listiter_next (call_meets slot_listiter_next ⟨_,e1,rf⟩ entry_listiter_next (args_listiter_next _) (aaO it a i its o n ed hx) ⟨hh,⟨e1,eo⟩,λh' e k z=>q h' e (λc u hc y=>k c u hc y) z⟩))
end
theorem nV{prog:Program}{w:World}(b:Bool)(hh:A.handled=none)(it l:Addr)(cZ:l≠it)(items:Array Value) :
  Draws prog w A it [it,l] items.size (λi v=>items[i]?=some v) (λi h=>iX b h it l i/\jA b h l items):=by
 refine⟨λi h st=>⟨_,st.1⟩,λi h h' st k=>⟨k it (by simp) _ st.1,?_⟩,λi s Q E hi st q=>?_,λs Q E st q=>aaQ hh st.1 st.2 (by simp) q⟩
 ·obtain⟨o,n,eo,r⟩:=st.2;exact⟨o,n,k l (by simp) o eo,r⟩
 ·have hx:items[i]?=some items[i]:=by simp[hi]
  refine aaP st.1 st.2 hx λh' e1 sb=>q _ h' s.toks hx ⟨e1,?_⟩ sb;obtain⟨o,n,eo,r⟩:=st.2;exact⟨o,n,(sb.2 l cZ).trans eo,r⟩
structure AI(z TI TO i1 i2:Addr)(mX nW:List Addr):Prop where
 DP:TI≠z
 uP:TO≠z
 yo:i1≠z
 AJ:i2≠z
 Qf:TI≠TO
 ID:TI≠i1
 IE:TI≠i2
 Qg:TO≠i1
 dO2:TO≠i2
 Qh:i1≠i2
 fz:z ∉ mX/\z ∉ nW
 fO:TO ∉ mX/\TO ∉ nW
 f2:i2 ∉ mX
 f1:i1 ∉ nW
section
variable{prog:Program}{w:World}{A:Around}{E:QV}{z TI TO i1 i2:Addr}{mX nW:List Addr}{n1 n2 k:Nat}{P1 P2:Nat->Value->Prop}{S1 S2:Nat->Heap->Prop}{a b:Value}
theorem Draws.but{fp:List Addr}{P:Nat->Value->Prop}{St:Nat->Heap->Prop}(D:PySem.Draws prog w A it fp n P St){k:Nat}(x:St k h)(hc:c ∉ fp)(sb:Heap.SameBut c h h'):St k h':=
 D.frame _ _ _ x λb hb o e=>(sb.2 b λz=>hc (z▸hb)).trans e
def Qi(z TO i1 i2:Addr)(h h':Heap):Prop:=∀c o,c≠z->c≠TO->c≠i1->c≠i2->h.get? c=some o->h'.get? c=some o
set_option maxHeartbeats 2000000 in
theorem Qj(D1:PySem.Draws prog w A i1 mX n1 P1 S1)(D2:PySem.Draws prog w A i2 nW n2 P2 S2)(D:AI z TI TO i1 i2 mX nW)
  (hz:IsZip s.heap z TI TO .none) (hT:IsPair s.heap TI (.ref i1) (.ref i2)) (hO:IsPair s.heap TO a b) (h1:S1 k s.heap) (h2:S2 k s.heap) (l1:k<n1) (l2:k<n2)
  (q:∀x y h' t,P1 k x->P2 k y->IsZip h' z TI TO (rawInt s.heap.objs.size)->IsPair h' TO x y->S1 (k+1) h'->S2 (k+1) h'->IsPair h' s.heap.objs.size x y->h'.objs.size=s.heap.objs.size+1->Qi z TO i1 i2 s.heap h'->
   Q (.ref s.heap.objs.size) { s with heap:=h',toks:=t }):wpAny (model prog w) A (Builtin.«zip.__next__» ⟨[.ref z],[]⟩) (λfin s'=>∃v,fin=.done (.ret v)/\Q v s') E s:=by
 obtain⟨h,g,dr,tk,os⟩:=s;have nX:h.get? z=some _:=hz;have IF:h.get? TI=some _:=hT;wp_walk using wpAny_onRaise,D1.item k _ _ _ l1
 ·exact Draws.but D1 h1 D.fz.1 (mm ..)
 intro x ha ta p1 sa ka;replace ka:Heap.SameBut i1 (h.update z _) ha:=ka;have zz:=mm h z (Obj.mapFields λvs=>vs.setIfInBounds 0 Value.ellipsis);have DQ:ha.get? TO=some _:=((ka.2 TO D.Qg).trans (zz.2 TO D.uP)).trans hO;have tt:=mm ha TO (Obj.mapSeq λvs=>vs.setIfInBounds 0 x);wp_walk using wpAny_onRaise,aE DQ rfl,D2.item k _ _ _ l2
 all_goals try exact Draws.but D2 (Draws.but D2 (Draws.but D2 h2 D.fz.2 zz) D.f1 ka) D.fO.2 tt
 intro y hb tb p2 sb kb;replace kb:Heap.SameBut i2 (ha.update TO _) hb:=kb;have Qk:hb.get? TO=some { cls:=.type "tuple",data:=.seq #[x,b] }:=by
  rw[kb.2 TO D.dO2,qy _ DQ rfl];simp[Obj.mapSeq]
 have AK:hb.get? z=some { cls:=.type "zip",dict:=none,data:=.fields #[.ellipsis,.bool false,.bool false,.ref TI,.ref TO],slots:=#[] }:=by
  rw[kb.2 z D.AJ.symm,tt.2 z D.uP.symm,ka.2 z D.yo.symm,qy _ nX rfl];simp[Obj.mapFields]
 have nz:TO≠z:=D.uP;wp_walk using aE Qk rfl
 refine⟨_,rf,?_⟩;dsimp only;have sz:hb.objs.size=h.objs.size:=by rw[kb.1,tt.1,ka.1,zz.1]
 have uu:=mm hb TO (Obj.mapSeq λvs=>vs.setIfInBounds (0+1) y);have Ql:(hb.update TO (Obj.mapSeq λvs=>vs.setIfInBounds (0+1) y)).get? TO=some { cls:=.type "tuple",data:=.seq #[x,y] }:=by
  rw[qy _ Qk rfl];simp[Obj.mapSeq]
 have ex:(#[x,b].setIfInBounds (0+1) y).toList.toArray=#[x,y]:=by simp
 rw[ex];generalize hb.update TO (Obj.mapSeq λvs=>vs.setIfInBounds (0+1) y)=hc at uu Ql |-;have szc:hc.objs.size=h.objs.size:=uu.1.trans sz;have new:=fi hc (o:={ cls:=.type "tuple",data:=.seq #[x,y] }) rfl;have sL:=lM hc { cls:=.type "tuple",data:=.seq #[x,y] };have old:∀c o,hc.get? c=some o->(hc.push { cls:=.type "tuple",data:=.seq #[x,y] }).get? c=some o:=λc o e=>dt _ e;rw[szc]at new sL |-;generalize hc.push { cls:=.type "tuple",data:=.seq #[x,y] }=hp at new sL old |-;have hzp:=old z _ ((uu.2 z D.uP.symm).trans AK);have v1:=mm hp z (Obj.mapFields λvs=>vs.setIfInBounds 0 (rawInt h.objs.size));have v2:=mm (hp.update z (Obj.mapFields λvs=>vs.setIfInBounds 0 (rawInt h.objs.size))) z (Obj.mapFields λvs=>vs.setIfInBounds 1 (Value.bool false));have Qm:((hp.update z (Obj.mapFields λvs=>vs.setIfInBounds 0 (rawInt h.objs.size))).update z (Obj.mapFields λvs=>vs.setIfInBounds 1 (Value.bool false))).get? z=some { cls:=.type "zip",dict:=none,data:=.fields #[rawInt h.objs.size,.bool false,.bool false,.ref TI,.ref TO],slots:=#[] }:=by
  rw[qy _ (qy _ hzp rfl) rfl];simp[Obj.mapFields]
 have fwd:∀c o,c≠z->hc.get? c=some o->((hp.update z (Obj.mapFields λvs=>vs.setIfInBounds 0 (rawInt h.objs.size))).update z (Obj.mapFields λvs=>vs.setIfInBounds 1 (Value.bool false))).get? c=some o:=λc o ne e=>((v2.2 c ne).trans (v1.2 c ne)).trans (old c o e);have Qn:=(v2.1.trans v1.1).trans sL;have Qo:=((v2.2 h.objs.size (lK (cX nX))).trans (v1.2 h.objs.size (lK (cX nX)))).trans new;generalize (hp.update z (Obj.mapFields λvs=>vs.setIfInBounds 0 (rawInt h.objs.size))).update z (Obj.mapFields λvs=>vs.setIfInBounds 1 (Value.bool false))=hF at Qm fwd Qn Qo |-;refine q x y hF tb p1 p2 Qm (fwd TO _ D.uP Ql) (D1.frame _ _ _ (Draws.but D1 (Draws.but D1 (Draws.but D1 sa D.fO.1 tt) D.f2 kb) D.fO.1 uu) λc hm o e=>fwd c o (λj=>D.fz.1 (j▸hm)) e)
  (D2.frame _ _ _ (Draws.but D2 sb D.fO.2 uu) λc hm o e=>fwd c o (λj=>D.fz.2 (j▸hm)) e) Qo Qn λc o n1 n2 n3 n4 e=>fwd c o n1 ?_
 rw[uu.2 c n2,kb.2 c n4,tt.2 c n2,ka.2 c n3,zz.2 c n1];exact e
end
section
variable{prog:Program}{w:World}{A:Around}{E:QV}{z TI TO i1 i2:Addr}{mX nW:List Addr}{n1 n2 k:Nat}{P1 P2:Nat->Value->Prop}{S1 S2:Nat->Heap->Prop}{a b:Value}
set_option maxHeartbeats 2000000 in
theorem Qp{Q:Fin->Shared->Prop}(D1:PySem.Draws prog w A i1 mX n1 P1 S1)(D2:PySem.Draws prog w A i2 nW n2 P2 S2)(D:AI z TI TO i1 i2 mX nW)
  (hz:IsZip s.heap z TI TO .none) (hT:IsPair s.heap TI (.ref i1) (.ref i2)) (hO:IsPair s.heap TO a b) (h1:S1 k s.heap) (h2:S2 k s.heap) (aaR:k=n1\/(k<n1/\k=n2))
  (q:∀h' e t,Qi z TO i1 i2 s.heap h'->(∃o,h'.get? e=some o/\o.cls=.type "StopIteration")->E (.ref e) { s with heap:=h',toks:=t }):wpAny (model prog w) A (Builtin.«zip.__next__» ⟨[.ref z],[]⟩) Q E s:=by
 obtain⟨h,g,dr,tk,os⟩:=s;have nX:h.get? z=some _:=hz;have IF:h.get? TI=some _:=hT;have zz:=mm h z (Obj.mapFields λvs=>vs.setIfInBounds 0 Value.ellipsis);have Qq:(h.update z (Obj.mapFields λvs=>vs.setIfInBounds 0 Value.ellipsis)).get? z=some { cls:=.type "zip",dict:=none,data:=.fields #[.ellipsis,.bool false,.bool false,.ref TI,.ref TO],slots:=#[] }:=by
  rw[qy _ nX rfl];simp[Obj.mapFields]
 rcases aaR with rfl|⟨l1,rfl⟩
 ·wp_walk using wpAny_onRaise,D1.done
  all_goals try exact Draws.but D1 h1 D.fz.1 zz
  intro hx e kx ⟨oe,xe,xc⟩;have IG:hx.get? z=some _:=kx z _ D.yo.symm Qq;have IH:e≠z:=λy=>by
   subst y;rw[IG]at xe;cases xe;simp at xc
  wp_walk
  have vv:=mm hx z (Obj.mapFields λvs=>vs.setIfInBounds 0 Value.none);exact q _ e _ (λc o m1 m2 m3 m4 y=>(vv.2 c m1).trans (kx c o m3 ((zz.2 c m1).trans y))) ⟨oe,(vv.2 e IH).trans xe,xc⟩
 ·wp_walk using wpAny_onRaise,D1.item k _ _ _ l1
  all_goals try exact Draws.but D1 h1 D.fz.1 zz
  intro x ha ta p1 sa ka;replace ka:Heap.SameBut i1 (h.update z _) ha:=ka;have DQ:ha.get? TO=some _:=((ka.2 TO D.Qg).trans (zz.2 TO D.uP)).trans hO;have tt:=mm ha TO (Obj.mapSeq λvs=>vs.setIfInBounds 0 x);wp_walk using wpAny_onRaise,aE DQ rfl,D2.done
  all_goals try exact Draws.but D2 (Draws.but D2 (Draws.but D2 h2 D.fz.2 zz) D.f1 ka) D.fO.2 tt
  intro hx e kx ⟨oe,xe,xc⟩;replace kx:Heap.ExtBut i2 (ha.update TO _) hx:=kx;have IG:hx.get? z=some _:=kx z _ D.AJ.symm ((tt.2 z D.uP.symm).trans ((ka.2 z D.yo.symm).trans Qq));have IH:e≠z:=λy=>by
   subst y;rw[IG]at xe;cases xe;simp at xc
  wp_walk
  have vv:=mm hx z (Obj.mapFields λvs=>vs.setIfInBounds 0 Value.none);exact q _ e _ (λc o m1 m2 m3 m4 y=>(vv.2 c m1).trans (kx c o m4 ((tt.2 c m2).trans ((ka.2 c m3).trans ((zz.2 c m1).trans y))))) ⟨oe,(vv.2 e IH).trans xe,xc⟩
end
def Sq(b:Bool)(K:Frag)(H:Hp)(a:Addr)(xs:List V):Prop:=match b with
 |true=>dQ K H a xs
 |false=>bq K H a xs
theorem Inv.sq{σ:St}(I:Inv X aU σ H s)(h:Sq b X.K H a xs):∃its:List Value,Vals xs its/\jA b s.heap a its.toArray/\xs.length<=sizeLine:=by
 cases b with
 |true=>
  obtain⟨its,rv,p,hz⟩:=I.list h;obtain⟨o,eo,ec,n,ed⟩:=p.isList;exact⟨its,rv,⟨o,n,eo,ec,ed⟩,hz⟩
 |false=>
  obtain⟨its,rv,⟨o,eo,ec,n,ed⟩,hz⟩:=I.tuple h;exact⟨its,rv,⟨o,n,eo,ec,ed⟩,hz⟩
theorem Inv.II{σ:St}{ys:List V}(I:Inv X aU σ H s)(h:Sq b X.K H a xs)(h':Sq b X.K H a ys):xs=ys:=by
 cases b with
 |true=>exact I.OQ h h'
 |false=>exact I.OR h h'
theorem iX.up(x:iX b h it a i)(k:∀o,h.get? it=some o->h'.get? it=some o):iX b h' it a i:=k _ x
theorem iX.obj(x:iX b h it a i):∃o,h.get? it=some o/\∀v,o.data≠.cell v:=⟨_,x,λv z=>by cases z⟩
theorem jA.obj(x:jA b h a its):∃o,h.get? a=some o:=let ⟨o,_,e,_⟩:=x;⟨o,e⟩
section
variable{X:Cx}{aU:List (Addr×Obj)}{σ:St}{H:Hp}{s:Shared}{h':Heap}
theorem Inv.AM{t':Nat}{ch:List Addr}(I:Inv X aU σ H s)(k:∀b o,b ∉ ch->s.heap.get? b=some o->h'.get? b=some o)(hf:∀b∈ch,iV X aU H b):Inv X aU σ H { s with heap:=h',toks:=t' }:=by
 have Ai:∀b u,H b=some u->b ∉ ch:=λb u e z=>by rw[(hf b z).1]at e;cases e
 refine I.step (g':=s.gens) (d':=s.drawn) (ch:=ch) (λb hb=>⟨(hf b hb).2.2.2.1,(hf b hb).2.1,(hf b hb).2.2.2.2.1,(hf b hb).2.2.2.2.2⟩) (λb o _ _ hc e _=>k b o hc e) (λb o _ _ hc e _=>⟨o.slots,k b o hc e⟩) (λ_ _ _ _ n=>n)
  (λb o hc e=>⟨o,k b o hc e⟩) (λ_ _ e=>e) (λ_ _ _ e=>e) (λb ps e=>⟨#[],by rw[e];simp⟩) (λm hm=>?_) (λb u e=>?_) I.bare
 ·obtain⟨o,es,ep,ho,r⟩:=hm;exact⟨o,es,ep,k _ o (λz=>(hf _ z).2.1 rf) ho,r⟩
 ·refine(I.cq b u e).qI (λc v hc q=>k c v ?_ q) (λ_ q=>q) λ_ _ q=>q;rcases hc with z|z
  ·rw[z];exact Ai b u e
  ·exact Ai c _ z
theorem Inv.wB{o:HO}(I:Inv X aU σ H s)(f:iV X aU H p)(new:gP X.prog X.w (upd H p o) s.heap p o):Inv X aU σ (upd H p o) s:=by
 have hp:=f.1;refine I.step (g':=s.gens) (d':=s.drawn) (t':=s.toks) (h':=s.heap) (ch:=[p]) (λb hb=>?_) (λb o _ _ _ e _=>e) (λb o _ _ _ e _=>⟨o.slots,e⟩) (λb o hc e n=>?_)
  (λb o _ e=>⟨o,e⟩) (λb xs e=>by rw[bR (fj e hp)];exact e) (λb o u e=>by rw[bR (fj e hp)];exact e) (λb ps e=>⟨#[],by rw[bR (fj e hp),e];simp⟩) (λm hm=>hm) (λb u e=>?_) I.bare
 ·have e:=cA.mp hb;subst e;exact⟨f.2.2.2.1,f.2.1,f.2.2.2.2.1,f.2.2.2.2.2⟩
 ·rw[bR (λz=>hc (by rw[z];exact cA.mpr rf))];exact n
 ·by_cases hb:b=p
  ·subst hb;rw[bb]at e;cases e;exact new
  ·rw[bR hb]at e;exact(I.cq b u e).qI (λc v _ q=>q) (λc q=>by rw[bR (fj q hp)];exact q) λc xs q=>by rw[bR (fj q hp)];exact q
end
section
variable{prog:Program}{w:World}{A:Around}{E:QV}{s:Shared}
theorem yq{T id:String}{Q:Option Value->Shared->Prop}(ty:s.TypeIs v T)(sl:Slot T (Str.ofString "__next__") id)
  (h:wpAny (model prog w) A (call (.builtin id) [v]) (λx s'=>Q (some x) s') (λe s'=>∃c o,e=.ref c/\s'.heap.get? c=some o/\o.cls=.type "StopIteration"/\Q none s') s):wpAny (model prog w) A (pyNext v) Q E s:=by
 unfold pyNext;refine ak (wpAny_attempt (ay ty sl (ah h (λx s' y=>aq y) λe s' y=>?_)));obtain⟨c,o,rfl,e1,e2,y⟩:=y;exact ak (wpAny_isInstance (b:=true) ⟨o,e1,e2⟩ isSubtype_stop (aq y))
theorem yr(b:Bool)(e:jA b s.heap a its)(q:Q (.ref s.heap.objs.size) { s with heap:=s.heap.push (lW b a 0) }):wpAny (model prog w) A (pyIter (.ref a)) Q E s:=by
 obtain⟨o,n,eo,ec,ed⟩:=e;cases b
 ·exact wpAny_pyIter_tuple ⟨o,eo,ec,n,ed⟩ q
 ·exact wpAny_pyIter_list ⟨o,eo,ec,n,ed⟩ q
end
structure Qr(b1 b2:Bool)(l1 l2:Addr)(h h':Heap):Prop where
 zip:IsZip h' (h.objs.size+4) (h.objs.size+2) (h.objs.size+3) .none
 Qs:IsPair h' (h.objs.size+2) (.ref h.objs.size) (.ref (h.objs.size+1))
 out:IsPair h' (h.objs.size+3) .none .none
 one:iX b1 h' h.objs.size l1 0
 two:iX b2 h' (h.objs.size+1) l2 0
 old:∀c o,h.get? c=some o->h'.get? c=some o
theorem jA.up(x:jA b h a its)(k:∀o,h.get? a=some o->h'.get? a=some o):jA b h' a its:=by
 obtain⟨o,n,eo,r⟩:=x;exact⟨o,n,k o eo,r⟩
theorem aaS(b1 b2:Bool)(l1 l2:Addr)(xs ys:Array Value) :
  Meets (Builtin.«zip.__new__» ⟨[.type "zip",.ref l1,.ref l2],[]⟩) (λ_ R s=>(jA b1 s.heap l1 xs/\jA b2 s.heap l2 ys)/\
   ∀h',Qr b1 b2 l1 l2 s.heap h'->R (.ok (.ret (.ref (s.heap.objs.size+4)))) { s with heap:=h' }):=
 .of_wp λprog w A R s hyp=>by
  obtain⟨h,g,dr,tk,os⟩:=s;obtain⟨⟨q1,q2⟩,fin⟩:=hyp;have sub:=sub_zip;have q2':jA b2 (Shared.mk (h.push (lW b1 l1 0)) g dr tk os).heap l2 ys:=q2.up λo e=>dt _ e;wp_walk using yr b1 q1,yr b2 q2'
  dsimp only;have z1:=lM h (lW b1 l1 0);generalize e1:h.push (lW b1 l1 0)=ha at *;have z2:=lM ha (lW b2 l2 0);generalize e2:ha.push (lW b2 l2 0)=hb at *;generalize e3:hb.push _=hc;have z3:hc.objs.size=hb.objs.size+1:=by rw[<- e3];exact lM ..
  generalize e4:hc.push _=hd;have z4:hd.objs.size=hc.objs.size+1:=by rw[<- e4];exact lM ..
  rw[z1]at z2;rw[z2]at z3;rw[z3]at z4;have a1:ha.get? h.objs.size=some (lW b1 l1 0):=by rw[<- e1];exact fi _ rf
  have a2:hb.get? (h.objs.size+1)=some (lW b2 l2 0):=by rw[<- e2,<- z1];exact fi _ rf
  have a3:hc.get? (h.objs.size+2)=some { cls:=.type "tuple",data:=.seq #[.ref h.objs.size,.ref (h.objs.size+1)] }:=by
   rw[<- e3,<- z2,<- z1];exact fi _ rf
  have a4:hd.get? (h.objs.size+3)=some { cls:=.type "tuple",data:=.seq #[.none,.none] }:=by
   rw[<- e4,<- z3];exact fi _ rf
  have u1:∀c o,h.get? c=some o->ha.get? c=some o:=λc o y=>by rw[<- e1];exact dt _ y
  have u2:∀c o,ha.get? c=some o->hb.get? c=some o:=λc o y=>by rw[<- e2];exact dt _ y
  have u3:∀c o,hb.get? c=some o->hc.get? c=some o:=λc o y=>by rw[<- e3];exact dt _ y
  have u4:∀c o,hc.get? c=some o->hd.get? c=some o:=λc o y=>by rw[<- e4];exact dt _ y
  have u5:∀(r:Obj) c o,hd.get? c=some o->(hd.push r).get? c=some o:=λr c o y=>dt _ y;rw[z2,z3,z4];refine⟨_,rf,fin _ ⟨?_,u5 _ _ _ (u4 _ _ a3),u5 _ _ _ a4,u5 _ _ _ (u4 _ _ (u3 _ _ (u2 _ _ a1))),u5 _ _ _ (u4 _ _ (u3 _ _ a2)),λc o y=>u5 _ _ _ (u4 _ _ (u3 _ _ (u2 _ _ (u1 _ _ y))))⟩⟩;rw[<- z4];exact fi _ rf
theorem aaT(b:Bool)(l:Addr)(xs:Array Value)(o:Obj)(n:Nat)(ec:o.cls=.type (Qe b))(ed:o.data=.seq xs n) :
  Meets (Builtin.«enumerate.__new__» ⟨[.type "enumerate",.ref l],[]⟩) (λ_ R s=>s.heap.get? l=some o/\
   ∀h',IsEnum h' (s.heap.objs.size+1) s.heap.objs.size 0 .none->iX b h' s.heap.objs.size l 0->(∀c o,s.heap.get? c=some o->h'.get? c=some o)->R (.ok (.ret (.ref (s.heap.objs.size+1)))) { s with heap:=h' }):=
 .of_wp λprog w A R s hyp=>by
  obtain⟨h,g,dr,tk,os⟩:=s;obtain⟨e1,fin⟩:=hyp;have sub:=sub_enumerate;have q1:jA b (Shared.mk h g dr tk os).heap l xs:=⟨o,n,e1,ec,ed⟩;have done:∀(e:Addr)(r:Obj),r={ cls:=.type "enumerate",data:=.fields #[.none,.bool false,.ref h.objs.size,rawInt 0,.none,.none] }->e=h.objs.size+1->R (.ok (.ret (.ref e))) (Shared.mk ((h.push (lW b l 0)).push r) g dr tk os):=by
   rintro e r rfl rfl;refine fin _ ?_ (dt _ (fi _ rf)) λc o y=>dt _ (dt _ y);have z1:=lM h (lW b l 0);show Heap.get? _ (h.objs.size+1)=_;rw[<- z1];exact fi _ rf
  wp_walk using yr b q1
  refine wpAny_stack_any λst=>?_;wp_walk
  split
  ·rename_i c _ _ _ _ _
   rcases Bool.eq_false_or_eq_true (c==Value.type "enumerate")with y|y
   ·rw[y];wp_walk using yr b q1
    exact⟨_,rf,done _ _ rf (lM ..)⟩
   ·rw[y];wp_walk using yr b q1
    exact⟨_,rf,done _ _ rf (lM ..)⟩
  ·wp_walk using yr b q1
   exact⟨_,rf,done _ _ rf (lM ..)⟩
section
variable{prog:Program}{w:World}{A:Around}{E:QV}{s:Shared}
theorem Qt(b1 b2:Bool){l1 l2:Addr}{xs ys:Array Value}(q1:jA b1 s.heap l1 xs)(q2:jA b2 s.heap l2 ys)
  (q:∀h',Qr b1 b2 l1 l2 s.heap h'->Q (.ref (s.heap.objs.size+4)) { s with heap:=h' }):wpAny (model prog w) A (call (.type "zip") [.ref l1,.ref l2]) Q E s:=
 callType_new F.called_zip (by decide) (F.typeCall_zip_2 _ _) (F.newCall_zip_2 _ _) (λv=>F.args_object_init_3 v _ _) F.entry_zip_new (aaS b1 b2 l1 l2 xs ys) ⟨⟨q1,q2⟩,λh' N=>⟨⟨_,N.zip,rfl⟩,q h' N⟩⟩
theorem aaU(b:Bool){xs:Array Value}(q1:jA b s.heap l xs)
  (q:∀h',IsEnum h' (s.heap.objs.size+1) s.heap.objs.size 0 .none->iX b h' s.heap.objs.size l 0->(∀c o,s.heap.get? c=some o->h'.get? c=some o)->Q (.ref (s.heap.objs.size+1)) { s with heap:=h' }):wpAny (model prog w) A (call (.type "enumerate") [.ref l]) Q E s:=by
 obtain⟨o,n,eo,ec,ed⟩:=q1;exact callType_new F.called_enumerate (by decide) (F.typeCall_enumerate_1 _) (F.newCall_enumerate_1 _) (λv=>F.args_object_init_2 v _) F.entry_enumerate_new (aaT b l xs o n ec ed) ⟨eo,λh' a1 a2 a3=>⟨⟨_,a1,rf⟩,q h' a1 a2 a3⟩⟩
end
noncomputable def yu(K:Frag)(b1 b2:Bool)(l1 l2:Addr):It:=
 ⟨λi H=>∃xs ys x y,Sq b1 K H l1 xs/\Sq b2 K H l2 ys/\xs[i]?=some x/\ys[i]?=some y,
   λi H v H'=>∃p x y,v=.ref p/\H p=none/\H'=upd H p (.tup [x,y])/\(∀xs,Sq b1 K H l1 xs->xs[i]?=some x)/\∀ys,Sq b2 K H l2 ys->ys[i]?=some y,
   λi H=>∃xs ys,Sq b1 K H l1 xs/\Sq b2 K H l2 ys/\(i=xs.length\/(i<xs.length/\i=ys.length))⟩
noncomputable def yv(K:Frag)(b:Bool)(l:Addr):It:=
 ⟨λi H=>∃xs x,Sq b K H l xs/\xs[i]?=some x,
   λi H v H'=>∃p x,v=.ref p/\H p=none/\H'=upd H p (.tup [.int i,x])/\∀xs,Sq b K H l xs->xs[i]?=some x,
   λi H=>∃xs,Sq b K H l xs/\i=xs.length⟩
theorem Qu{P:Program}{w:World}{x y:V}{u:Value}(hp:IsPair h p u v)(rx:RelV x u)(ry:RelV y v):gP P w H h p (.tup [x,y]):=
 ⟨by show 2<=sizeLine;decide,[u,v],.cons rx (.cons ry .nil),_,hp,rfl,rfl,_,rfl⟩
structure yw(z TI TO i1 i2 l1 l2:Addr):Prop where
 sep:AI z TI TO i1 i2 [i1,l1] [i2,l2]
 n1:l1≠i1
 n2:l2≠i2
theorem aaV{P:Program}{w:World}{K:Frag}{pt:Pos}(b1 b2:Bool){z TI TO i1 i2 l1 l2:Addr}(D:yw z TI TO i1 i2 l1 l2) :
  Turn P w K (.Tuple es kt pt) (yu K b1 b2 l1 l2) [z,TI,TO,i1,i2] z (λi h=>IsZip h z TI TO .none/\IsPair h TI (.ref i1) (.ref i2)/\(∃a b,IsPair h TO a b)/\iX b1 h i1 l1 i/\iX b2 h i2 l2 i) where
 mem:=by simp
 obj:=λi h st b hb=>by
  obtain⟨hz,sM,⟨a,c,qT⟩,h1,h2⟩:=st;simp only[cV,aF,qz]at hb;rcases hb with rfl|rfl|rfl|rfl|rfl
  ·exact⟨_,hz,λv q=>by cases q⟩
  ·exact⟨_,sM,λv q=>by cases q⟩
  ·exact⟨_,qT,λv q=>by cases q⟩
  ·exact h1.obj
  ·exact h2.obj
 keep:=λi h h' st k=>by
  obtain⟨hz,sM,⟨a,c,qT⟩,h1,h2⟩:=st;exact⟨k z (by simp) _ hz,k TI (by simp) _ sM,⟨a,c,k TO (by simp) _ qT⟩,h1.up λo e=>k i1 (by simp) o e,h2.up λo e=>k i2 (by simp) o e⟩
 item:=by
  intro X hP hw hK hc i aU s σ H E I hf st hg;subst hP hw hK;obtain⟨hz,sM,⟨ta,tb,qT⟩,h1,h2⟩:=st;obtain⟨xs,ys,x,y,lX,lY,hx,hy⟩:=hg;obtain⟨lZ,oW,p1,jO⟩:=I.sq lX;obtain⟨uQ,wC,p2,pR⟩:=I.sq lY;obtain⟨u,hu,ru⟩:=oW.get hx;obtain⟨v,hv,rv⟩:=wC.get hy;have lx:i<lZ.toArray.size:=by rw[eK];exact(dC.mp hu).1
  have ly:i<uQ.toArray.size:=by rw[eK];exact(dC.mp hv).1
  have hh:X.A.in1.handled=none:=I.ok.hd hc;have aaW:z<s.heap.objs.size:=cX hz;refine yq ⟨_,hz,rf⟩ qA (az qA ⟨_,hz,rf⟩ F.entry_zip_next (Qj (nV b1 hh i1 l1 D.n1 lZ.toArray) (nV b2 hh i2 l2 D.n2 uQ.toArray) D.sep hz sM qT ⟨h1,p1⟩ ⟨h2,p2⟩ lx ly λu' v' h' tk e1 e2 a1 a2 a3 a4 a5 a6 hk=>?_) (CZ _));have eu:u'=u:=by
   have uR:lZ.toArray[i]?=some u':=e1;rw[List.getElem?_toArray,hu]at uR;exact(dq uR).symm
  have ev:v'=v:=by
   have Qv:uQ.toArray[i]?=some v':=e2;rw[List.getElem?_toArray,hv]at Qv;exact(dq Qv).symm
  subst eu ev;refine⟨_,rf,wpAny_letOwnedTupleGo_zip a1 λqS aaX sb=>?_⟩;have iL:∀b o,b ∉ [z,TI,TO,i1,i2]->s.heap.get? b=some o->qS.get? b=some o:=λb o hb e=>by
   have:b≠z/\b≠TI/\b≠TO/\b≠i1/\b≠i2:=by simpa using hb
   exact(sb.2 b this.1).trans (hk b o this.1 this.2.2.1 this.2.2.2.1 this.2.2.2.2 e)
  have I1:Inv X aU σ H { s with heap:=qS,toks:=tk }:=I.AM iL hf;have hpz:s.heap.objs.size≠z:=lK aaW;have AN:IsPair qS s.heap.objs.size u' v':=(sb.2 _ hpz).trans a5;have fp:iV X aU H s.heap.objs.size:=I.jZ (cn _) (I.cq.fresh (cn _));have I2:=I1.wB (o:=.tup [x,y]) fp (Qu AN ru rv);have up:∀b,b≠z->∀o,h'.get? b=some o->qS.get? b=some o:=λb hb o e=>(sb.2 b hb).trans e;refine⟨.ref s.heap.objs.size,_,I2,rf,⟨_,x,y,rf,fp.1,rf,λxs' q=>by rw[I.II q lX];exact hx,λys' q=>by rw[I.II q lY];exact hy⟩,⟨aaX,up _ D.sep.DP _ (hk _ _ D.sep.DP D.sep.Qf D.sep.ID D.sep.IE sM),⟨_,_,up _ D.sep.uP _ a2⟩,a3.1.up λo e=>up _ D.sep.yo o e,a4.1.up λo e=>up _ D.sep.AJ o e⟩,λb hb=>?_⟩;rw[bR]
  ·exact(hf b hb).1
  ·obtain⟨o,e⟩:∃o,s.heap.get? b=some o:=by
    simp only[cV,aF,qz]at hb;rcases hb with rfl|rfl|rfl|rfl|rfl
    ·exact⟨_,hz⟩
    ·exact⟨_,sM⟩
    ·exact⟨_,qT⟩
    ·exact⟨_,h1.obj.choose_spec.1⟩
    ·exact⟨_,h2.obj.choose_spec.1⟩
   exact fK (cX e)
 done:=by
  intro X hP hw hK hc i aU s σ H E I hf st hg;subst hP hw hK;obtain⟨hz,sM,⟨ta,tb,qT⟩,h1,h2⟩:=st;obtain⟨xs,ys,lX,lY,hx⟩:=hg;obtain⟨lZ,oW,p1,jO⟩:=I.sq lX;obtain⟨uQ,wC,p2,pR⟩:=I.sq lY;have hh:X.A.in1.handled=none:=I.ok.hd hc;have IJ:=oW.length;have ll2:=wC.length;refine yq ⟨_,hz,rf⟩ qA (az qA ⟨_,hz,rf⟩ F.entry_zip_next (Qp (nV b1 hh i1 l1 D.n1 lZ.toArray) (nV b2 hh i2 l2 D.n2 uQ.toArray) D.sep hz sM qT ⟨h1,p1⟩ ⟨h2,p2⟩ ?_ λh' e tk hk ⟨o,e1,e2⟩=>⟨e,o,rf,e1,e2,?_⟩) (CZ _))
  ·rw[eK,eK];lia
  ·refine⟨rf,I.AM (λb o hb y=>?_) hf⟩
   have:b≠z/\b≠TI/\b≠TO/\b≠i1/\b≠i2:=by simpa using hb
   exact hk b o this.1 this.2.2.1 this.2.2.2.1 this.2.2.2.2 y
 self:=λ_ _ _ _ _ st h=>wpAny_pyIter_zip st.1 h
theorem aaY{e:Addr}(x:IsEnum h e it ((i:Int)+1) v):IsEnum h e it (((i+1:Nat)):Int) v:=x
theorem fV(i j:Nat)(h:i≠j:=by decide):@Ne Addr (n+i) (n+j):=λz=>h (Nat.add_left_cancel z)
theorem mY(i:Nat)(h:l<n):@Ne Addr (n+i) l:=lK (lJ h (rZ n i))
theorem oX{b:Addr}(h1:a≠b)(h2:a≠c):a ∉ [b,c]:=by simp[h1,h2]
theorem aaZ{P:Program}{w:World}{K:Frag}{pt:Pos}(b:Bool){e:Addr}(IK:e≠it)(AO:l≠e)(oY:l≠it) :
  Turn P w K (.Tuple es kt pt) (yv K b l) [e,it] e (λi h=>(∃old,IsEnum h e it i old)/\iX b h it l i) where
 mem:=by simp
 obj:=λi h st c hc=>by
  obtain⟨⟨old,he⟩,h1⟩:=st;simp only[cV,qz,aF]at hc;rcases hc with rfl|rfl
  ·exact⟨_,he,λv q=>by cases q⟩
  ·exact h1.obj
 keep:=λi h h' st k=>by
  obtain⟨⟨old,he⟩,h1⟩:=st;exact⟨⟨old,k e (by simp) _ he⟩,h1.up λo q=>k it (by simp) o q⟩
 item:=by
  intro X hP hw hK hc i aU s σ H E I hf st hg;subst hP hw hK;obtain⟨⟨old,he⟩,h1⟩:=st;obtain⟨xs,x,hq,hx⟩:=hg;obtain⟨lZ,oW,p1,jO⟩:=I.sq hq;obtain⟨u,hu,ru⟩:=oW.get hx;have lx:i<lZ.toArray.size:=by rw[eK];exact(dC.mp hu).1
  have hh:X.A.in1.handled=none:=I.ok.hd hc;have eIn:e<s.heap.objs.size:=cX he;refine wpAny_pyNext_enum_itemD (nV b hh it l oY lZ.toArray) he ⟨h1,p1⟩ lx IK (by simp;exact⟨IK,AO.symm⟩) λu' h' tk e1 a1 a2 a3 a4 hk=>?_;have eu:u'=u:=by
   have uR:lZ.toArray[i]?=some u':=e1;rw[List.getElem?_toArray,hu]at uR;exact(dq uR).symm
  subst eu;refine⟨_,rf,wpAny_letOwnedTupleGo_enum a1 λqS aa0 sb=>?_⟩;have iL:∀c o,c ∉ [e,it]->s.heap.get? c=some o->qS.get? c=some o:=λc o hc q=>by
   have:c≠e/\c≠it:=by simpa using hc
   exact(sb.2 c this.1).trans (hk c o this.1 this.2 q)
  have I1:Inv X aU σ H { s with heap:=qS,toks:=tk+1 }:=I.AM iL hf;have DR:s.heap.objs.size≠e:=lK eIn;have AN:IsPair qS s.heap.objs.size (.int i tk) u':=(sb.2 _ DR).trans a3;have fp:iV X aU H s.heap.objs.size:=I.jZ (cn _) (I.cq.fresh (cn _));have I2:=I1.wB (o:=.tup [.int i,x]) fp (Qu AN ⟨tk,rfl⟩ ru);refine⟨.ref s.heap.objs.size,_,I2,rf,⟨_,x,rf,fp.1,rf,λxs' q=>by rw[I.II q hq];exact hx⟩,⟨⟨u',aaY aa0⟩,a2.1.up λo q=>(sb.2 it IK.symm).trans q⟩,λc hc=>?_⟩;rw[bR]
  ·exact(hf c hc).1
  ·obtain⟨o,q⟩:∃o,s.heap.get? c=some o:=by
    simp only[cV,qz,aF]at hc;rcases hc with rfl|rfl
    ·exact⟨_,he⟩
    ·exact⟨_,h1.obj.choose_spec.1⟩
   exact fK (cX q)
 done:=by
  intro X hP hw hK hc i aU s σ H E I hf st hg;subst hP hw hK;obtain⟨⟨old,he⟩,h1⟩:=st;obtain⟨xs,hq,hx⟩:=hg;obtain⟨lZ,oW,p1,jO⟩:=I.sq hq;have hh:X.A.in1.handled=none:=I.ok.hd hc;have IJ:=oW.length;have hn:i=lZ.toArray.size:=by rw[eK];lia
  refine wpAny_pyNext_enum_endD (nV b hh it l oY lZ.toArray) he (hn▸⟨h1,p1⟩) λh' hk=>?_;refine⟨rf,I.AM (t':=s.toks) (λc o hc q=>?_) hf⟩
  have:c≠e/\c≠it:=by simpa using hc
  exact hk c o this.2 q
 self:=λ_ _ _ _ _ st h=>wpAny_pyIter_enum st.1.choose_spec h
theorem Qw:bootBuiltins "zip"=some (.type "zip"):=by decide +kernel
section
variable{X:Cx}
def Qx(K:Frag)(b1 b2:Bool)(t:TA):TI:=λσ H R=>t σ H λvs H1=>∃l1 l2,vs=[.ref l1,.ref l2]/\(∃xs,Sq b1 K H1 l1 xs)/\(∃ys,Sq b2 K H1 l2 ys)/\R (yu K b1 b2 l1 l2) H1
def DT(K:Frag)(b:Bool)(t:TA):TI:=λσ H R=>t σ H λvs H1=>∃l,vs=[.ref l]/\(∃xs,Sq b K H1 l xs)/\R (yv K b l) H1
theorem aa1(b1 b2:Bool){a b:Expr}{ta:TA}{p pos pt:Pos}(hg:Gl X "zip")(hm:X.mg "zip"=none)(ha:PA X [a,b] ta)(hs:starEach [a,b] X.env=[(false,eval a X.env),(false,eval b X.env)]:=by rfl)(sN:starEach [b] X.env=[(false,eval b X.env)]:=by rfl) :
  PI X (.Tuple es kt pt) (.Call (.Name "zip" p) [a,b] [] pos) (Qx X.K b1 b2 ta):=by
 intro aU s σ H R I h;refine Call_ (sg I hg hm Qw (zT (bj (ha pos aU s σ H _ I h) λus s1 ⟨vs,H1,I1,r1,q1⟩=>?_) (by rw[hs,sN]) (by rw[sN];rfl)));obtain⟨l1,l2,e,⟨xs,lX⟩,⟨ys,lY⟩,q⟩:=q1;subst e;cases r1 with
 |cons r rr=>
  cases rr with
  |cons r' rr=>
   cases rr;cases r;cases r';obtain⟨lZ,oW,p1,jO⟩:=I1.sq lX;obtain⟨uQ,wC,p2,pR⟩:=I1.sq lY;have a1:l1<s1.heap.objs.size:=by obtain⟨_,e⟩:=p1.obj;exact cX e
   have a2:l2<s1.heap.objs.size:=by obtain⟨_,e⟩:=p2.obj;exact cX e
   refine Qt b1 b2 p1 p2 λh' N=>wpAny_pyIter_zip N.zip ?_;refine⟨_,_,_,_,H1,rf,I1.kept (t':=s1.toks) N.old,aaV b1 b2 (z:=s1.heap.objs.size+4) (TI:=s1.heap.objs.size+2) (TO:=s1.heap.objs.size+3) (i1:=s1.heap.objs.size) (i2:=s1.heap.objs.size+1) ⟨?_,fK a1,fK (zW a2)⟩,⟨N.zip,N.Qs,⟨_,_,N.out⟩,N.one,N.two⟩,λb hb=>?_,q⟩
   ·exact⟨fV 2 4,fV 3 4,fV 0 4,fV 1 4,fV 2 3,fV 2 0,fV 2 1,fV 3 0,fV 3 1,fV 0 1,⟨oX (fV 4 0) (mY 4 a1),oX (fV 4 1) (mY 4 a2)⟩,⟨oX (fV 3 0) (mY 3 a1),oX (fV 3 1) (mY 3 a2)⟩,oX (fV 1 0) (mY 1 a1),oX (fV 0 1) (mY 0 a2)⟩
   ·have ic:s1.heap.objs.size<=b:=by
     simp only[cV,aF,qz]at hb;rcases hb with rfl|rfl|rfl|rfl|rfl
     ·exact rZ _ 4
     ·exact rZ _ 2
     ·exact rZ _ 3
     ·exact cn _
     ·exact rZ _ 1
    exact I1.jZ ic (I1.cq.fresh ic)
theorem aa2(b:Bool){a:Expr}{ta:TA}{p pos pt:Pos}(hg:Gl X "enumerate")(hm:X.mg "enumerate"=none)(ha:PA X [a] ta)(hs:starEach [a] X.env=[(false,eval a X.env)]:=by rfl) :
  PI X (.Tuple es kt pt) (.Call (.Name "enumerate" p) [a] [] pos) (DT X.K b ta):=by
 intro aU s σ H R I h;refine Call_ (sg I hg hm boot_enumerate (zT (bj (ha pos aU s σ H _ I h) λus s1 ⟨vs,H1,I1,r1,q1⟩=>?_) hs rf));obtain⟨l,e,⟨xs,hq⟩,q⟩:=q1;subst e;cases r1 with
 |cons r rr=>
  cases rr;cases r;obtain⟨lZ,oW,p1,jO⟩:=I1.sq hq;have a1:l<s1.heap.objs.size:=by obtain⟨_,e⟩:=p1.obj;exact cX e
  refine aaU b p1 λh' z1 z2 hk=>wpAny_pyIter_enum z1 ?_;refine⟨_,_,_,_,H1,rf,I1.kept (t':=s1.toks) hk,aaZ b (e:=s1.heap.objs.size+1) (it:=s1.heap.objs.size) (fV 1 0) (mY 1 a1).symm (mY 0 a1).symm,⟨⟨_,z1⟩,z2⟩,λc hc=>?_,q⟩;have ic:s1.heap.objs.size<=c:=by
   simp only[cV,qz,aF]at hc;rcases hc with rfl|rfl
   ·exact rZ _ 1
   ·exact cn _
  exact I1.jZ ic (I1.cq.fresh ic)
end
theorem aW.sq{K:Frag}(e:aW H H')(h:Sq b K H a xs):Sq b K H' a xs:=by
 cases b with
 |true=>exact e.seq h
 |false=>
  rcases h with h|h
  ·refine .inl ?_;rcases h with h|⟨o,h⟩
   ·exact .inl (e _ _ h)
   ·exact .inr ⟨o,e _ _ h⟩
  ·exact .inr h
theorem aW.bc{K:Frag}(e:aW H H')(h:bq K H a xs):bq K H' a xs:=e.sq (b:=false) h
theorem aW.upd{H:Hp}{p:Addr}{o:HO}(h:H p=none):aW H (upd H p o):=λb u e=>by rw[bR (fj e h)];exact e
def jn(K:Frag)(H:Hp)(xs:List V)(Q:VK):Prop:=∀p H',aW H H'->bq K H' p xs->Q (.ref p) H'
theorem jn.old{K:Frag}{Q:VK}(h:jn K H xs Q)(q:bq K H p xs):Q (.ref p) H:=h p H (.refl H) q
theorem jn.new{K:Frag}{Q:VK}(h:jn K H xs Q)(n:H p=none):Q (.ref p) (upd H p (.tup xs)):=h p _ (.upd n) (.of bb)
theorem aa3:fillsNumberSlot (.type "tuple") "mul"=pure false:=
 PySem.fillsNumberSlot_seq (id := "tuple.__mul__") (r:=some (.builtin "tuple.__rmul__")) F.slot_tuple_mul.lookup (by decide +kernel) F.slot_tuple_rmul.lookup (by decide +kernel)
theorem aa4:seqRepeat? (.type "tuple")=pure (some (.builtin "tuple.__mul__")):=by
 unfold seqRepeat?;rw[PySem.seqSlot_of (T := "tuple") (name := "__mul__") (id := "tuple.__mul__") F.slot_tuple_mul.lookup (by decide +kernel),PySem.seqSlot_of (T := "tuple") (name := "__rmul__") (id := "tuple.__rmul__") F.slot_tuple_rmul.lookup (by decide +kernel)];rfl
theorem aa5(a:Int)(t:Tok)(l:Addr)(items:Array Value)(n:Nat)(dd:Option Addr)(sl:Array (Option Value)) :
  Meets (Builtin.«int.__rmul__» ⟨[.int a t,.ref l],[]⟩) (λ_ R s=>s.heap.get? l=some { cls:=.type "tuple",dict:=dd,data:=.seq items n,slots:=sl }/\R (.ok (.ret Value.notImplemented)) s):=
 .of_wp λprog w A R s h=>by
  obtain⟨IM,IP,IQ,IS,IT⟩:=s;have oZ:=h.1;wp_walk
  exact⟨_,rf,h.2⟩
section
variable{X:Cx}
theorem DU:ib X (.type "range") (λxs H Q=>∃i j:Int,xs=[.int i,.int j]/\∀p,H p=none->Q (.ref p) (upd H p (.mr i j))):=by
 intro aU s σ H vs us Q I r h;obtain⟨i,j,rfl,q⟩:=h;obtain⟨u,v,rfl,ru,rv⟩:=vals2 r;obtain⟨t,rfl⟩:=ru;obtain⟨t',rfl⟩:=rv;refine call_range_2 ?_;exact⟨.ref _,_,I.laid (t':=_) (o:=.mr i j) (λb o e=>dt _ e) (cn _) ⟨_,_,_,fi _ rf⟩,rf,q _ I.fresh⟩
theorem Qy{a:Int}:∀(n:Nat)(acc:Array Value),ItemsOf (λi v=>∃t,v=.int (a+i*1) t) acc n->Vals ((List.range n).map λ(i:Nat)=>V.int (a+i)) acc.toList:=by
 intro n acc h;have hsz:acc.size=n:=h.1;have key:∀(k:Nat),k<=n->Vals (((List.range n).map λ(i:Nat)=>V.int (a+i)).take k) (acc.toList.take k):=by
  intro k;induction k with
  |zero=>intro _;exact .nil
  |succ k ih=>
   intro hk;have iL:k<acc.size:=by lia
   rw[gO,gO];refine Vals.append (ih (by lia)) ?_;have e1:((List.range n).map λ(i:Nat)=>V.int (a+i))[k]?=some (V.int (a+k)):=by
    rw[dG,List.getElem?_range (by lia)];rfl
   have e2:acc.toList[k]?=some acc[k]:=by simp[iL]
   rw[e1,e2];obtain⟨t,e⟩:=h.2 k acc[k] (by simp[iL]);refine .cons ⟨t,?_⟩ .nil;rw[e,Int.mul_one]
 have:=key n (cn _)
 rw[pz (by simp),pz (by simp[hsz])]at this;exact this
theorem Qz(hc:X.calm=true):ib X (.type "list") (λxs H Q=>∃p i j,xs=[.ref p]/\H p=some (.mr i j)/\(-(2^62)<=i/\i<2^62/\-(2^62)<=j/\j<2^62)/\j-i<=16777216/\
  ∀l,H l=none->Q (.ref l) (upd H l (.lst ((List.range (j-i).toNat).map λ(k:Nat)=>V.int (i+k))))):=by
 intro aU s σ H vs us Q I r h;obtain⟨p,i,j,rfl,hp,⟨h1,h2,h3,h4⟩,hz,q⟩:=h;obtain⟨u,rfl,ru⟩:=vals1 r;cases ru;obtain⟨t,u,v,e⟩:=I.cq p _ hp;have hn:Builtin.Range.rangeSize i j 1=(((j-i).toNat:Nat):Int):=by rw[rangeSize_one];split<;>lia
 refine call_list_range (I.ok.hd hc) (show IsRange s.heap p i j 1 t u v from e) (small_one h1 h2 h3 h4) hn (by lia) λh' tk acc c hk hS hI=>?_
 have rv:=Qy (a:=i) _ _ hI;have I1:Inv X aU σ H { s with heap:=h',toks:=tk }:=I.kept hk;have f:iV X aU H s.heap.objs.size:=I.jZ (cn _) I.fresh;have I2:=I1.wB (o:=.lst ((List.range (j-i).toNat).map λ(k:Nat)=>V.int (i+k))) f ⟨?_,acc.toList,c,rv,hS⟩
 ·exact⟨.ref _,_,I2,rf,q _ f.1⟩
 ·rw[bu,r6]
  have:(16777216:Nat)<=sizeLine:=by decide
  lia
theorem QA:∀{ns:List Int}{its:List Value},Vals (ns.map V.int) its->∃ps:List (Int×Tok),its=ps.map (λp=>Value.int p.1 p.2)/\ps.map (·.1)=ns
 | [],_,.nil=>⟨[],rfl,rfl⟩
 |n::ns,_,.cons r rr=>by
  obtain⟨t,rfl⟩:=r;obtain⟨ps,rfl,rfl⟩:=QA rr;exact⟨(n,t)::ps,rf,rf⟩
theorem aa6(hc:X.calm=true):ib X (.builtin "sum") (λxs H Q=>∃p ns,xs=[.ref p]/\dQ X.K H p (List.map V.int ns)/\Q (.int ns.sum) H):=by
 intro aU s σ H vs us Q I r h;obtain⟨p,ns,rfl,hq,q⟩:=h;obtain⟨u,rfl,ru⟩:=vals1 r;cases ru;obtain⟨its,rv,pl,hz⟩:=I.list hq;obtain⟨ps,rfl,rfl⟩:=QA rv;have nY:s.heap.IsList p (intItems ps.toArray):=by
  have z:=pl.isList;rwa[show(ps.map λp=>Value.int p.1 p.2).toArray=intItems ps.toArray by simp[intItems]]at z
 refine sum_intListG (I.ok.hd hc) nY λh' tk t' hk=>⟨.int _,H,I.kept hk,⟨t',?_⟩,q⟩
 have:=preSum_eq ps.toArray ps.toArray.size
 simp only[eK]at this;rw[pz (Nat.le_of_eq (bu _))]at this;simp[this]
theorem DV{T:String}:ib X (.builtin "isinstance") (λxs H Q=>∃x t b,xs=[x,.ty T]/\nQ X.K H x t/\kitOne X.K t (.type T)=some b/\Q (.bl b) H):=by
 intro aU s σ H vs us Q I r h;obtain⟨x,t,b,rfl,ty,e,q⟩:=h;obtain⟨u,v,rfl,ru,rv⟩:=vals2 r;cases rv;exact ZS I ru ty e λtk=>⟨.bl b,H,I.tok tk,rf,q⟩
end
mutual
inductive jB(K:Frag)(H:Hp):V->Dat->Prop
 |none:jB K H .df .none
 |bool (b:Bool):jB K H (.bl b) (.bool b)
 |int (i:Int):jB K H (.int i) (.int i)
 |str (x:Str):jB K H (.str x) (.str x)
 |tuple {a:Addr} {xs:List V} {ds:List Dat}:bq K H a xs->cW K H xs ds->jB K H (.ref a) (.tuple ds)
 |list {a:Addr} {xs:List V} {ds:List Dat}:dQ K H a xs->cW K H xs ds->jB K H (.ref a) (.list ds)
inductive cW(K:Frag)(H:Hp):List V->List Dat->Prop
 |nil:cW K H [] []
 |cons {v:V} {vs:List V} {d:Dat} {ds:List Dat}:jB K H v d->cW K H vs ds->cW K H (v::vs) (d::ds)
end
mutual
theorem jB.mono{K:Frag}{H H':Hp}(e:aW H H'):∀{v:V}{d:Dat},jB K H v d->jB K H' v d
 |_,_,.none=>.none
 |_,_,.bool b=>.bool b
 |_,_,.int i=>.int i
 |_,_,.str x=>.str x
 |_,_,.tuple h r=>.tuple (e.bc h) (cW.mono e r)
 |_,_,.list h r=>.list (e.seq h) (cW.mono e r)
theorem cW.mono{K:Frag}{H H':Hp}(e:aW H H'):∀{vs:List V}{ds:List Dat},cW K H vs ds->cW K H' vs ds
 |_,_,.nil=>.nil
 |_,_,.cons h r=>.cons (jB.mono e h) (cW.mono e r)
end
theorem cW.length{K:Frag}{H:Hp}:∀{vs:List V}{ds:List Dat},cW K H vs ds->vs.length=ds.length
 |_,_,.nil=>rfl
 |_,_,.cons _ r=>by rw[dW,dW,cW.length r]
theorem cW.append{K:Frag}{H:Hp}:∀{vs ws:List V}{ds es:List Dat},cW K H vs ds->cW K H ws es->cW K H (vs++ws) (ds++es)
 |_,_,_,_,.nil,k=>k
 |_,_,_,_,.cons h r,k=>.cons h (cW.append r k)
theorem cW.get{K:Frag}{H:Hp}:∀{vs:List V}{ds:List Dat}{i:Nat}{v:V},cW K H vs ds->vs[i]?=some v->∃d,ds[i]?=some d/\jB K H v d
 |_,_,0,_,.cons h _,e=>by
  have e':_=_:=dq e;subst e';exact⟨_,rf,h⟩
 |_,_,i+1,v,.cons _ r,e=>cW.get (i:=i) (v:=v) r e
theorem cW.ints{K:Frag}{H:Hp}:∀(ns:List Int),cW K H (ns.map V.int) (ns.map Dat.int)
 | []=>.nil
 |n::ns=>.cons (.int n) (cW.ints ns)
theorem cW.QB{K:Frag}{H:Hp}:∀{xs:List V}{ns:List Int},cW K H xs (ns.map Dat.int)->xs=ns.map V.int
 |_,[],h=>by cases h;rfl
 |_,n::ns,h=>by
  cases h with
  |cons h r=>
   cases h;rw[cW.QB r];rfl
mutual
theorem jB.reads{X:Cx}{aU:List (Addr×Obj)}{σ:St}{H:Hp}{s:Shared}(I:Inv X aU σ H s):∀{v:V}{d:Dat}{u:Value},jB X.K H v d->RelV v u->∃as,Reads s.heap u (PySem.W.kqdP d) as
 |_,_,u,.none,r=>by cases(show u=Value.none from r);exact⟨_,.none⟩
 |_,_,u,.bool b,r=>by cases(show u=Value.bool b from r);exact⟨_,.bool b⟩
 |_,_,u,.int i,r=>by obtain⟨t,rfl⟩:=r;exact⟨_,.int i t⟩
 |_,_,u,.str x,r=>by obtain⟨t,rfl⟩:=r;exact⟨_,.str x t⟩
 |_,_,u,.tuple (a:=a) h q,r=>by
  cases(show u=Value.ref a from r)
  obtain⟨its,rv,⟨o,ho,hc,n,hd⟩,_⟩:=I.tuple h;obtain⟨as,z⟩:=cW.reads I q rv;rw[PySem.W.kqdP];exact⟨as,.tuple ho hc hd (by simpa using z)⟩
 |_,_,u,.list (a:=a) h q,r=>by
  cases(show u=Value.ref a from r)
  obtain⟨its,rv,p,_⟩:=I.list h;obtain⟨o,ho,hc,n,hd⟩:=p.isList;obtain⟨as,z⟩:=cW.reads I q rv;rw[PySem.W.kqdP];exact⟨_,.list ho hc hd (by simpa using z)⟩
theorem cW.reads{X:Cx}{aU:List (Addr×Obj)}{σ:St}{H:Hp}{s:Shared}(I:Inv X aU σ H s):∀{vs:List V}{ds:List Dat}{us:List Value},cW X.K H vs ds->Vals vs us->∃as,ReadsAll s.heap us (PySem.W.kqdPs ds) as
 |_,_,_,.nil,.nil=>⟨_,.nil⟩
 |_,_,_,.cons h q,.cons r rr=>by
  obtain⟨as,z⟩:=jB.reads I h r;obtain⟨bs,y⟩:=cW.reads I q rr;rw[PySem.W.kqdPs];exact⟨_,.cons z y⟩
end
section
variable{X:Cx}
open Classical in
def QC(K:Frag)(neg:Bool):R2:=λx y H Q=>∃d e,jB K H x d/\jB K H y e/\kqdOk 8 d=true/\kqdOk 8 e=true/\Q (.bl (if neg then !decide (d=e)else decide (d=e))) H
open Classical in
theorem aa7{d e:Dat}(hd:kqdOk 8 d=true)(he:kqdOk 8 e=true):PyData.eqv (PySem.W.kqdP d) (PySem.W.kqdP e)=decide (d=e):=by
 exact Bool.eq_iff_iff.mpr ((PySem.W.kqd_eqv 8 d e 8 hd he).trans decide_eq_true_iff.symm)
theorem QD{d:Dat}(hd:kqdOk 8 d=true):SeqAt.shaped (PySem.W.kqdP d)=true:=by
 have l:=PySem.W.kqd_lay 8 d hd;unfold SeqAt.shaped;rw[l.1,Bool.true_and];exact aD (gn l.2 (by decide))
theorem aa8(hu:X.A.units+64<cLine):gQ X (compareOp .NotEq) (QC X.K true):=by
 intro aU s σ H x y v u Q I rx ry h;obtain⟨d,e,hx,hy,hd,he,q⟩:=h;obtain⟨as,ra⟩:=hx.reads I rx;obtain⟨bs,rb⟩:=hy.reads I ry;refine ne_dataH ra rb (QD hd) (QD he) hu ?_;rw[aa7 hd he];exact⟨.bl _,H,I,rf,q⟩
end
noncomputable def gY(ns:List Int):Dat:=.tuple (ns.map .int)
theorem aa9(l:Addr)(items:Array Value)(n:Nat)(dd:Option Addr)(sl:Array (Option Value))(u:Tok) :
  Meets (Builtin.«tuple.__mul__» ⟨[.ref l,.int 1 u],[]⟩) (λ_ R s=>s.heap.get? l=some { cls:=.type "tuple",dict:=dd,data:=.seq items n,slots:=sl }/\R (.ok (.ret (.ref l))) s):=
 .of_wp λprog w A R s h=>by
  obtain⟨IM,IP,IQ,IS,IT⟩:=s;have oZ:=h.1;have f1:=AutoSeq1.idx_int;wp_walk using vU oZ
  exact⟨_,rf,h.2⟩
theorem aba(l:Addr)(items:Array Value)(n:Nat)(dd:Option Addr)(sl:Array (Option Value))(x:Int)(u:Tok)(hx:x<=0)(hx2:-(2^63)<=x)(cZ:items.isEmpty=false) :
  Meets (Builtin.«tuple.__mul__» ⟨[.ref l,.int x u],[]⟩) (λ_ R s=>s.heap.get? l=some { cls:=.type "tuple",dict:=dd,data:=.seq items n,slots:=sl }/\
   R (.ok (.ret (Value.ref s.heap.objs.size))) { s with heap:=s.heap.push { cls:=Value.type "tuple",data:=Data.seq #[] } }):=
 .of_wp λprog w A R s h=>by
  obtain⟨IM,IP,IQ,IS,IT⟩:=s;have oZ:=h.1;have f1:=AutoSeq1.idx_int;have c1:(decide (x < -2^63)||decide (x>=2^63))=false:=by simp;lia
  have c2:(items.isEmpty||x==1)=false:=by rw[cZ];simp;lia
  have c3:(decide (x<=0)||items.isEmpty)=true:=by simp[hx]
  wp_walk using vU oZ
  refine aG (by rw[c1];rfl) ?_;wp_walk using vU oZ
  refine aG (by rw[c2];rfl) ?_;wp_walk using vU oZ
  exact⟨_,rf,h.2⟩
theorem QE(items:Array Value):∀(k:Nat)(acc:Array Value),(List.foldl (λx1 x2=>x1++x2) acc (List.replicate k items)).size=acc.size+k*items.size
 |0,acc=>by simp
 |k+1,acc=>by rw[vS,List.foldl_cons,QE items k,Array.size_append,Nat.succ_mul];lia
theorem abb(l:Addr)(items:Array Value)(n:Nat)(dd:Option Addr)(sl:Array (Option Value))(x:Int)(u:Tok)(hx:2<=x)(hx2:x<2^63)(cZ:items.isEmpty=false)(hz:items.size*x.toNat<=sizeLine) :
  Meets (Builtin.«tuple.__mul__» ⟨[.ref l,.int x u],[]⟩) (λ_ R s=>s.heap.get? l=some { cls:=.type "tuple",dict:=dd,data:=.seq items n,slots:=sl }/\
   R (.ok (.ret (Value.ref s.heap.objs.size))) { s with heap:=s.heap.push { cls:=Value.type "tuple",data:=Data.seq (List.foldl (λx1 x2=>x1++x2) #[] (List.replicate x.toNat items)) } }):=
 .of_wp λprog w A R s h=>by
  obtain⟨IM,IP,IQ,IS,IT⟩:=s;have oZ:=h.1;have f1:=AutoSeq1.idx_int;have c1:(decide (x < -2^63)||decide (x>=2^63))=false:=by simp;lia
  have c2:(items.isEmpty||x==1)=false:=by rw[cZ];simp;lia
  have c3:(decide (x<=0)||items.isEmpty)=false:=by rw[cZ];simp;lia
  have e:(items.size:Int)*x=((items.size*x.toNat:Nat):Int):=by
   rw[Int.natCast_mul];congr 1;lia
  have jm:(sizeLine:Nat)<=(2^63-1)/8:=by decide
  have c4:decide ((items.size:Int)*x>(2^63-1)/8)=false:=by rw[e];simp only[aI];lia
  have c5:Builtin.Tuple.tupleTooMany ((items.size:Int)*x)=false:=by rw[e];unfold Builtin.Tuple.tupleTooMany;simp only[aI];lia
  have c6:(List.foldl (λx1 x2=>x1++x2) #[] (List.replicate x.toNat items)).size<=sizeLine:=by rw[QE,Array.size_empty,Nat.zero_add,Nat.mul_comm];exact hz
  wp_walk using vU oZ
  refine aG (by rw[c1];rfl) ?_;wp_walk using vU oZ
  refine aG (by rw[c2];rfl) ?_;wp_walk using vU oZ
  refine aG (by rw[c3];rfl) ?_;wp_walk
  refine aG c4 ?_;wp_walk
  refine aG (by rw[c5];rfl) ?_;wp_walk
  exact⟨_,rf,h.2⟩
def DW(K:Frag):R2:=λx y H Q=>∃a k xs,x=.ref a/\y=.int k/\bq K H a xs/\xs≠[]/\-(2^63)<=k/\k<2^63/\xs.length*k.toNat<=sizeLine/\jn K H (List.replicate k.toNat xs).flatten Q
theorem abc{X:Cx}:gQ X (binaryOp .Mult) (DW X.K):=by
 intro aU s σ H x y v u Q I rx ry h;obtain⟨l,k,xs,rfl,rfl,hH,cZ,h1,h2,hz,q⟩:=h;cases rx;obtain⟨t,rfl⟩:=ry;obtain⟨its,r,ht,_⟩:=I.tuple hH;obtain⟨⟨cls,dd,data,sl⟩,ho,hc,n,hd⟩:=id ht;simp only at hc hd;subst hc hd;have hi:its.toArray.isEmpty=false:=by
  have:its≠[]:=λz=>cZ (r.Dz.mp z)
  cases its with
  |nil=>exact absurd rf this
  |cons a b=>rfl
 have cB:its.toArray.size*k.toNat<=sizeLine:=by rw[eK,<- r.length];exact hz
 have f0:∀m:Nat,List.foldl (λx1 x2=>x1++x2) #[] (List.replicate m its.toArray)=(List.replicate m its).flatten.toArray:=λm=>by
  have:=foldl_rep its m []
  rw[jX]at this;exact this
 refine wpAny_binaryOp_repeat_ref (T := "tuple") (U := "int") (by decide) ⟨_,ho,rf⟩ (λs'=>typeIs_int s' k t) aa3 F.fills_int_mul F.slot_int_rmul aa4 F.slot_int_index.lookup
  (call_meets F.slot_int_rmul (typeIs_int s k t) F.entry_int_rmul (F.args_int_rmul_2 _ _) (aa5 k t l its.toArray n dd sl) ⟨ho,rfl,⟨_,ho,rfl⟩,?_⟩)
 by_cases IU:k=1
 ·subst IU;refine call_meets F.slot_tuple_mul ⟨_,ho,rf⟩ F.entry_tuple_mul (F.args_tuple_mul_2 _ _) (aa9 l its.toArray n dd sl t) ⟨ho,?_⟩;exact⟨.ref l,H,I,rf,q.old (by simpa using hH)⟩
 ·by_cases sO:k<=0
  ·refine call_meets F.slot_tuple_mul ⟨_,ho,rf⟩ F.entry_tuple_mul (F.args_tuple_mul_2 _ _) (aba l its.toArray n dd sl k t sO h1 hi) ⟨ho,?_⟩;have e:k.toNat=0:=by lia
   rw[e]at q;exact⟨.ref _,_,I.laid (t':=s.toks) (o:=.tup []) (λb ob q=>dt _ q) (cn _) ⟨jv _,[],.nil,pE.new _ _⟩,rf,q.new I.fresh⟩
  ·refine call_meets F.slot_tuple_mul ⟨_,ho,rf⟩ F.entry_tuple_mul (F.args_tuple_mul_2 _ _) (abb l its.toArray n dd sl k t (by lia) h2 hi cB) ⟨ho,?_⟩;rw[f0];exact⟨.ref _,_,I.laid (t':=s.toks) (o:=.tup (List.replicate k.toNat xs).flatten) (λb ob q=>dt _ q) (cn _) ⟨by rw[Py,Nat.mul_comm];exact hz,_,r.rep k.toNat,pE.new _ _⟩,rf,q.new I.fresh⟩
noncomputable def QF(oN:List Str)(uL:Scope)(N:List Str)(own:Nat)(caps:List Nat)(scope:Scope):Bool:=
 decide (scope.kind=.function)&&decide N.Nodup&&decide (scope.names.map (·.1)).Nodup &&
 scope.names.all (λx=>x.2 != .free||(decide (uL.names.lookup x.1=some .cell)||decide (uL.names.lookup x.1=some .free))) &&
 decide (N.length=own+caps.length)&&decide (caps.map (λi=>oN[i]?)=(N.drop own).map some)&&(N.drop own).all (λx=>decide (scope.names.lookup x=some .free))
theorem e8.mk'{oN:List Str}{uL:Scope}{N:List Str}{own:Nat}{caps:List Nat}{scope:Scope}(h:QF oN uL N own caps scope=true):e8 oN uL N own caps scope:=by
 unfold QF at h;simp only[gM,aJ,vV,Bool.or_eq_true,bne_iff_ne,ne_eq]at h;obtain⟨⟨⟨⟨⟨⟨h1,h2⟩,h3⟩,h4⟩,h5⟩,h6⟩,h7⟩:=h;exact⟨h1,h2,h3,λx hx hk=>(h4 x hx).elim (λz=>absurd hk z) id,h5,h6,h7⟩
def ky(n:Nat)(cp:St)(H1:Hp)(P:Hp->List V->Prop):St->Hp->List V->Prop:=λσ H zs=>(∃o:St,o.length=n/\σ=o++cp)/\aW H1 H/\P H zs
section
variable{K:Frag}{H1:Hp}{cp:St}{g:TG}{tt:TT}{te:TE}{Q:VK}{xs ys:List V}{l1 l2 a:Addr}{b1 b2 b:Bool}{n own:Nat}{J:It}
theorem yy(Pv:Nat->Hp->List V->Prop)(hn:n<=sizeLine)(h0:Pv 0 H1 [])(cB:∀i H zs,Pv i H zs->zs.length<=i)
  (hgo:∀i H,aW H1 H->i<n->J.go i H) (abd:∀H,aW H1 H->J.stop n H)
  (step:∀i o H zs,i<n->o.length=own->aW H1 H->Pv i H zs->∀x H2,J.pN i H x H2->g x (o++cp) H2 λσ3 H3=>tt σ3 H3 λc H4=>if c=true then te σ3 H4 λv H5=>ky own cp H1 (Pv (i+1)) σ3 H5 (zs++[v])else ky own cp H1 (Pv (i+1)) σ3 H4 zs)
  (done:∀H zs,aW H1 H->Pv n H zs->∀p,H p=none->Q (.ref p) (upd H p (.lst zs))) :
  ∃W:Nat->Nat->St->Hp->List V->Prop,(∃m,W 0 m (List.replicate own none++cp) H1 [])/\mV J g tt te Q W:=by
 refine⟨λi m σ H zs=>m=n-i/\i<=n/\ky own cp H1 (Pv i) σ H zs,⟨n,by simp,jv _,⟨_,by simp,rf⟩,.refl _,h0⟩,?_⟩;rintro i m σ H zs ⟨rfl,hi,⟨o,ho,rfl⟩,sm,pv⟩;have hl:=cB _ _ _ pv;by_cases cE:i<n
 ·exact .inr ⟨hgo i H sm cE,by lia,ky own cp H1 (Pv (i+1)),λσ2 H2 yz q=>⟨n-(i+1),by lia,rf,cE,q⟩,step i o H zs cE ho sm pv⟩
 ·have e:i=n:=by lia
  subst e;exact .inl ⟨abd H sm,by lia,done H zs sm pv⟩
theorem yB{o:St}(h:o.length=1):∃x,o=[x]:=by
 match o,h with
 | [x],_=>exact⟨x,rf⟩
theorem QG{o:St}(h:o.length=2):∃x y,o=[x,y]:=by
 match o,h with
 | [x,y],_=>exact⟨x,y,rf⟩
theorem uS(Pv:Nat->Hp->List V->Prop)(hq:dQ K H1 a xs)(hz:xs.length<=sizeLine)(h0:Pv 0 H1 [])(cB:∀i H zs,Pv i H zs->zs.length<=i)
  (step:∀i x H zs,xs[i]?=some x->aW H1 H->Pv i H zs->tt (some x::cp) H λc H4=>if c=true then te (some x::cp) H4 λv H5=>ky 1 cp H1 (Pv (i+1)) (some x::cp) H5 (zs++[v])else ky 1 cp H1 (Pv (i+1)) (some x::cp) H4 zs)
  (done:∀H zs,aW H1 H->Pv xs.length H zs->∀p,H p=none->Q (.ref p) (upd H p (.lst zs))) :
  ∃W:Nat->Nat->St->Hp->List V->Prop,(∃m,W 0 m (List.replicate 1 none++cp) H1 [])/\mV (sj K a) (cG 0) tt te Q W:=by
 refine yy (n:=xs.length) Pv hz h0 cB (λi H sm hi=>⟨xs,xs[i],sm.seq hq,by simp[hi]⟩) (λH sm=>⟨xs,sm.seq hq,cn _⟩) (λi o H zs hi ho sm pv x H2 y=>?_) done;obtain⟨w,rfl⟩:=yB ho;obtain⟨rfl,y⟩:=y;exact step i x _ zs (y xs (sm.seq hq)) sm pv
theorem QH(Pv:Nat->Hp->List V->Prop)(hq:bq K H1 a xs)(hz:xs.length<=sizeLine)(h0:Pv 0 H1 [])(cB:∀i H zs,Pv i H zs->zs.length<=i)
  (step:∀i x H zs,xs[i]?=some x->aW H1 H->Pv i H zs->tt (some x::cp) H λc H4=>if c=true then te (some x::cp) H4 λv H5=>ky 1 cp H1 (Pv (i+1)) (some x::cp) H5 (zs++[v])else ky 1 cp H1 (Pv (i+1)) (some x::cp) H4 zs)
  (done:∀H zs,aW H1 H->Pv xs.length H zs->∀p,H p=none->Q (.ref p) (upd H p (.lst zs))) :
  ∃W:Nat->Nat->St->Hp->List V->Prop,(∃m,W 0 m (List.replicate 1 none++cp) H1 [])/\mV (x5 K a) (cG 0) tt te Q W:=by
 refine yy (n:=xs.length) Pv hz h0 cB (λi H sm hi=>⟨xs,xs[i],sm.bc hq,by simp[hi]⟩) (λH sm=>⟨xs,sm.bc hq,cn _⟩) (λi o H zs hi ho sm pv x H2 y=>?_) done;obtain⟨w,rfl⟩:=yB ho;obtain⟨rfl,y⟩:=y;exact step i x _ zs (y xs (sm.bc hq)) sm pv
theorem IV{lo:Int}(Pv:Nat->Hp->List V->Prop)(hz:n<=sizeLine)(h0:Pv 0 H1 [])(cB:∀i H zs,Pv i H zs->zs.length<=i)
  (step:∀i H zs,i<n->aW H1 H->Pv i H zs->tt (some (.int (lo+(i:Nat)))::cp) H λc H4=>if c=true then te (some (.int (lo+(i:Nat)))::cp) H4 λv H5=>ky 1 cp H1 (Pv (i+1)) (some (.int (lo+(i:Nat)))::cp) H5 (zs++[v])else ky 1 cp H1 (Pv (i+1)) (some (.int (lo+(i:Nat)))::cp) H4 zs)
  (done:∀H zs,aW H1 H->Pv n H zs->∀p,H p=none->Q (.ref p) (upd H p (.lst zs))) :
  ∃W:Nat->Nat->St->Hp->List V->Prop,(∃m,W 0 m (List.replicate 1 none++cp) H1 [])/\mV (uF lo n) (cG 0) tt te Q W:=by
 refine yy (n:=n) Pv hz h0 cB (λi H sm hi=>hi) (λH sm=>cn _) (λi o H zs hi ho sm pv x H2 y=>?_) done;obtain⟨w,rfl⟩:=yB ho;obtain⟨rfl,rfl⟩:=y;exact step i _ zs hi sm pv
abbrev yC(K:Frag)(i j:Nat):TG:=si K 2 (jK (cG i) (jK (cG j) uE))
theorem DX{p:Addr}{x y:V}{i j:Nat}{σ:St}{H:Hp}{R:St->Hp->Prop}(h:bq K H p [x,y])(q:R ((σ.set i (some x)).set j (some y)) H):yC K i j (.ref p) σ H R:=
 ⟨p,[x,y],rfl,h,rfl,x,[y],rfl,y,[],rfl,rfl,q⟩
theorem abe(Pv:Nat->Hp->List V->Prop)(lX:Sq b1 K H1 l1 xs)(lY:Sq b2 K H1 l2 ys)(hl:xs.length=ys.length)(hz:xs.length<=sizeLine)(h0:Pv 0 H1 [])(cB:∀i H zs,Pv i H zs->zs.length<=i)(mono:∀i H H' zs,aW H H'->Pv i H zs->Pv i H' zs)
  (step:∀i x y H zs,xs[i]?=some x->ys[i]?=some y->aW H1 H->Pv i H zs->tt (some x::some y::cp) H λc H4=>if c=true then te (some x::some y::cp) H4 λv H5=>ky 2 cp H1 (Pv (i+1)) (some x::some y::cp) H5 (zs++[v])else ky 2 cp H1 (Pv (i+1)) (some x::some y::cp) H4 zs)
  (done:∀H zs,aW H1 H->Pv xs.length H zs->∀p,H p=none->Q (.ref p) (upd H p (.lst zs))) :
  ∃W:Nat->Nat->St->Hp->List V->Prop,(∃m,W 0 m (List.replicate 2 none++cp) H1 [])/\mV (yu K b1 b2 l1 l2) (yC K 0 1) tt te Q W:=by
 refine yy (n:=xs.length) Pv hz h0 cB (λi H sm hi=>⟨xs,ys,xs[i],ys[i],sm.sq lX,sm.sq lY,by simp[hi],by simp[hl▸hi]⟩) (λH sm=>⟨xs,ys,sm.sq lX,sm.sq lY,.inl rf⟩) (λi o H zs hi ho sm pv v H2 yl=>?_) done;obtain⟨w1,w2,rfl⟩:=QG ho;obtain⟨p,x,y,rfl,hp,rfl,hx,hy⟩:=yl;refine DX (.of bb) ?_;have s2:aW H (upd H p (.tup [x,y])):=.upd hp;exact step i x y _ zs (hx xs (sm.sq lX)) (hy ys (sm.sq lY)) (sm.trans s2) (mono _ _ _ _ s2 pv)
theorem IW(Pv:Nat->Hp->List V->Prop)(hq:Sq b K H1 a xs)(hz:xs.length<=sizeLine)(h0:Pv 0 H1 [])(cB:∀i H zs,Pv i H zs->zs.length<=i)(mono:∀i H H' zs,aW H H'->Pv i H zs->Pv i H' zs)
  (step:∀i x H zs,xs[i]?=some x->aW H1 H->Pv i H zs->tt (some (.int (i:Nat))::some x::cp) H λc H4=>if c=true then te (some (.int (i:Nat))::some x::cp) H4 λv H5=>ky 2 cp H1 (Pv (i+1)) (some (.int (i:Nat))::some x::cp) H5 (zs++[v])else ky 2 cp H1 (Pv (i+1)) (some (.int (i:Nat))::some x::cp) H4 zs)
  (done:∀H zs,aW H1 H->Pv xs.length H zs->∀p,H p=none->Q (.ref p) (upd H p (.lst zs))) :
  ∃W:Nat->Nat->St->Hp->List V->Prop,(∃m,W 0 m (List.replicate 2 none++cp) H1 [])/\mV (yv K b a) (yC K 0 1) tt te Q W:=by
 refine yy (n:=xs.length) Pv hz h0 cB (λi H sm hi=>⟨xs,xs[i],sm.sq hq,by simp[hi]⟩) (λH sm=>⟨xs,sm.sq hq,rf⟩) (λi o H zs hi ho sm pv v H2 yl=>?_) done;obtain⟨w1,w2,rfl⟩:=QG ho;obtain⟨p,x,rfl,hp,rfl,hx⟩:=yl;refine DX (.of bb) ?_;have s2:aW H (upd H p (.tup [.int i,x])):=.upd hp;exact step i x _ zs (hx xs (sm.sq hq)) (sm.trans s2) (mono _ _ _ _ s2 pv)
end
section
variable{K:Frag}{a l1 l2:Addr}{xs ys:List V}{b b1 b2:Bool}{tb:TS}{D:Ends}{σ:St}{H:Hp}{i j:Nat}
theorem abf(Pv:Nat->St->Hp->Prop)(hl:xs.length=ys.length)(h0:Pv 0 σ H)(hq:∀k σ H,Pv k σ H->Sq b1 K H l1 xs/\Sq b2 K H l2 ys)(mono:∀k σ H H',aW H H'->Pv k σ H->Pv k σ H')
  (hs:∀k x y σ H,xs[k]?=some x->ys[k]?=some y->Pv k σ H->tb { D with nx:=Pv (k+1),ct:=Pv (k+1),bk:=D.nx } ((σ.set i (some x)).set j (some y)) H) (hd:∀σ H,Pv xs.length σ H->D.nx σ H) :
  ∃W:Nat->Nat->St->Hp->Prop,(∃m,W 0 m σ H)/\∀k m σ H,W k m σ H->
   ((yu K b1 b2 l1 l2).stop k H/\D.nx σ H)\/((yu K b1 b2 l1 l2).go k H/\∃N:St->Hp->Prop,(∀σ' H',N σ' H'->∃m',m'<m/\W (k+1) m' σ' H')/\∀x H',(yu K b1 b2 l1 l2).pN k H x H'->yC K i j x σ H' λσ2 H2=>tb { D with nx:=N,ct:=N,bk:=D.nx } σ2 H2):=by
 refine⟨λk m σ H=>m=xs.length-k/\k<=xs.length/\Pv k σ H,⟨xs.length,by simp,jv _,h0⟩,?_⟩;rintro k m σ H ⟨rfl,hk,p⟩;obtain⟨q1,q2⟩:=hq k σ H p;by_cases cE:k<xs.length
 ·refine .inr ⟨⟨xs,ys,xs[k],ys[k],q1,q2,by simp[cE],by simp[hl▸cE]⟩,Pv (k+1),λσ' H' p'=>⟨xs.length-(k+1),by lia,rf,cE,p'⟩,λv H' yl=>?_⟩;obtain⟨pp,x,y,rfl,hp,rfl,hx,hy⟩:=yl;exact DX (.of bb) (hs k x y σ _ (hx xs q1) (hy ys q2) (mono _ _ _ _ (.upd hp) p))
 ·have e:k=xs.length:=by lia
  subst e;exact .inl ⟨⟨xs,ys,q1,q2,.inl rf⟩,hd σ H p⟩
theorem abg(Pv:Nat->St->Hp->Prop)(h0:Pv 0 σ H)(hq:∀k σ H,Pv k σ H->Sq b K H a xs)(mono:∀k σ H H',aW H H'->Pv k σ H->Pv k σ H')
  (hs:∀k x σ H,xs[k]?=some x->Pv k σ H->tb { D with nx:=Pv (k+1),ct:=Pv (k+1),bk:=D.nx } ((σ.set i (some (.int (k:Nat)))).set j (some x)) H) (hd:∀σ H,Pv xs.length σ H->D.nx σ H) :
  ∃W:Nat->Nat->St->Hp->Prop,(∃m,W 0 m σ H)/\∀k m σ H,W k m σ H->
   ((yv K b a).stop k H/\D.nx σ H)\/((yv K b a).go k H/\∃N:St->Hp->Prop,(∀σ' H',N σ' H'->∃m',m'<m/\W (k+1) m' σ' H')/\∀x H',(yv K b a).pN k H x H'->yC K i j x σ H' λσ2 H2=>tb { D with nx:=N,ct:=N,bk:=D.nx } σ2 H2):=by
 refine⟨λk m σ H=>m=xs.length-k/\k<=xs.length/\Pv k σ H,⟨xs.length,by simp,jv _,h0⟩,?_⟩;rintro k m σ H ⟨rfl,hk,p⟩;have q:=hq k σ H p;by_cases cE:k<xs.length
 ·refine .inr ⟨⟨xs,xs[k],q,by simp[cE]⟩,Pv (k+1),λσ' H' p'=>⟨xs.length-(k+1),by lia,rf,cE,p'⟩,λv H' yl=>?_⟩;obtain⟨pp,x,rfl,hp,rfl,hx⟩:=yl;exact DX (.of bb) (hs k x σ _ (hx xs q) (mono _ _ _ _ (.upd hp) p))
 ·have e:k=xs.length:=by lia
  subst e;exact .inl ⟨⟨xs,q,rf⟩,hd σ H p⟩
end
theorem IX(K:Frag):kitOne K (.type "int") (.type "int")=some true:=by kernel_rfl
theorem abh(K:Frag):kitOne K (.type "int") (.type "bool")=some false:=by kernel_rfl
theorem QI(K:Frag):kitOne K (.type "str") (.type "int")=some false:=by kernel_rfl
section
variable{X:Cx}
theorem abi{T:String}:ib X (.builtin "isinstance") (λxs H Q=>∃i b,xs=[.int i,.ty T]/\kitOne X.K (.type "int") (.type T)=some b/\Q (.bl b) H):=by
 intro aU s σ H vs us Q I r h;obtain⟨i,b,rfl,e,q⟩:=h;exact DV aU s σ H _ us Q I r ⟨.int i,_,b,rf,.int i,e,q⟩
end
theorem abj(n:String):RelV (.ty n) (.type n):=rfl
theorem AQ{X:Cx}{x:Str}{T:String}{pos:Pos}(hg:Gl X x)(hm:X.mg x=none)(hv:bootBuiltins x=some (.type T))(hn:x ≠ "__name__":=by decide)(hd:(x==("__debug__":Str))=false:=by decide):PE X (.Name x pos) (tC (.ty T)):=Zl hg hm hv (abj T) hn hd
noncomputable def yF:List Expr->Option (List Int)
 | []=>some []
 | .Constant (.int i) _ _::es=>(yF es).map (i::·)
 |_=>none
theorem IY{X:Cx}:∀(es:List Expr)(ns:List Int),yF es=some ns->PA X es (λ_ H Q=>Q (ns.map V.int) H)
 | [],ns,h=>by
  cases h;exact aZ
 | .Constant (.int i) j pos::es,ns,h=>by
  unfold yF at h;cases e:yF es with
  |none=>rw[e]at h;cases h
  |some ms=>
   rw[e]at h;have h':i::ms=ns:=dq h;subst h';exact aV ba (IY es ms e) rf
 | .Constant .none _ _::_,_,h=>by cases h
 | .Constant (.bool _) _ _::_,_,h=>by cases h
 | .Constant (.str _) _ _::_,_,h=>by cases h
 | .Constant (.bytes _) _ _::_,_,h=>by cases h
 | .Constant .ellipsis _ _::_,_,h=>by cases h
 | .Name ..::_,_,h=>by cases h
theorem IZ{K:Frag}{H:Hp}{x:V}{r:List Int}(h:jB K H x (gY r)):∃a,x=.ref a/\bq K H a (r.map V.int):=by
 unfold gY at h;cases h with
 |tuple hq ha=>exact⟨_,rf,by rw[<- ha.QB];exact hq⟩
theorem sP{K:Frag}{H:Hp}{a:Addr}{r:List Int}(h:bq K H a (r.map V.int)):jB K H (.ref a) (gY r):=.tuple h (cW.ints r)
theorem aW.write{H H':Hp}{l:Addr}{o:HO}(sm:aW H H')(h:H l=none):aW H (L2.upd H' l o):=λb u e=>by rw[bR (fj e h)];exact sm b u e
open Classical in
theorem abk{d e:Dat}{A B:Prop}(h:d=e)(b:B):if(if true=true then !decide (d=e)else decide (d=e))=true then A else B:=by
 subst h;simp only[decide_true,Bool.not_true,if_true,Bool.false_eq_true,if_false];exact b
theorem abl(n:Nat)(ns:List Int):(ns.map Dat.int).all (kqdOk n)=true:=by
 rw[List.all_map];exact vV.mpr λ_ _=>by cases n<;>rfl
section
variable{X:Cx}(K:Frag)(hK:X.K=K)
include hK
theorem eY:Az X (sE K):=hK▸Z7
theorem cj:Az X (sH K):=hK▸Z8
theorem DY:ya X (Ib K):=hK▸aae
theorem iM:ib X (.builtin "len") (λxs H Q=>∃p ys,xs=[.ref p]/\(dQ K H p ys\/bq K H p ys)/\Q (.int ys.length) H):=hK▸aah
theorem QJ:ib X (.type "list") (λxs H Q=>∃p ys,xs=[.ref p]/\(dQ K H p ys\/bq K H p ys)/\∀l,H l=none->Q (.ref l) (upd H l (.lst ys))):=hK▸aai
theorem nc:ib X (.type "tuple") (λxs H Q=>∃p ys,xs=[.ref p]/\((dQ K H p ys/\∀l,H l=none->Q (.ref l) (upd H l (.tup ys)))\/(bq K H p ys/\Q (.ref p) H))):=hK▸aaj
theorem Ja{T:String}:ib X (.builtin "isinstance") (λxs H Q=>∃i b,xs=[.int i,.ty T]/\kitOne K (.type "int") (.type T)=some b/\Q (.bl b) H):=hK▸abi
theorem AR(hc:X.calm=true):ib X (.builtin "sum") (λxs H Q=>∃p ns,xs=[.ref p]/\dQ K H p (List.map V.int ns)/\Q (.int ns.sum) H):=hK▸aa6 hc
theorem abm(hu:X.A.units+64<cLine):gQ X (compareOp .NotEq) (QC K true):=hK▸aa8 hu
theorem QK:gQ X (binaryOp .Mult) (DW K):=hK▸abc
theorem QL:gQ X (compareOp .In) (Po K false):=hK▸aag
theorem jo{tg l:Expr}{tl:TE}(hl:PE X l tl):PI X tg l (An K tl):=hK▸ZA hl
theorem AU{tg l:Expr}{tl:TE}(hl:PE X l tl):PI X tg l (OU K tl):=hK▸ZC hl
theorem QM(b1 b2:Bool){a b:Expr}{ta:TA}{p pos pt:Pos}{es:List Expr}{kt:Nat}(hg:Gl X "zip")(hm:X.mg "zip"=none)(ha:PA X [a,b] ta)(hs:starEach [a,b] X.env=[(false,eval a X.env),(false,eval b X.env)]:=by rfl)(sN:starEach [b] X.env=[(false,eval b X.env)]:=by rfl) :
  PI X (.Tuple es kt pt) (.Call (.Name "zip" p) [a,b] [] pos) (Qx K b1 b2 ta):=hK▸aa1 b1 b2 hg hm ha hs sN
theorem D0(b:Bool){a:Expr}{ta:TA}{p pos pt:Pos}{es:List Expr}{kt:Nat}(hg:Gl X "enumerate")(hm:X.mg "enumerate"=none)(ha:PA X [a] ta)(hs:starEach [a] X.env=[(false,eval a X.env)]:=by rfl) :
  PI X (.Tuple es kt pt) (.Call (.Name "enumerate" p) [a] [] pos) (DT K b ta):=hK▸aa2 b hg hm ha hs
theorem nZ{es:List Expr}{k:Nat}{t:qM}{n:Nat}{pos:Pos}(hc:X.calm=true)(h:x3 X es t)
  (hn:(assignEach es X.env).length=n:=by rfl) (wj:(assignEach es X.env).findIdx? (·.1)=none:=by rfl):PG X (.Tuple es k pos) (si K n t):=hK▸Zv hc h hn wj
end
theorem j7:bootBuiltins "tuple"=some (.type "tuple"):=by decide +kernel
theorem AV:bootBuiltins "list"=some (.type "list"):=by decide +kernel
theorem wD:bootBuiltins "int"=some (.type "int"):=by decide +kernel
theorem QN:bootBuiltins "bool"=some (.type "bool"):=by decide +kernel
theorem AW:bootBuiltins "range"=some (.type "range"):=by decide +kernel
theorem AX:bootBuiltins "isinstance"=some (.builtin "isinstance"):=by decide +kernel
theorem AY:bootBuiltins "sum"=some (.builtin "sum"):=by decide +kernel
theorem iN:bootBuiltins "len"=some (.builtin "len"):=by decide +kernel
theorem l4{σ:St}{H:Hp}{Y N:Hp->Prop}(h:Y H):uO σ H (λc H4=>if c=true then Y H4 else N H4):=by
 show if true=true then Y H else N H
 exact eC h
end L2
namespace L2
open PySem
structure QO(X:Cx)(es:List Expr)(ns:List Int):Prop where
 get:PA X es (λ_ H Q=>Q (ns.map V.int) H)
theorem pai{X:Cx}{es:List Expr}{ns:List Int}(h:yF es=some ns):QO X es ns:=⟨IY es ns h⟩
def QP(ns:List Int):TE:=gI (λ_ H Q=>Q (ns.map V.int) H)
theorem abn{X:Cx}{es:List Expr}{ns:List Int}{pos:Pos}(h:QO X es ns):PE X (.List es pos) (QP ns):=gT h.get
end L2
namespace L2
open PySem PySem.Spec PyProof.Rows
section
variable{X:Cx}{pos:Pos}
def abo(K:Frag)(n:Nat)(t:qM):TG:=λv σ H Q=>∃a xs,v=.ref a/\dQ K H a xs/\xs.length=n/\t xs σ H Q
theorem Jb{es:List Expr}{k n:Nat}{t:qM}(hc:X.calm=true)(h:x3 X es t)(hn:(assignEach es X.env).length=n:=by rfl)(wj:(assignEach es X.env).findIdx? (·.1)=none:=by rfl):PG X (.Tuple es k pos) (abo X.K n t):=by
 rintro aU s σ H v u Q I r ⟨a,xs,rfl,hq,hl,hw⟩;cases r;obtain⟨its,rv,pl,_⟩:=I.list hq;have sz:its.toArray.size=n:=by rw[eK,<- rv.length,hl]
 rw[assign_Tuple];refine ak (wpAny_standAt ?_);unfold unpack;rw[wj,hn,<- sz];refine ak (ao (PySem.W.kun_itemsOf (I.ok.hd hc) pl.isList λh' ex=>?_));exact h aU _ σ H xs _ Q (I.kept (t':=s.toks) λb o e=>ex b o (fK (cX e)) e) (by simpa using rv) hw
end
theorem abp(l b:Addr)(its yd:Array Value)(n n2:Nat)(dd Du:Option Addr)(sl Dv:Array (Option Value))(he:its.isEmpty=true) :
  Meets (Builtin.«tuple.__add__» ⟨[.ref l,.ref b],[]⟩) (λ_ R s=>s.heap.get? l=some { cls:=.type "tuple",dict:=dd,data:=.seq its n,slots:=sl }/\s.heap.get? b=some { cls:=.type "tuple",dict:=Du,data:=.seq yd n2,slots:=Dv }/\R (.ok (.ret (.ref b))) s):=
 .of_wp λ_ _ _ _ s h=>by
  obtain⟨hpA,gA,dA,tkA,osA⟩:=s;have oZ:=h.1;have at1:=h.2.1;have f2:=AutoSeq1.sub_tuple_tuple;wp_walk using vU oZ,vU at1
  exact⟨_,rf,h.2.2⟩
def Jc(K:Frag):R2:=λx y H Q=>∃a b xs ys,x=.ref a/\y=.ref b/\bq K H a xs/\bq K H b ys/\xs.length+ys.length<=sizeLine/\jn K H (xs++ys) Q
theorem abq{X:Cx}:gQ X (binaryOp .Add) (Jc X.K):=by
 rintro aU s σ H x y v u Q I rx ry ⟨a,b,xs,ys,rfl,rfl,ha,hb,hz,q⟩;by_cases hx:xs=[]
 ·subst hx;cases rx;cases ry;obtain⟨its,r1,⟨⟨c1,d1,t1,s1⟩,o1,e1,n1,f1⟩,_⟩:=I.tuple ha;obtain⟨yd,r2,⟨⟨c2,d2,t2,s2⟩,o2,e2,n2,f2⟩,_⟩:=I.tuple hb;simp only at e1 f1 e2 f2;subst e1 f1 e2 f2;cases r1;refine concat_meets ⟨_,o1,rf⟩ ⟨_,o2,rf⟩ noFill_tuple_add seq_tuple_add PySem.F.slot_tuple_add PySem.F.entry_tuple_add (PySem.F.args_tuple_add_2 _ _) (abp a b _ _ _ _ d1 d2 s1 s2 rf) ⟨o1,o2,?_⟩;exact⟨.ref b,H,I,rf,q.old hb⟩
 ·refine Z5 aU s σ H _ _ v u Q I rx ry ⟨a,b,xs,ys,rf,rf,ha,hb,hx,hz,λhy=>?_,λ_ p hp=>q.new hp⟩;subst hy;exact q.old (by rw[iT];exact ha)
theorem eN{X:Cx}(K:Frag)(hK:X.K=K):gQ X (binaryOp .Add) (Jc K):=hK▸abq
theorem QQ:∀{bs:List Bool}{its:List Value},Vals (bs.map V.bl) its->its=bs.map Value.bool
 | [],_,.nil=>rfl
 |b::bs,_,.cons r rr=>by
  cases r;rw[QQ rr];rfl
theorem abr(d:Bool)(bs:List Bool):(List.range bs.length).map (λi=>(bs[i]?).getD d)=bs:=by
 apply List.ext_getElem
 ·simp
 ·intro i h1 h2;simp[cP h2]
theorem abt(bs:List Bool):((List.range bs.length).all λi=>(bs[i]?).getD true)=bs.all id:=by
 have e:=aj (λl=>List.all l id) (abr true bs);rw[<- e];simp only[List.all_map];rfl
section
variable{X:Cx}
theorem abu(hc:X.calm=true):ib X (.builtin "all") (λxs H Q=>∃p bs,xs=[.ref p]/\dQ X.K H p (List.map V.bl bs)/\Q (.bl (bs.all id)) H):=by
 intro aU s σ H vs us Q I r h;obtain⟨p,bs,rfl,hq,q⟩:=h;obtain⟨u,rfl,ru⟩:=vals1 r;cases ru;obtain⟨its,rv,pl,hz⟩:=I.list hq;have e:=QQ rv;subst e;have hl:=pl.isList;have cE:p<s.heap.objs.size:=by obtain⟨_,e,_⟩:=hl;exact cX e
 apply call_all_walk;apply wpAny_pyIter_list hl;refine⟨s.heap.objs.size,[s.heap.objs.size,p],[s.heap.objs.size],(bs.map Value.bool).toArray.size,_,_,λi=>(bs[i]?).getD true,rf,Walks.list (A:=X.A.in1) (I.ok.hd hc) _ p (fK cE) (bs.map Value.bool).toArray,⟨⟨_,fi _ rf,rf,rf⟩,hl.push _⟩,λi v s1 Q1 E1 hP hQ=>?_,λh1 tk1 hk=>?_⟩
 ·have hP:(bs.map Value.bool)[i]?=some v:=by simpa using hP
  rw[dG]at hP;cases e:bs[i]? with
  |none=>rw[e]at hP;cases hP
  |some b=>
   rw[e]at hP;cases hP;dsimp only at hQ;rw[e,Option.getD_some]at hQ;exact ai hQ
 ·have e:((List.range (bs.map Value.bool).toArray.size).all λi=>(bs[i]?).getD true)=bs.all id:=by
   rw[eK,bu];exact abt bs
  rw[e];refine⟨.bl _,H,I.kept (λb x e=>hk b x (λhm=>by rw[cA.mp hm]at e;exact rW _ (cX e)) (dt _ e)),rf,q⟩
theorem QR(K:Frag)(hK:X.K=K)(hc:X.calm=true):ib X (.builtin "all") (λxs H Q=>∃p bs,xs=[.ref p]/\dQ K H p (List.map V.bl bs)/\Q (.bl (bs.all id)) H):=hK▸abu hc
theorem QS:bootBuiltins "all"=some (.builtin "all"):=by decide +kernel
end
end L2
namespace Bw
variable{D L rs:LL}{c j l m n place:Nat}{f:Nat->Int}{h o r:List Int}{ls:List Nat}{p:Int}{u v:Fn}
noncomputable def ig:List Int:=[2,3,5,7,11,13,17,19,23,29,31,37,41,43,47,53,59,61,67,71,73,79,83,89,97]
noncomputable def wF(p n:Int):Nat->Int
 |0=>1
 |k+1=>wF p n k*n%p
noncomputable def fX(p n:Int):Int:=wF p n (p-2).toNat
noncomputable def QT(p n:Int):Bool:=decide (1<=fX p n)&&decide (fX p n<p)&&decide (fX p n*n%p=1)
theorem abv:(ig.all λp=>(List.range p.toNat).all λn=>n==0||QT p n)=true:=by decide +kernel
theorem jf:∀p∈ig,2<=p/\p<=97:=by decide +kernel
theorem Jd{n:Int}(hp:p∈ig)(h1:1<=n)(h2:n<p):1<=fX p n/\fX p n<p/\fX p n*n%p=1:=by
 have h:=vV.mp abv p hp;have h':=vV.mp h n.toNat (mj.mpr (by lia));have en:((n.toNat:Nat):Int)=n:=by lia
 have n0:(n.toNat==0)=false:=by simp;lia
 rw[n0,Bool.false_or,en]at h';unfold QT at h';simp only[aJ,gM]at h';exact⟨h'.1.1,h'.1.2,h'.2⟩
theorem abw{n:Int}(hp:2<=p):∀k,0<=wF p n k/\wF p n k<p
 |0=>by unfold wF;lia
 |k+1=>by
  unfold wF;exact⟨qB _ (by lia),qC _ (by lia)⟩
noncomputable def iS(p:Int)(row:List Int)(f:Int)(other:List Int):List Int:=List.zipWith (λa b=>(a+f*b)%p) row other
noncomputable def kz(p:Int):List (List Int×Int)->List Int->List Int
 | [],t=>t
 |(r,f)::L,t=>kz p L (iS p t f r)
noncomputable def wG(L:List (List Int×Int))(j:Nat):Int:=(L.map λq=>q.1.getD j 0*q.2).sum
theorem abx(r:List Int)(f:Int)(L:List (List Int×Int))(j:Nat):wG ((r,f)::L) j=r.getD j 0*f+wG L j:=by simp[wG]
theorem aby{f:Int}(c:Nat->Int)(hr:r.length=n):iS p ((List.range n).map λj=>c j%p) f r=(List.range n).map λj=>(c j+r.getD j 0*f)%p:=by
 apply List.ext_getElem
 ·simp[iS,hr]
 ·intro i h1 h2;have hi:i<r.length:=by simp[iS,hr]at h1;lia
  simp only[iS,List.getElem_zipWith,List.getElem_map,List.getElem_range];rw[eG,cP hi,Option.getD_some,Int.mul_comm f,Int.emod_add_emod]
theorem QU{p:Int}{n:Nat}:∀(L:List (List Int×Int))(c:Nat->Int),(∀q∈L,q.1.length=n)->kz p L ((List.range n).map λj=>c j%p)=(List.range n).map λj=>(c j+wG L j)%p
 | [],c,_=>by simp[kz,wG]
 |(r,f)::L,c,h=>by
  rw[kz,aby c (h (r,f) cQ),QU L (λj=>c j+r.getD j 0*f) λq hq=>h q (dU _ hq)];apply uw;intro j _;rw[abx,Int.add_assoc]
theorem QW(L:List (List Int×Int))(h:∀q∈L,q.1.length=n):kz p L (List.replicate n 0)=(List.range n).map λj=>wG L j%p:=by
 have e:List.replicate n (0:Int)=(List.range n).map λj=>(λ_=>(0:Int)) j%p:=by
  apply List.ext_getElem
  ·simp
  ·intro i _ _;simp
 rw[e,QU L (λ_=>0) h];apply uw;intro j _;rw[qD]
abbrev Fn:=Nat->Int
def o3(p:Int)(u v:Fn):Prop:=∀j,p∣u j-v j
theorem sQ(p a:Int):p∣a%p-a:=⟨-(a/p),by
 have:=Int.emod_add_mul_ediv a p
 rw[Int.mul_neg];lia⟩
theorem o3.trans{w:Fn}(h:o3 p u v)(k:o3 p v w):o3 p u w:=λj=>by
 have:=Int.dvd_add (h j) (k j)
 rwa[show u j-v j+(v j-w j)=u j-w j by lia]at this
inductive Sp(p:Int)(R:Fn->Prop):Fn->Prop
 |zero:Sp p R (λ_=>0)
 |add {v r:Fn} (c:Int):Sp p R v->R r->Sp p R (λj=>v j+c*r j)
 |eQ {u v:Fn}:Sp p R v->o3 p v u->Sp p R u
section
variable{p:Int}{R R':Fn->Prop}
theorem Sp.of_eq(h:Sp p R v)(e:∀j,v j=u j):Sp p R u:=.eQ h λj=>⟨0,by rw[e j];lia⟩
theorem Sp.mem{r:Fn}(h:R r):Sp p R r:=(Sp.add 1 .zero h).of_eq λj=>by lia
theorem Sp.plus(c:Int)(hu:Sp p R u)(hv:Sp p R v):Sp p R (λj=>u j+c*v j):=by
 induction hv with
 |zero=>exact hu.of_eq λj=>by simp
 | @add v r d _ hr ih=>exact(Sp.add (c*d) ih hr).of_eq λj=>by rw[Int.mul_add,<- Int.add_assoc,Int.mul_assoc]
 | @eQ w v _ e ih=>
  refine .eQ ih λj=>?_
  have:p∣c*(v j-w j):=oG (e j)
  rw[Int.mul_sub]at this;rwa[show u j+c*v j-(u j+c*w j)=c*v j-c*w j by lia]
theorem Sp.trans(h:∀r,R r->Sp p R' r)(hv:Sp p R v):Sp p R' v:=by
 induction hv with
 |zero=>exact .zero
 |add c _ hr ih=>exact ih.plus c (h _ hr)
 |eQ _ e ih=>exact .eQ ih e
end
noncomputable def fn(r:List Int):Fn:=λj=>r.getD j 0
def RS(L:LL):Fn->Prop:=λf=>∃r∈L,f=fn r
def Rw(p:Int)(n:Nat)(r:List Int):Prop:=r.length=n/\∀x∈r,0<=x/\x<p
def fY(p:Int)(n:Nat)(L:LL):Prop:=∀r∈L,Rw p n r
theorem Rw.at(hp:0<p)(h:Rw p n r)(j:Nat):0<=r.getD j 0/\r.getD j 0<p:=by
 rw[eG (i:=j)];by_cases hj:j<r.length
 ·rw[cP hj];exact h.2 _ (r8 hj)
 ·rw[jJ (by lia)];exact⟨Int.le_refl 0,hp⟩
theorem Rw.out(h:Rw p n r)(hj:n<=j):r.getD j 0=0:=by
 rw[eG,jJ (by rw[h.1];exact hj)];rfl
theorem Je(f:Int)(hr:r.length=n)(ho:o.length=n)(j:Nat):(iS p r f o).getD j 0=if j<n then(r.getD j 0+f*o.getD j 0)%p else 0:=by
 by_cases hj:j<n
 ·rw[af hj];have h1:j<r.length:=by lia
  have h2:j<o.length:=by lia
  have h3:j<(iS p r f o).length:=by simp[iS];lia
  rw[eG,cP h3,eG,cP h1,eG,cP h2];simp[iS]
 ·rw[ag hj,eG,jJ (by simp[iS];lia)];rfl
theorem abz(f:Int)(hp:0<p)(hr:r.length=n)(ho:o.length=n):Rw p n (iS p r f o):=by
 refine⟨by simp[iS];lia,λx hx=>?_⟩;obtain⟨i,hi,rfl⟩:=List.mem_iff_getElem.mp hx;simp only[iS,List.getElem_zipWith];exact⟨qB _ (show p≠0 by lia),qC _ hp⟩
theorem abA(f:Int)(hr:r.length=n)(ho:o.length=n):o3 p (λj=>fn r j+f*fn o j) (fn (iS p r f o)):=λj=>by
 show p∣r.getD j 0+f*o.getD j 0-(iS p r f o).getD j 0;rw[Je f hr ho];by_cases hj:j<n
 ·rw[af hj]
  have:=Int.dvd_neg.mpr (sQ p (r.getD j 0+f*o.getD j 0))
  rwa[show -((r.getD j 0+f*o.getD j 0)%p-(r.getD j 0+f*o.getD j 0))=r.getD j 0+f*o.getD j 0-(r.getD j 0+f*o.getD j 0)%p by lia]at this
 ·rw[ag hj];have e1:r.getD j 0=0:=by rw[eG,jJ (by lia)];rfl
  have e2:o.getD j 0=0:=by rw[eG,jJ (by lia)];rfl
  rw[e1,e2];exact⟨0,by simp⟩
noncomputable def iY(p:Int)(fq:List Int)(place:Nat)(row:List Int):List Int:=if row.getD place 0≠0 then iS p row (-(row.getD place 0)) fq else row
section
variable{p:Int}{n place:Nat}{fq row:List Int}
theorem QX(hp:0<p)(hl:Rw p n fq)(hr:Rw p n row):Rw p n (iY p fq place row):=by
 unfold iY;split
 ·exact abz _ hp hr.1 hl.1
 ·exact hr
theorem QY(hl:Rw p n fq)(hr:Rw p n row):o3 p (λj=>fn row j + -(row.getD place 0)*fn fq j) (fn (iY p fq place row)):=by
 unfold iY;split
 ·exact abA _ hr.1 hl.1
 ·rename_i h
  have h0:row.getD place 0=0:=by simpa using h
  rw[h0];intro j;exact⟨0,by simp⟩
theorem D3(hl:Rw p n fq)(hr:Rw p n row)(hj:fq.getD j 0=0)(hp:0<p):(iY p fq place row).getD j 0=row.getD j 0:=by
 unfold iY;split
 ·rw[Je _ hr.1 hl.1,hj,Int.mul_zero,Int.add_zero];by_cases h:j<n
  ·rw[af h];exact Int.emod_eq_of_lt (hr.at hp j).1 (hr.at hp j).2
  ·rw[ag h,hr.out (by lia)]
 ·rfl
theorem QZ(hl:Rw p n fq)(hr:Rw p n row)(h1:fq.getD place 0=1):(iY p fq place row).getD place 0=0:=by
 unfold iY;split
 ·rw[Je _ hr.1 hl.1,h1];split
  ·rw[Int.mul_one,show row.getD place 0 + -(row.getD place 0)=0 by lia];exact Int.zero_emod p
  ·rfl
 ·rename_i h
  simpa using h
end
noncomputable def iZ(p:Int)(n:Nat)(h:List Int)(place:Nat):List Int:=kz p [(h,fX p (h.getD place 0))] (List.replicate n 0)
noncomputable def yG(p:Int)(n:Nat)(st:LL×LL)(place:Nat):LL×LL:=
 match st.2.filter λr=>r.getD place 0≠0 with
 | []=>st
 |h::_=>(st.1.map (iY p (iZ p n h place) place)++[iZ p n h place],st.2.map (iY p (iZ p n h place) place))
noncomputable def jg(p:Int)(n:Nat)(L:LL):Nat->LL×LL
 |0=>([],L)
 |k+1=>yG p n (jg p n L k) k
noncomputable def sR(L:LL):Nat:=(L.head?.map List.length).getD 0
noncomputable def ng(p:Int)(L:LL):LL:=(jg p (sR L) L (sR L)).1
structure Jf(n k:Nat)(D:LL)(ls:List Nat):Prop where
 len:ls.length=D.length
 up:ls.Pairwise (· < ·)
 lt:∀l∈ls,l<k
 one:∀(i:Nat)(r:List Int)(l:Nat),D[i]?=some r->ls[i]?=some l->r.getD l 0=1/\∀j,j<l->r.getD j 0=0
 alone:∀(i i':Nat)(r:List Int)(l:Nat),i≠i'->D[i']?=some r->ls[i]?=some l->r.getD l 0=0
theorem Jg(hh:Rw p n h)(j:Nat):(iZ p n h place).getD j 0=if j<n then h.getD j 0*fX p (h.getD place 0)%p else 0:=by
 unfold iZ;rw[QW _ (λq hq=>by rw[cA.mp hq];exact hh.1)];by_cases hj:j<n
 ·rw[af hj];simp[eG,hj,wG]
 ·rw[ag hj];simp[eG,hj]
theorem Q0(hp:0<p)(hh:Rw p n h):Rw p n (iZ p n h place):=by
 unfold iZ;rw[QW _ (λq hq=>by rw[cA.mp hq];exact hh.1)];refine⟨by simp,λx hx=>?_⟩;obtain⟨j,_,rfl⟩:=dD.mp hx;exact⟨qB _ (show p≠0 by lia),qC _ hp⟩
theorem Q3(hh:Rw p n h):o3 p (λj=>fX p (h.getD place 0)*fn h j) (fn (iZ p n h place)):=λj=>by
 show p∣fX p (h.getD place 0)*h.getD j 0-(iZ p n h place).getD j 0;rw[Jg hh,Int.mul_comm];by_cases hj:j<n
 ·rw[af hj]
  have:=Int.dvd_neg.mpr (sQ p (h.getD j 0*fX p (h.getD place 0)))
  rwa[show -(h.getD j 0*fX p (h.getD place 0)%p-h.getD j 0*fX p (h.getD place 0))=h.getD j 0*fX p (h.getD place 0)-h.getD j 0*fX p (h.getD place 0)%p by lia]at this
 ·rw[ag hj,hh.out (by lia)];exact⟨0,by simp⟩
structure Jh(p:Int)(n:Nat)(L:LL)(k:Nat)(st:LL×LL):Prop where
 d:fY p n st.1
 r:fY p n st.2
 z:∀r∈st.2,∀j,j<k->r.getD j 0=0
 yH:∃ls,Jf n k st.1 ls
 sub:∀r∈st.1++st.2,Sp p (RS L) (fn r)
 sup:∀r∈L,Sp p (RS (st.1++st.2)) (fn r)
theorem abB{k:Nat}{st:LL×LL}(hp:p∈ig)(hk:k+1<=n)(I:Jh p n L k st):Jh p n L (k+1) (yG p n st k):=by
  have p0:0<p:=by have:=jf p hp;lia
  obtain⟨D,T⟩:=st;unfold yG;dsimp only;cases hf:T.filter λr=>r.getD k 0≠0 with
  |nil=>
   dsimp only;obtain⟨ls,E⟩:=I.yH;refine⟨I.d,I.r,λr hr j hj=>?_,⟨ls,E.len,E.up,λl hl=>zW (E.lt l hl),E.one,E.alone⟩,I.sub,I.sup⟩;by_cases D4:j<k
   ·exact I.z r hr j D4
   ·have ej:j=k:=by lia
    subst ej;by_cases h0:r.getD j 0=0
    ·exact h0
    ·have:r∈T.filter λr=>r.getD j 0≠0:=jV.mpr ⟨hr,by simpa using h0⟩
     rw[hf]at this;cases this
  |cons h eW=>
   dsimp only;have hm:h∈T.filter λr=>r.getD k 0≠0:=by rw[hf];exact cQ
   obtain⟨hT,sO⟩:=jV.mp hm;have agi:h.getD k 0≠0:=by simpa using sO
   have hh:=I.r h hT;have o4:Rw p n (iZ p n h k):=Q0 p0 hh;have hb:=hh.at p0 k;obtain⟨t1,t2,t3⟩:=Jd hp (show 1<=h.getD k 0 by lia) hb.2;have l1:(iZ p n h k).getD k 0=1:=by rw[Jg hh,af (by lia),Int.mul_comm];exact t3
   have l0:∀j,j<k->(iZ p n h k).getD j 0=0:=λj hj=>by
    rw[Jg hh,I.z h hT j hj,Int.zero_mul];split
    ·exact Int.zero_emod p
    ·rfl
   have Q4:∀{Q:Fn->Prop},Sp p Q (fn h)->Sp p Q (fn (iZ p n h k)):=λq=>.eQ (((Sp.zero).plus (fX p (h.getD k 0)) q).of_eq λj=>by rw[qD]) (Q3 hh);have hhS:∀{Q:Fn->Prop},Sp p Q (fn (iZ p n h k))->Sp p Q (fn h):=λ{Q} q=>by
    refine .eQ (((Sp.zero).plus (h.getD k 0) q)) λj=>?_;rw[qD];show p∣h.getD k 0*(iZ p n h k).getD j 0-h.getD j 0;have a:=Q3 (place:=k) hh j;have a':p∣h.getD k 0*(fX p (h.getD k 0)*fn h j-fn (iZ p n h k) j):=oG a;rw[Int.mul_sub]at a';have t4:p∣fX p (h.getD k 0)*h.getD k 0-1:=by
     have z:=Int.dvd_neg.mpr (sQ p (fX p (h.getD k 0)*h.getD k 0));rw[t3]at z;rwa[show -(1-fX p (h.getD k 0)*h.getD k 0)=fX p (h.getD k 0)*h.getD k 0-1 by lia]at z
    have b:p∣h.getD j 0*(fX p (h.getD k 0)*h.getD k 0-1):=oG t4;have c:=pA b a';have e:h.getD j 0*(fX p (h.getD k 0)*h.getD k 0-1)-(h.getD k 0*(fX p (h.getD k 0)*fn h j)-h.getD k 0*fn (iZ p n h k) j)=h.getD k 0*(iZ p n h k).getD j 0-h.getD j 0:=by
     show h.getD j 0*(fX p (h.getD k 0)*h.getD k 0-1)-(h.getD k 0*(fX p (h.getD k 0)*h.getD j 0)-h.getD k 0*(iZ p n h k).getD j 0)=_;rw[Int.mul_sub,Int.mul_one,Int.mul_left_comm (h.getD k 0),Int.mul_comm (h.getD j 0) (fX p (h.getD k 0)*h.getD k 0),Int.mul_assoc];lia
    rwa[e]at c
   generalize iZ p n h k=fq at o4 l1 l0 Q4 hhS |-;obtain⟨ls,E⟩:=I.yH;have Q5:ls.length=D.length:=E.len;have hD:∀r∈D,Rw p n r:=I.d;have AZ:∀r∈T,Rw p n r:=I.r;have spT:Sp p (RS L) (fn h):=I.sub h (dZ _ hT);have yI:=Q4 spT;have Q6:∀{Q:Fn->Prop}{r:List Int},Rw p n r->Sp p Q (fn r)->Sp p Q (fn fq)->Sp p Q (fn (iY p fq k r)):=λhr a b=>.eQ (a.plus _ b) (QY o4 hr);have Q7:∀{Q:Fn->Prop}{r:List Int},Rw p n r->Sp p Q (fn (iY p fq k r))->Sp p Q (fn fq)->Sp p Q (fn r):=λ{Q r} hr a b=>by
    refine .eQ (a.plus (r.getD k 0) b) λj=>?_;have q:=(QY (place:=k) o4 hr j);have q':=Int.dvd_neg.mpr q;rwa[show -(fn r j + -(r.getD k 0)*fn fq j-fn (iY p fq k r) j)=fn (iY p fq k r) j+r.getD k 0*fn fq j-fn r j by rw[Int.neg_mul];lia]at q'
   refine⟨λr hr=>?_,λr hr=>?_,λr hr j hj=>?_,⟨ls++[k],?_,?_,?_,?_,?_⟩,λr hr=>?_,λr hr=>?_⟩
   ·rcases(cN.mp hr)with(hr|hr)
    ·obtain⟨r0,h0,rfl⟩:=dD.mp hr;exact QX p0 o4 (hD r0 h0)
    ·rw[cA.mp hr];exact o4
   ·obtain⟨r0,h0,rfl⟩:=dD.mp hr;exact QX p0 o4 (AZ r0 h0)
   ·obtain⟨r0,h0,rfl⟩:=dD.mp hr;by_cases D4:j<k
    ·rw[D3 o4 (AZ r0 h0) (l0 j D4) p0];exact I.z r0 h0 j D4
    ·have ej:j=k:=by lia
     subst ej;exact QZ o4 (AZ r0 h0) l1
   ·simp[E.len]
   ·refine List.pairwise_append.mpr ⟨E.up,by simp,λa ha b hb=>?_⟩;rw[cA.mp hb];exact E.lt a ha
   ·intro l hl;rcases(cN.mp hl)with(hl|hl)
    ·exact zW (E.lt l hl)
    ·rw[cA.mp hl];exact Nat.lt_succ_self k
   ·intro i r l hr hl;by_cases hi:i<D.length
    ·rw[iK (by simpa using hi),dG,cP hi]at hr;rw[iK (by rw[Q5];exact hi)]at hl;cases hr;have wH:l<k:=E.lt l (dP hl);obtain⟨o1,o2⟩:=E.one i _ l (cP hi) hl;have rD:=hD _ (r8 hi);refine⟨by rw[D3 o4 rD (l0 l wH) p0];exact o1,λj hj=>?_⟩;rw[D3 o4 rD (l0 j (by lia)) p0];exact o2 j hj
    ·rw[jb (by simpa using hi),bu]at hr;rw[jb (by lia),Q5]at hl;have e0:i-D.length=0:=by
      have:=(dC.mp hr).1
      simp at this;lia
     rw[e0]at hr hl;simp at hr hl;subst hr hl;exact⟨l1,l0⟩
   ·intro i i' r l cZ hr hl;by_cases hi:i<ls.length
    ·rw[iK hi]at hl;have wH:l<k:=E.lt l (dP hl);by_cases jq:i'<D.length
     ·rw[iK (by simpa using jq),dG,cP jq]at hr;cases hr;rw[D3 o4 (hD _ (r8 jq)) (l0 l wH) p0];exact E.alone i i' _ l cZ (cP jq) hl
     ·rw[jb (by simpa using jq),bu]at hr;have e0:i' - D.length=0:=by
       have:=(dC.mp hr).1
       simp at this;lia
      rw[e0]at hr;simp at hr;subst hr;exact l0 l wH
    ·rw[jb (by lia)]at hl;have e0:i-ls.length=0:=by
      have:=(dC.mp hl).1
      simp at this;lia
     rw[e0]at hl;simp at hl;subst hl;by_cases jq:i'<D.length
     ·rw[iK (by simpa using jq),dG,cP jq]at hr;cases hr;exact QZ o4 (hD _ (r8 jq)) l1
     ·rw[jb (by simpa using jq),bu]at hr;have e1:i' - D.length=0:=by
       have:=(dC.mp hr).1
       simp at this;lia
      lia
   ·rcases(cN.mp hr)with(hr|hr)
    ·rcases(cN.mp hr)with(hr|hr)
     ·obtain⟨r0,h0,rfl⟩:=dD.mp hr;exact Q6 (hD r0 h0) (I.sub r0 (eV _ h0)) yI
     ·rw[cA.mp hr];exact yI
    ·obtain⟨r0,h0,rfl⟩:=dD.mp hr;exact Q6 (AZ r0 h0) (I.sub r0 (dZ _ h0)) yI
   ·refine Sp.trans (λf hf=>?_) (I.sup r hr);obtain⟨r0,h0,rfl⟩:=hf;have Q8:Sp p (RS (D.map (iY p fq k)++[fq]++T.map (iY p fq k))) (fn fq):=.mem ⟨fq,by simp,rfl⟩;rcases(cN.mp h0)with(h0|h0)
    ·exact Q7 (hD r0 h0) (.mem ⟨_,by simp;exact .inl ⟨r0,h0,rf⟩,rf⟩) Q8
    ·exact Q7 (AZ r0 h0) (.mem ⟨_,by simp;exact .inr (.inr ⟨r0,h0,rf⟩),rf⟩) Q8
theorem Ji{p:Int}{n:Nat}{L:LL}(hp:p∈ig)(hL:fY p n L):∀k,k<=n->Jh p n L k (jg p n L k)
 |0,_=>⟨λr hr=>absurd hr (by simp[jg]),by simpa[jg]using hL,λr _ j hj=>absurd hj (by lia),⟨[],by simp[jg],.nil,by simp,by simp[jg],by simp⟩,
   λr hr=>.mem ⟨r,by simpa[jg]using hr,rfl⟩,λr hr=>.mem ⟨r,by simpa[jg]using hr,rfl⟩⟩
 |k+1,hk=>abB hp hk (Ji hp hL k (by lia))
noncomputable def Sg(f:Nat->Int):Nat->Int
 |0=>0
 |n+1=>Sg f n+f n
theorem qU(h:∀i,i<n->f i=0):Sg f n=0:=by
 induction n with
 |zero=>rfl
 |succ n ih=>rw[Sg,ih λi hi=>h i (by lia),h n (by lia)];rfl
theorem D5(f g:Nat->Int)(n:Nat):Sg (λi=>f i+g i) n=Sg f n+Sg g n:=by
 induction n with
 |zero=>rfl
 |succ n ih=>rw[Sg,ih,Sg,Sg];lia
theorem Q9(h:∀i,i<n->p∣f i):p∣Sg f n:=by
 induction n with
 |zero=>exact⟨0,by simp[Sg]⟩
 |succ n ih=>rw[Sg];exact Int.dvd_add (ih λi hi=>h i (by lia)) (h n (by lia))
theorem Jj(hl:l<n):Sg f n=f l+Sg (λi=>if i=l then 0 else f i) n:=by
 induction n with
 |zero=>lia
 |succ n ih=>
  by_cases h:l=n
  ·subst h;rw[Sg,Sg,af rfl];have e:Sg (λi=>if i=l then 0 else f i) l=Sg f l:=by
    have:∀m,m<=l->Sg (λi=>if i=l then 0 else f i) m=Sg f m:=by
     intro m;induction m with
     |zero=>intro _;rfl
     |succ m ih=>intro hm;rw[Sg,Sg,ih (by lia),ag (by lia)]
    exact this l (cn l)
   rw[e];lia
  ·rw[Sg,Sg,ih (by lia),ag (λz=>h z.symm)];lia
noncomputable def o5(e:Nat->Option (List Int))(l j:Nat):Int:=match e l with|some r=>r.getD j 0|none=>0
theorem abC(h:Rw p n r)(hz:∀j,j<n->r.getD j 0=0)(j:Nat):fn r j=0:=by
 by_cases hj:j<n
 ·exact hz j hj
 ·exact h.out (by lia)
noncomputable def jr:LL->List Nat->Nat->Option (List Int)
 |r::D,l::ls,i=>if i=l then some r else jr D ls i
 |_,_,_=>none
theorem Jk:∀{D:LL}{ls:List Nat}{l:Nat}{r:List Int},jr D ls l=some r->∃(i:Nat),D[i]?=some r/\ls[i]?=some l
 | [],_,_,_,h=>by simp[jr]at h
 |_::_,[],_,_,h=>by simp[jr]at h
 |q::D,m::ls,l,r,h=>by
  rw[jr]at h;by_cases e:l=m
  ·rw[af e]at h;cases h;exact⟨0,rf,by rw[e];rfl⟩
  ·rw[ag e]at h;obtain⟨i,h1,h2⟩:=Jk h;exact⟨i+1,by simpa using h1,by simpa using h2⟩
theorem Jl:∀{D:LL}{ls:List Nat}{i l:Nat}{r:List Int},ls.Pairwise (· < ·)->D[i]?=some r->ls[i]?=some l->jr D ls l=some r
 | [],_,_,_,_,_,h,_=>by simp at h
 |_::_,[],_,_,_,_,_,h=>by simp at h
 |q::D,m::ls,0,l,r,_,h1,h2=>by simp at h1 h2;subst h1 h2;simp[jr]
 |q::D,m::ls,i+1,l,r,hp,h1,h2=>by
  have hl:ls[i]?=some l:=by simpa using h2
  have:m<l:=(List.pairwise_cons.mp hp).1 l (dP hl)
  rw[jr,ag (by lia)];exact Jl (List.pairwise_cons.mp hp).2 (by simpa using h1) hl
structure Jm(p:Int)(n:Nat)(L D:LL):Prop where
 rws:fY p n D
 yH:∃ls,Jf n n D ls
 sub:∀r∈D,Sp p (RS L) (fn r)
 sup:∀r∈L,Sp p (RS D) (fn r)
theorem D6(h:fY p n L)(cZ:L≠[]):sR L=n:=by
 cases L with
 |nil=>exact absurd rf cZ
 |cons r L=>exact(h r cQ).1
theorem A0(hp:p∈ig)(hL:fY p n L):Jm p n L (ng p L):=by
 by_cases cZ:L=[]
 ·subst cZ;exact⟨λr hr=>absurd hr (by simp[ng,sR,jg]),⟨[],by simp[ng,sR,jg],.nil,by simp,by simp,by simp⟩,λr hr=>absurd hr (by simp[ng,sR,jg]),λr hr=>absurd hr (by simp)⟩
 ·unfold ng;rw[D6 hL cZ];have I:=Ji hp hL n (cn n);generalize jg p n L n=st at I;refine⟨I.d,I.yH,λr hr=>I.sub r (eV _ hr),λr hr=>(I.sup r hr).trans λf hf=>?_⟩;obtain⟨r0,h0,rfl⟩:=hf;rcases(cN.mp h0)with(h0|h0)
  ·exact .mem ⟨r0,h0,rf⟩
  ·exact(Sp.zero).of_eq λj=>(abC (I.r r0 h0) (I.z r0 h0) j).symm
theorem abD(hp:p∈ig):¬p∣1:=λ⟨c,hc⟩=>by
 have:=jf p hp
 rcases Int.lt_trichotomy c 0 with h|h|h
 ·have:=Int.mul_le_mul_of_nonneg_left (show c<=-1 by lia) (show 0<=p by lia)
  lia
 ·rw[h]at hc;lia
 ·have:=Int.mul_le_mul_of_nonneg_left (show 1<=c by lia) (show 0<=p by lia)
  lia
noncomputable def sS(r:List Int):List Nat:=(List.range r.length).filter λj=>r.getD j 0≠0
theorem abE(h:sS r=[])(j:Nat)(hj:j<r.length):r.getD j 0=0:=by
 have:=List.filter_eq_nil_iff.mp h j (mj.mpr hj)
 simpa using this
theorem abF{t:List Nat}(h:sS r=l::t):l<r.length/\r.getD l 0≠0/\∀j,j<l->r.getD j 0=0:=by
 have hm:l∈sS r:=by rw[h];exact cQ
 have h1:=jV.mp hm;have hl:=mj.mp h1.1;refine⟨hl,by simpa using h1.2,λj hj=>?_⟩;apply Classical.byContradiction;intro cZ;have yJ:j∈sS r:=jV.mpr ⟨mj.mpr (by lia),by simpa using cZ⟩;rw[h]at yJ;have hs:(sS r).Pairwise (· < ·):=List.Pairwise.filter _ List.pairwise_lt_range;rw[h]at hs;cases yJ with
 |head=>lia
 |tail _ yJ=>have:=(List.pairwise_cons.mp hs).1 j yJ;lia
theorem Rc(hr:r.length=n)(hl:l<n)(h1:r.getD l 0=1)(h0:∀j,j<l->r.getD j 0=0):∃t,sS r=l::t:=by
 cases h:sS r with
 |nil=>have:=abE h l (by lia);lia
 |cons m t=>
  obtain⟨a,b,c⟩:=abF h
  have:m=l:=by
   apply Classical.byContradiction;intro cZ;by_cases cE:m<l
   ·exact b (h0 m cE)
   ·have:=c l (by lia);lia
  exact⟨t,by rw[this]⟩
noncomputable def dot(f v:Fn)(m:Nat):Int:=Sg (λi=>f i*v i) m
theorem pS{g:Nat->Int}(h:∀i,i<n->f i=g i):Sg f n=Sg g n:=by
 induction n with
 |zero=>rfl
 |succ n ih=>rw[Sg,Sg,ih λi hi=>h i (by lia),h n (by lia)]
theorem Rf(c:Int)(f:Nat->Int)(n:Nat):Sg (λi=>c*f i) n=c*Sg f n:=by
 induction n with
 |zero=>simp[Sg]
 |succ n ih=>rw[Sg,Sg,ih,Int.mul_add]
theorem Rg(f u v:Fn)(c:Int)(m:Nat):dot f (λj=>u j+c*v j) m=dot f u m+c*dot f v m:=by
 unfold dot;rw[<- Rf,<- D5];exact pS λi _=>by rw[Int.mul_add,Int.mul_left_comm]
theorem abG{f:Fn}(h:o3 p u v):p∣dot f u m-dot f v m:=by
 have e:dot f u m-dot f v m=Sg (λi=>f i*(u i-v i)) m:=by
  have:dot f u m=Sg (λi=>f i*(u i-v i)) m+dot f v m:=by
   unfold dot;rw[<- D5];exact pS λi _=>by rw[<- Int.mul_add];congr 1;lia
  lia
 rw[e];exact Q9 λi _=>Int.dvd_trans (h i) (Int.dvd_mul_left _ _)
theorem Rh{f:Fn}{R:Fn->Prop}(h:∀r,R r->p∣dot f r m)(hv:Sp p R v):p∣dot f v m:=by
 induction hv with
 |zero=>exact⟨0,by unfold dot;rw[qU λi _=>by simp];simp⟩
 |add c _ hr ih=>
  rw[Rg];exact Int.dvd_add ih (Int.dvd_trans (h _ hr) (Int.dvd_mul_left _ _))
 |eQ _ e ih=>
  have:=pA ih (abG (f:=f) (m:=m) e)
  rwa[show ∀a b:Int,a-(a-b)=b from λa b=>by lia]at this
noncomputable def Ba(f:Fn)(c:Nat):Fn:=λi=>if i=c then -1 else f i
theorem D7(f v:Fn)(c:Nat):dot (Ba f c) v (c+1)=dot f v c-v c:=by
 unfold dot;rw[Sg];have e1:Ba f c c=-1:=af rfl;rw[e1,pS (g:=λi=>f i*v i) λi hi=>by unfold Ba;rw[ag (by lia)]];lia
theorem Ri{A:LL}(hp:p∈ig)(R:Jm p (c+1) A D)(hr:r∈D)(h1:r.getD c 0=1)(h0:∀j,j<c->r.getD j 0=0)(f:Fn):¬ ∀a∈A,p∣dot f (fn a) c-fn a c:=λh=>by
 have hd:p∣dot (Ba f c) (fn r) (c+1):=Rh (R:=RS A) (λg hg=>by
  obtain⟨a,ha,rfl⟩:=hg;rw[D7];exact h a ha) (R.sub r hr)
 rw[D7]at hd;have z:dot f (fn r) c=0:=qU λi hi=>by
  show f i*r.getD i 0=0;rw[h0 i hi,Int.mul_zero]
 rw[z]at hd
 have:p∣1:=by
  have:=Int.dvd_neg.mpr hd
  rwa[show -(0-fn r c)=1 by show -(0-r.getD c 0)=1;rw[h1];rfl]at this
 exact abD hp this
theorem Rk{A:LL}(R:Jm p (c+1) A D)(E:Jf (c+1) (c+1) D ls)(hl:∀l∈ls,l<c):∀a∈A,p∣dot (λk=>o5 (jr D ls) k c) (fn a) c-fn a c:=by
 have key:∀r∈D,p∣dot (Ba (λk=>o5 (jr D ls) k c) c) (fn r) (c+1):=λr hr=>by
  obtain⟨i,hi,rfl⟩:=List.mem_iff_getElem.mp hr;have qV:i<ls.length:=by rw[E.len];exact hi
  have hD:=cP hi;have hL:=cP qV;obtain⟨o1,o2⟩:=E.one i _ _ hD hL;have nh:=hl _ (r8 qV);rw[D7];have e:dot (λk=>o5 (jr D ls) k c) (fn D[i]) c=fn D[i] c:=by
   unfold dot;rw[Jj nh,qU λk hk=>?_]
   ·have q:jr D ls ls[i]=some D[i]:=Jl E.up hD hL;show o5 (jr D ls) ls[i] c*(D[i]).getD ls[i] 0+0=(D[i]).getD c 0;unfold o5;rw[q];show(D[i]).getD c 0*(D[i]).getD ls[i] 0+0=(D[i]).getD c 0;rw[o1,Int.mul_one,Int.add_zero]
   ·by_cases D8:k=ls[i]
    ·rw[af D8]
    ·rw[ag D8];cases q:jr D ls k with
     |none=>
      show o5 (jr D ls) k c*_=0;unfold o5;rw[q,Int.zero_mul]
     |some r'=>
      obtain⟨i',pT,nY⟩:=Jk q;have cZ:i'≠i:=λz=>by
       subst z;rw[hL]at nY;exact D8 (dq nY).symm
      have:=E.alone i' i _ k cZ hD nY
      show o5 (jr D ls) k c*(D[i]).getD k 0=0;rw[this,Int.mul_zero]
  rw[e];exact⟨0,by lia⟩
 intro a ha
 have:=Rh (R:=RS D) (λg hg=>by obtain⟨r,hr,rfl⟩:=hg;exact key r hr) (R.sup a ha)
 rwa[D7]at this
noncomputable def kK(rs:LL)(r:List Int)(j:Nat):List Int:=rs.map (λq=>q.getD j 0)++[r.getD j 0]
theorem Rl(p0:0<p)(hR:fY p n rs)(hr:Rw p n r):Rw p (rs.length+1) (kK rs r j):=by
 refine⟨by simp[kK],λx hx=>?_⟩;refine(cN.mp hx).elim (λh=>?_) λh=>?_
 ·obtain⟨q,hq,rfl⟩:=dD.mp h;exact(hR q hq).at p0 j
 ·rw[cA.mp h];exact hr.at p0 j
theorem D9:fn (kK rs r j) rs.length=r.getD j 0:=by
 show(kK rs r j).getD rs.length 0=_;unfold kK;rw[eG,jb (by simp)];simp
theorem Ea(f:Fn):dot f (fn (kK rs r j)) rs.length=dot f (fn (rs.map λq=>q.getD j 0)) rs.length:=by
 unfold dot;refine pS λi hi=>?_;show f i*(kK rs r j).getD i 0=f i*(rs.map λq=>q.getD j 0).getD i 0;unfold kK;rw[eG,iK (by simp;exact hi),<- eG]
theorem Jn{fs:List Int}{k:Nat}{v:Int}(h:l<fs.length):(fs.set l v).getD k 0=if k=l then v else fs.getD k 0:=by
 rw[eG,List.getElem?_set];by_cases e:l=k
 ·subst e;simp[h]
 ·rw[ag e,ag (λz=>e z.symm),eG]
structure FI(p:Int)(c:Nat)(D:LL)(ls:List Nat)(i:Nat)(fs:List Int):Prop where
 rw:Rw p c fs
 lt:∀i' l,i'<i->ls[i']?=some l->l<c
 at_:∀i' l r,i'<i->ls[i']?=some l->D[i']?=some r->fs.getD l 0=r.getD c 0
 off:∀k,(∀i',i'<i->ls[i']?≠some k)->fs.getD k 0=0
theorem FI.start(p0:0<p):FI p c D ls 0 (List.replicate c 0):=
 ⟨⟨by simp,λx hx=>by rw[(List.mem_replicate.mp hx).2];lia⟩,λ_ _ h=>by lia,λ_ _ _ h=>by lia,λk _=>by rw[eG,List.getElem?_replicate];split<;>rfl⟩
theorem FI.step{i:Nat}{fs:List Int}(p0:0<p)(F:FI p c D ls i fs)(up:ls.Pairwise (· < ·))(hr:Rw p m r)(hl:ls[i]?=some l)(hD:D[i]?=some r)(hc:l<c):FI p c D ls (i+1) (fs.set l (r.getD c 0)):=by
 have uT:l<fs.length:=by rw[F.rw.1];exact hc
 have ne:∀i' l',i'<i->ls[i']?=some l'->l'≠l:=λi' l' h1 h2 z=>by
  obtain⟨a,ea⟩:=dC.mp h2;obtain⟨b,eb⟩:=dC.mp hl
  have:=List.pairwise_iff_getElem.mp up i' i a b h1
  lia
 refine⟨⟨by rw[List.length_set];exact F.rw.1,λx hx=>?_⟩,λi' l' h1 h2=>?_,λi' l' r' h1 h2 h3=>?_,λk hk=>?_⟩
 ·rcases List.mem_or_eq_of_mem_set hx with h|rfl
  ·exact F.rw.2 x h
  ·exact hr.at p0 c
 ·by_cases e:i'=i
  ·subst e;rw[hl]at h2;cases h2;exact hc
  ·exact F.lt i' l' (by lia) h2
 ·by_cases e:i'=i
  ·subst e;rw[hl]at h2;rw[hD]at h3;cases h2;cases h3;rw[Jn uT,af rfl]
  ·rw[Jn uT,ag (ne i' l' (by lia) h2)];exact F.at_ i' l' r' (by lia) h2 h3
 ·have:k≠l:=λz=>hk i (by lia) (by rw[hl,z])
  rw[Jn uT,ag this];exact F.off k λi' h=>hk i' (by lia)
theorem FI.done{fs:List Int}(up:ls.Pairwise (· < ·))(len:ls.length=D.length)(F:FI p c D ls D.length fs)(k:Nat):fs.getD k 0=o5 (jr D ls) k c:=by
 unfold o5;cases q:jr D ls k with
 |some r=>
  obtain⟨i,h1,h2⟩:=Jk q;exact F.at_ i k r (dC.mp h1).1 h2 h1
 |none=>
  refine F.off k λi hi h=>?_
  have:=Jl up (cP hi) h
  rw[q]at this;cases this
noncomputable def qW(rs:LL)(j:Nat):Fn:=fn (rs.map λq=>q.getD j 0)
theorem Jo{k:Nat}{q:List Int}(h:rs[k]?=some q):qW rs j k=q.getD j 0:=by
 show(rs.map λq=>q.getD j 0).getD k 0=_;rw[eG,dG,h];rfl
theorem Rm{k:Nat}(hk:k<n)(v:Fn):Sg (λi=>(if i=k then 1 else 0)*v i) n=v k:=by
 rw[Jj hk,qU λi _=>?_]
 ·simp
 ·by_cases h:i=k
  ·rw[af h]
  ·rw[ag h,ag h];simp
theorem abH(h:Sp p (RS rs) v):∃f:Fn,∀j,p∣dot f (qW rs j) rs.length-v j:=by
 induction h with
 |zero=>exact⟨λ_=>0,λj=>⟨0,by unfold dot;rw[qU λi _=>by simp];simp⟩⟩
 | @add u r c _ hr ih=>
  obtain⟨f,hf⟩:=ih;obtain⟨q,hq,rfl⟩:=hr;obtain⟨k,hk,rfl⟩:=List.mem_iff_getElem.mp hq;refine⟨λi=>f i+c*(if i=k then 1 else 0),λj=>?_⟩
  have e:dot (λi=>f i+c*(if i=k then 1 else 0)) (qW rs j) rs.length=dot f (qW rs j) rs.length+c*fn rs[k] j:=by
   unfold dot;have e1:Sg (λi=>(if i=k then 1 else 0)*qW rs j i) rs.length=fn rs[k] j:=by
    rw[Rm hk,Jo (cP hk)];rfl
   rw[<- e1,<- Rf,<- D5];exact pS λi _=>by rw[Int.add_mul,Int.mul_assoc]
  rw[e]
  have:=hf j
  rwa[show ∀a b d:Int,a+d-(b+d)=a-b from λa b d=>by lia]
 |eQ _ e ih=>
  obtain⟨f,hf⟩:=ih;exact⟨f,λj=>by
   have:=Int.dvd_add (hf j) (e j)
   rwa[show ∀a b d:Int,a-b+(b-d)=a-d from λa b d=>by lia]at this⟩
theorem Rn{p:Int}{rs:LL}(f:Fn):∀m,m<=rs.length->Sp p (RS rs) (λj=>dot f (qW rs j) m)
 |0,_=>Sp.zero
 |m+1,h=>by
  have hm:m<rs.length:=h;refine(Sp.add (f m) (Rn f m (by lia)) ⟨rs[m],r8 hm,rf⟩).of_eq λj=>?_;show dot f (qW rs j) m+f m*fn rs[m] j=dot f (qW rs j) (m+1);unfold dot;rw[Sg,Jo (cP hm)];rfl
theorem pU{U:List Fn}(h:Sp p (·∈u::U) v):∃(c:Int)(w:Fn),Sp p (·∈U) w/\o3 p (λj=>w j+c*u j) v:=by
 induction h with
 |zero=>exact⟨0,λ_=>0,.zero,λj=>⟨0,by simp⟩⟩
 | @add v r d _ hr ih=>
  obtain⟨c,w,hw,e⟩:=ih;rcases(cV.mp hr)with(rfl|hr)
  ·refine⟨c+d,w,hw,λj=>?_⟩;obtain⟨k,hk⟩:=e j;exact⟨k,by grind⟩
  ·refine⟨c,_,Sp.add d hw hr,λj=>?_⟩;obtain⟨k,hk⟩:=e j;exact⟨k,by grind⟩
 |eQ _ e ih=>
  obtain⟨c,w,hw,e2⟩:=ih;exact⟨c,w,hw,e2.trans e⟩
theorem l5{R:Fn->Prop}(h0:∀f,¬R f)(h:Sp p R v)(j:Nat):p∣v j:=by
 induction h with
 |zero=>exact⟨0,by simp⟩
 |add c _ hr ih=>exact absurd hr (h0 _)
 |eQ _ e ih=>
  obtain⟨k,hk⟩:=ih;obtain⟨k2,sV⟩:=e j;exact⟨k-k2,by grind⟩
section
variable{p:Int}{n:Nat}{D:LL}{ls:List Nat}
end
end Bw
namespace L2
open PySem Bw
section
variable{N:Addr->Prop}{H H':Hp}{LS:List V}{L:LL}{l a:Addr}{o:HO}{r:List Int}
end
end L2
namespace L2
open PySem PySem.Spec PyProof.Rows
end L2
namespace L2
open PySem Bw
end L2
namespace L2
open PySem PySem.Spec PyProof.Rows
variable{H H':Hp}{Q:QV}{X:Cx}{kvs:List (List Key×V)}{s:Shared}{u:Value}{xs:List (List Key×Addr×Value)}{y:V}
section
variable{κ:Type} [DecidableEq κ]
noncomputable def da(kvs:List (κ×V))(k:κ):Option V:=(kvs.find? λkv=>decide (kv.1=k)).map (·.2)
noncomputable def eS(kvs:List (κ×V))(k:κ)(v:V):List (κ×V):=
 if(kvs.any λkv=>decide (kv.1=k))=true then kvs.map (λkv=>if kv.1=k then(kv.1,v)else kv)else kvs++[(k,v)]
theorem n6{p:κ×V}{r:List (κ×V)}{k:κ}(e:p.1=k):da (p::r) k=some p.2:=by simp[da,ux,e]
theorem og{p:κ×V}{r:List (κ×V)}{k:κ}(e:¬p.1=k):da (p::r) k=da r k:=by simp[da,ux,e]
theorem yM(k:κ):∀kvs:List (κ×V),(kvs.any λkv=>decide (kv.1=k))=(da kvs k).isSome
 | []=>rfl
 |p::r=>by
  rw[List.any_cons];by_cases e:p.1=k
  ·simp only[n6 e,aD e,Bool.true_or,Option.isSome_some]
  ·rw[og e,ae e,Bool.false_or];exact yM k r
theorem Ro(k j:κ)(y:V):∀kvs:List (κ×V),da (kvs.map λkv=>if kv.1=k then(kv.1,y)else kv) j=(da kvs j).map λx=>if j=k then y else x
 | []=>rfl
 |p::r=>by
  have ih:=Ro k j y r;rw[gN];by_cases h:p.1=k
  ·rw[af h];by_cases e:p.1=j
   ·rw[n6 (p:=(p.1,y)) e,n6 e,Option.map_some,af (e.symm.trans h)]
   ·rw[og (p:=(p.1,y)) e,og e,ih]
  ·rw[ag h];by_cases e:p.1=j
   ·rw[n6 (p:=p) e,n6 e,Option.map_some,ag (λz=>h (e.trans z))]
   ·rw[og (p:=p) e,og e,ih]
theorem Rp(k j:κ)(y:V):∀kvs:List (κ×V),da kvs k=none->da (kvs++[(k,y)]) j=if j=k then some y else da kvs j
 | [],_=>by
  by_cases e:k=j
  ·rw[af e.symm];exact n6 (p:=(k,y)) e
  ·rw[ag (λz=>e z.symm)];exact og (p:=(k,y)) e
 |p::r,hn=>by
  rw[uv];have hk:¬p.1=k:=λz=>by rw[n6 z]at hn;cases hn
  rw[og hk]at hn;have ih:=Rp k j y r hn;by_cases e:p.1=j
  ·rw[n6 e,n6 e,ag (λz=>hk (e.trans z))]
  ·rw[og e,og e,ih]
theorem Bb(kvs:List (κ×V))(k j:κ)(y:V):da (eS kvs k y) j=if j=k then some y else da kvs j:=by
 unfold eS;by_cases a:(kvs.any λkv=>decide (kv.1=k))=true
 ·rw[af a,Ro];rw[yM]at a;by_cases e:j=k
  ·obtain⟨x,hx⟩:=Option.isSome_iff_exists.mp a;rw[af e,e,hx,Option.map_some,af rfl]
  ·rw[ag e];cases da kvs j with
   |none=>rfl
   |some x=>rw[Option.map_some,ag e]
 ·rw[ag a];refine Rp k j y kvs ?_;rw[yM]at a;cases q:da kvs k with
  |none=>rfl
  |some x=>rw[q]at a;exact(a rf).elim
theorem yN(kvs:List (κ×V))(k:κ)(v:V):(eS kvs k v).length<=kvs.length+1:=by
 unfold eS;split
 ·rw[bu];lia
 ·rw[cm,dW,List.length_nil];lia
theorem Eb{kvs:List (κ×V)}{k:κ}(v:V)(h:da kvs k=none):eS kvs k v=kvs++[(k,v)]:=by
 unfold eS;rw[yM,h];exact ag (by decide)
theorem nM.Bc{o:Option V}{u:Option Value}(r:nM o u):o.isSome=u.isSome:=by
 cases o with
 |none=>cases u with
  |none=>rfl
  |some _=>exact(show False from r).elim
 |some _=>cases u with
  |none=>exact(show False from r).elim
  |some _=>rfl
theorem nM.getD{o:Option V}{u:Option Value}{d:V}{d':Value}(r:nM o u)(rd:RelV d d'):RelV (o.getD d) (u.getD d'):=by
 cases o with
 |none=>cases u with
  |none=>exact rd
  |some _=>exact(show False from r).elim
 |some _=>cases u with
  |none=>exact(show False from r).elim
  |some _=>exact r
theorem KV.val{kvs:List (κ×V)}{vs:List (κ×Value)}(r:KV kvs vs)(k:κ):nM (da kvs k) (valueAt vs k):=by
 unfold KV at r;induction r with
 |nil=>exact True.intro
 | @cons p q ps qs h t ih=>
  obtain⟨h1,h2⟩:=h;by_cases e:p.1=k
  ·have e':q.1=k:=h1.symm.trans e;have b:valueAt (q::qs) k=some q.2:=by simp[valueAt,ux,e']
   rw[n6 e,b];exact h2
  ·have e':¬q.1=k:=λz=>e (h1.trans z);have b:valueAt (q::qs) k=valueAt qs k:=by simp[valueAt,ux,e']
   rw[og e,b];exact ih
theorem KV.any{kvs:List (κ×V)}{vs:List (κ×Value)}(r:KV kvs vs)(k:κ):(kvs.any λkv=>decide (kv.1=k))=vs.any λkv=>decide (kv.1=k):=by
 unfold KV at r;induction r with
 |nil=>rfl
 |cons h t ih=>rw[List.any_cons,List.any_cons,ih,h.1]
theorem KV.Jp{kvs:List (κ×V)}{vs:List (κ×Value)}(r:KV kvs vs)(k:κ)(ry:RelV y u) :
  KV (kvs.map λkv=>if kv.1=k then(kv.1,y)else kv) (vs.map λkv=>if kv.1=k then(kv.1,u)else kv):=by
 unfold KV at r |-;induction r with
 |nil=>exact .nil
 | @cons p q ps qs h t ih=>
  rw[gN,gN];refine .cons ?_ ih;obtain⟨h1,h2⟩:=h;by_cases e:p.1=k
  ·rw[af e,af (h1.symm.trans e)];exact⟨h1,ry⟩
  ·rw[ag e,ag (λz=>e (h1.trans z))];exact⟨h1,h2⟩
theorem KV.put{kvs:List (κ×V)}{vs:List (κ×Value)}(r:KV kvs vs)(k:κ)(ry:RelV y u):KV (eS kvs k y) (stored vs k u):=by
 unfold eS stored;rw[r.any k];by_cases e:(vs.any λkv=>decide (kv.1=k))=true
 ·rw[af e,af e];exact r.Jp k ry
 ·rw[ag e,ag e];exact Paired.snoc r ⟨rf,ry⟩
theorem KV.keys{kvs:List (κ×V)}{vs:List (κ×Value)}(r:KV kvs vs):kvs.map (·.1)=vs.map (·.1):=by
 unfold KV at r;induction r with
 |nil=>rfl
 |cons h t ih=>rw[gN,gN,ih,h.1]
theorem KV.length{kvs:List (κ×V)}{vs:List (κ×Value)}(r:KV kvs vs):kvs.length=vs.length:=Paired.length r
end
theorem sW{P:Program}{w:World}{k:Key}(r:RelV (kV k) u):(iu P w).is k u=true:=by
 cases k with
 |inl i=>obtain⟨t,e⟩:=(show ∃t,u=Value.int i t from r);subst e;exact Y8 P w i t
 |inr x=>obtain⟨t,e⟩:=(show ∃t,u=Value.str x t from r);subst e;exact Y9 P w x t
theorem Rq{P:Program}{w:World}:∀{ks:List Key}{us:List Value},Vals (ks.map kV) us->ItemsAre (iu P w) ks us
 | [],_,r=>by rw[rY]at r;cases r;exact .nil
 |k::ks,_,r=>by
  rw[gN]at r;cases r with
  |cons h t=>exact .cons (sW h) (Rq t)
abbrev KT(H:Hp):List (List Key×V)->List (List Key×Addr×Value)->Prop:=Paired λp q=>p.1=q.1/\H q.2.1=some (.tup (p.1.map kV))/\RelV p.2 q.2.2
theorem KT.val(r:KT H kvs xs)(k:List Key):nM (da kvs k) ((atKey xs k).map (·.2)):=by
 induction r with
 |nil=>exact True.intro
 | @cons p q ps qs h t ih=>
  obtain⟨h1,_,h2⟩:=h;by_cases e:p.1=k
  ·have e':q.1=k:=h1.symm.trans e;have b:atKey (q::qs) k=some q.2:=by simp[atKey,ux,e']
   rw[n6 e,b];exact h2
  ·have e':¬q.1=k:=λz=>e (h1.trans z);have b:atKey (q::qs) k=atKey qs k:=by simp[atKey,ux,e']
   rw[og e,b];exact ih
theorem KT.Jp(r:KT H kvs xs)(k:List Key)(ry:RelV y u) :
  KT H (kvs.map λkv=>if kv.1=k then(kv.1,y)else kv) (xs.map (putAt k u)):=by
 induction r with
 |nil=>exact .nil
 | @cons p q ps qs h t ih=>
  rw[gN,gN];refine .cons ?_ ih;obtain⟨h1,h2,h3⟩:=h;unfold putAt;by_cases e:p.1=k
  ·rw[af e,af (h1.symm.trans e)];exact⟨h1,h2,ry⟩
  ·rw[ag e,ag (λz=>e (h1.trans z))];exact⟨h1,h2,h3⟩
theorem KT.put(r:KT H kvs xs)(k:List Key){b:Addr}(hb:H b=some (.tup (k.map kV)))(ry:RelV y u) :
  KT H (eS kvs k y) (storedH xs k b u):=by
 have e:(kvs.any λkv=>decide (kv.1=k))=(atKey xs k).isSome:=by
  rw[yM,(r.val k).Bc,Option.isSome_map]
 unfold eS storedH;rw[e];by_cases q:(atKey xs k).isSome=true
 ·rw[af q,af q];exact r.Jp k ry
 ·rw[ag q,ag q];exact Paired.snoc r ⟨rf,hb,ry⟩
theorem KT.keeps(r:KT H kvs xs)(ht:∀b ys,H b=some (.tup ys)->H' b=some (.tup ys)):KT H' kvs xs:=
 Paired.Hy r λ_ _ z=>⟨z.1,ht _ _ z.2.1,z.2.2⟩
section
variable{P:Program}{w:World}{H:Hp}{h:Heap}{a:Addr}
theorem Rr{u:HO}(ok:gE P w H h)(e:Rd H a u):gP P w H h a u:=e.ok ok
theorem qX{kvs:List (Key×V)}(ok:gE P w H h)(e:Rd H a (.dK kvs)):kvs.length<=sizeLine/\(a==sysModules)=false/\∃vs,KV kvs vs/\h.DictOf (iu P w) a vs:=
 show gP P w H h a (.dK kvs) from Rr ok e
theorem Rt{kvs:List (Key×V)}(ok:gE P w H h)(e:H a=some (.dK kvs)):kvs.length<=sizeLine/\(a==sysModules)=false/\∃vs,KV kvs vs/\h.DictOf (iu P w) a vs:=qX ok (.inl e)
theorem yO{ks:List Key}(ok:gE P w H h)(e:H a=some (.tup (ks.map kV))):(tupleKind (iu P w)).is h ks a:=by
 obtain⟨_,its,r,o,h1,h2,_,n,h3⟩:=(show gP P w H h a (.tup (ks.map kV)) from ok a _ e)
 exact⟨o,its.toArray,n,h1,h2,h3,by simpa using Rq r⟩
theorem wI(ok:gE P w H h)(e:Rd H a (.dT kvs)):kvs.length<=sizeLine/\(a==sysModules)=false/\
  ∃xs,KT H kvs xs/\h.DictOfH (tupleKind (iu P w)) a xs:=by
 obtain⟨z,y,xs,r,o,es,ep,h1,h2,h3,h4,h5⟩:=(show gP P w H h a (.dT kvs) from Rr ok e)
 refine⟨z,y,xs,r,o,es,ep,h1,h2,h3,h4,λx hx=>?_,h5⟩;have all:∀{l:List (List Key×V)}{m:List (List Key×Addr×Value)},KT H l m->∀x∈m,(tupleKind (iu P w)).is h x.1 x.2.1:=by
  intro l m q;induction q with
  |nil=>intro x hx;exact nomatch hx
  | @cons p q ps qs hq t ih=>
   intro x hx;rcases cV.mp hx with e|hx
   ·subst e;exact yO ok (by rw[<- hq.1];exact hq.2.1)
   ·exact ih x hx
 exact all r x hx
theorem abI(ok:gE P w H h)(e:H a=some (.dT kvs)):kvs.length<=sizeLine/\(a==sysModules)=false/\
  ∃xs,KT H kvs xs/\h.DictOfH (tupleKind (iu P w)) a xs:=wI ok (.inl e)
end
def eI(H:Hp)(a:Addr)(y:V)(r:Option V):Prop:=
 (∃kvs k,Rd H a (.dK kvs)/\y=kV k/\r=da kvs k)\/∃kvs k b,Rd H a (.dT kvs)/\y=.ref b/\H b=some (.tup (k.map kV))/\r=da kvs k
def l6(H:Hp)(a:Addr)(y v:V)(H':Hp):Prop:=
 (∃kvs k,H a=some (.dK kvs)/\y=kV k/\kvs.length<sizeLine/\H'=upd H a (.dK (eS kvs k v))) \/
 ∃kvs k b,H a=some (.dT kvs)/\y=.ref b/\H b=some (.tup (k.map kV))/\kvs.length<sizeLine/\H'=upd H a (.dT (eS kvs k v))
theorem eI.k{H:Hp}{a:Addr}{kvs:List (Key×V)}{k:Key}(e:H a=some (.dK kvs)):eI H a (kV k) (da kvs k):=.inl ⟨kvs,k,.inl e,rfl,rfl⟩
theorem l6.k{H:Hp}{a:Addr}{kvs:List (Key×V)}{k:Key}{v:V}(e:H a=some (.dK kvs))(hl:kvs.length<sizeLine):l6 H a (kV k) v (upd H a (.dK (eS kvs k v))):=.inl ⟨kvs,k,e,rfl,hl,rfl⟩
section
variable{X:Cx}{aU:List (Addr×Obj)}{σ:St}{H:Hp}{s:Shared}{a:Addr}{y v:V}{u r:Value}{o:Option V}{A:Around}{E:QV}
theorem Inv.big(I:Inv X aU σ H s):sysModules<s.heap.objs.size:=by
 have h:mainGlobals<s.heap.objs.size:=(I.mod.glob.keeps I.bk).lt;exact Nat.lt_trans (by decide) h
theorem abJ(hu:A.units+1<cLine)(I:Inv X aU σ H s)(g:eI H a y (some v))(ry:RelV y u)(h:∀w' s',Inv X aU σ H s'->RelV v w'->Q w' s') :
  wpAny (model X.prog X.w) A (getItem (.ref a) u) Q E s:=by
 rcases g with⟨kvs,k,e,ey,l⟩|⟨kvs,k,b,e,ey,eb,l⟩
 ·subst ey;obtain⟨z,hd,vs,rel,dd⟩:=qX I.cq e;obtain⟨w',hw,rw'⟩:=nM.some_of (v:=v) (o:=valueAt vs k) (by rw[l];exact rel.val k);exact wpAny_getItem_of (sW ry) dd.mapOf hw (h w' _ (I.tok _) rw')
 ·subst ey;cases(show u=Value.ref b from ry)
  obtain⟨z,hd,xs,rel,dd⟩:=wI I.cq e;obtain⟨w',hw,rw'⟩:=nM.some_of (v:=v) (o:=(atKey xs k).map (·.2)) (by rw[l];exact rel.val k);obtain⟨p,hp,AN⟩:=Option.map_eq_some_iff.mp hw;refine wpAny_getItem_heap (aK hu) (yO I.cq eb) dd hp ?_;rw[AN];exact h w' _ (I.tok _) rw'
theorem abK(hu:A.units+1<cLine)(I:Inv X aU σ H s)(g:eI H a y o)(ry:RelV y u)(h:∀s',Inv X aU σ H s'->Q (.bool o.isSome) s') :
  wpAny (model X.prog X.w) A (compareOp .In u (.ref a)) Q E s:=by
 rcases g with⟨kvs,k,e,ey,l⟩|⟨kvs,k,b,e,ey,eb,l⟩
 ·subst ey;obtain⟨z,hd,vs,rel,dd⟩:=qX I.cq e;refine wpAny_in_of (sW ry) hd dd.mapOf ?_;rw[<- (rel.val k).Bc,<- l];exact h _ (I.tok _)
 ·subst ey;cases(show u=Value.ref b from ry)
  obtain⟨z,hd,xs,rel,dd⟩:=wI I.cq e;refine wpAny_in_heap (aK hu) (yO I.cq eb) hd dd ?_;have q:=(rel.val k).Bc;rw[Option.isSome_map]at q;rw[<- q,<- l];exact h _ (I.tok _)
theorem abL(hu:A.units+1<cLine)(I:Inv X aU σ H s)(g:eI H a y o)(ry:RelV y u)(h:∀s',Inv X aU σ H s'->Q (.bool (!o.isSome)) s') :
  wpAny (model X.prog X.w) A (compareOp .NotIn u (.ref a)) Q E s:=by
 rcases g with⟨kvs,k,e,ey,l⟩|⟨kvs,k,b,e,ey,eb,l⟩
 ·subst ey;obtain⟨z,hd,vs,rel,dd⟩:=qX I.cq e;refine wpAny_notIn_of (sW ry) hd dd.mapOf ?_;rw[<- (rel.val k).Bc,<- l];exact h _ (I.tok _)
 ·subst ey;cases(show u=Value.ref b from ry)
  obtain⟨z,hd,xs,rel,dd⟩:=wI I.cq e;refine wpAny_notIn_heap (aK hu) (yO I.cq eb) hd dd ?_;have q:=(rel.val k).Bc;rw[Option.isSome_map]at q;rw[<- q,<- l];exact h _ (I.tok _)
theorem Jq{h':Heap}{t':Nat}{ob:HO}(I:Inv X aU σ H s)(mu:Ac (H a))(hs:Heap.SameBut a s.heap h')(he:∃q,h'.get? a=some q)(new:gP X.prog X.w (upd H a ob) h' a ob) :
  Inv X aU σ (upd H a ob) { s with heap:=h',toks:=t' }:=
 I.write (x:=a) (e:=a) mu (.inl rfl) (λb q hb z=>(hs.2 b hb).trans z) he new
theorem Bd{P:Program}{w:World}{h':Heap}{kvs:List (Key×V)}{vs:List (Key×Value)}(z:kvs.length<=sizeLine)(hd:(a==sysModules)=false)(rel:KV kvs vs)(dd:h'.DictOf (iu P w) a vs) :
  gP P w H' h' a (.dK kvs):=⟨z,hd,vs,rel,dd⟩
theorem abM{Q:Unit->Shared->Prop}(hu:A.units+1<cLine)(I:Inv X aU σ H s)(g:l6 H a y v H')(ry:RelV y u)(rv:RelV v r)(h:∀s',Inv X aU σ H' s'->Q () s') :
  wpAny (model X.prog X.w) A (setItem (.ref a) u r) Q E s:=by
 rcases g with⟨kvs,k,e,ey,l,eH⟩|⟨kvs,k,b,e,ey,eb,l,eH⟩
 ·subst ey eH;obtain⟨z,hd,vs,rel,dd⟩:=Rt I.cq e;have hz:vs.length<=sizeLine:=by rw[<- rel.length];exact z
  have hl:(eS kvs k v).length<=sizeLine:=by have:=yN kvs k v;lia
  refine wpAny_setItem_pairs (hsz:=hz) (sW ry) dd λh' sX hs=>h _ ?_;have he:∃q,h'.get? a=some q:=let ⟨q,_,_,hq,_⟩:=sX;⟨q,hq⟩;exact Jq I (by rw[e];exact True.intro) hs he (Bd hl hd (rel.put k rv) sX)
 ·subst ey eH;cases(show u=Value.ref b from ry)
  obtain⟨z,hd,xs,rel,dd⟩:=abI I.cq e;have hz:xs.length<=sizeLine:=by rw[<- Paired.length rel];exact z
  have hl:(eS kvs k v).length<=sizeLine:=by have:=yN kvs k v;lia
  refine wpAny_setItem_heap (hsz:=hz) (aK hu) (yO I.cq eb) dd λh' sX hs=>h _ ?_;obtain⟨q,es,ep,hq,h2,h3,h4,_,h5⟩:=sX;refine Jq I (by rw[e];exact True.intro) hs ⟨q,hq⟩ ⟨hl,hd,_,(rel.put k eb rv).keeps λc ys ec=>?_,q,es,ep,hq,h2,h3,h4,h5⟩;rw[bR (Za ec e (λz=>nomatch z))];exact ec
end
section
variable{X:Cx}{aU:List (Addr×Obj)}{σ:St}{H:Hp}{s:Shared}{a:Addr}{kvs:List (Key×V)}{k:Key}{u:Value}{A:Around}{E:QV}
end
def Jr(i:Expr):Prop:=∀ov iv,subscripted i false ov iv=operate [ov,iv] (getItem ov iv)
theorem Ru{prog:Program}{w:World}{A:Around}{E:QV}{env:Env}{value slice:Expr}{pos:Pos}{T id:String}
  (hl:typeLookup (.type T) "__getitem__"=pure (some (.builtin id))) (hs:Jr slice)
  (h:wpAny (model prog w) A (eval value env) (λo s₁=>wpAny (model prog w) A (eval slice env) (λi s₂=>s₂.TypeIs o T/\wpAny (model prog w) A (getItem o i) Q E s₂) E s₁) E s) :
  wpAny (model prog w) A (eval (.Subscript value slice pos) env) Q E s:=by
 refine Subscript_ (ah h (λo s₁ h₁=>ah h₁ (λi s₂ h₂=>?_) λ_ _ x=>x) λ_ _ x=>x);obtain⟨hT,h₂⟩:=h₂;unfold subscriptTail;refine ak ?_;rw[getitemInPython_of_ne hT.not_modules];refine ak (wpAny_specialOf hT hl ?_);have fin:wpAny (model prog w) A (subscripted slice false o i) (λr s₃=>wpAny (model prog w) A (letTemporaryGo value o r >>= λ_=>pure r) Q E s₃) E s₂:=by
  rw[hs o i];exact wpAny_operating (ah h₂ (λr s₃ h₃=>ak (wpAny_letTemporaryGo (aq h₃))) λ_ _ x=>x)
 first
  |exact aq (ak fin)
  |exact ak (aq (ak fin))
  |exact ak fin
theorem abN{aU:List (Addr×Obj)}{σ:St}{a:Addr}{o:Option V}(I:Inv X aU σ H s)(g:eI H a y o):s.TypeIs (.ref a) "dict":=by
 rcases g with⟨kvs,k,e,_,_⟩|⟨kvs,k,b,e,_,_,_⟩
 ·obtain⟨_,_,vs,_,dd⟩:=qX I.cq e;exact dd.typeIs
 ·obtain⟨_,_,xs,_,dd⟩:=wI I.cq e;exact dd.typeIs
def Js(td ty:TE):TE:=λσ H Q=>td σ H λx H1=>ty σ H1 λy H2=>∃a v,x=.ref a/\eI H2 a y (some v)/\Q v H2
def abO(ty td:TE):TE:=λσ H Q=>ty σ H λy H1=>td σ H1 λx H2=>∃a o,x=.ref a/\eI H2 a y o/\Q (.bl o.isSome) H2
def abP(ty td:TE):TE:=λσ H Q=>ty σ H λy H1=>td σ H1 λx H2=>∃a o,x=.ref a/\eI H2 a y o/\Q (.bl (!o.isSome)) H2
def Rv(td ty tv:TE):TS:=λD σ H=>tv σ H λv H1=>td σ H1 λx H2=>ty σ H2 λy H3=>∃a H4,x=.ref a/\l6 H3 a y v H4/\D.nx σ H4
section
variable{X:Cx}{o i e value:Expr}{pos oK ZR:Pos}{td ty tv:TE}
theorem gJ(hu:X.A.units+1<cLine)(ho:PE X o td)(hi:PE X i ty)(hs:Jr i:=by exact λ_ _=>rf):PE X (.Subscript o i pos) (Js td ty):=by
 intro aU s σ H Q I h;refine Ru PySem.F.slot_dict_getitem.lookup hs (bj (ho aU s σ H _ I h) λu s1 ⟨x,H1,I1,rx,q1⟩=>bj (hi aU s1 σ H1 _ I1 q1) λiv s2 ⟨y,H2,I2,ry,a,v,ex,g,q2⟩=>?_);subst ex;obtain rfl:u=Value.ref a:=rx;exact⟨abN I2 g,abJ hu I2 g ry λw' s3 I3 rw'=>⟨v,H2,I3,rw',q2⟩⟩
theorem Jt(hu:X.A.units+1<cLine)(hi:PE X i ty)(ho:PE X o td):PC X .In i o (abO ty td):=by
 intro aU s σ H Q I h;refine bj (hi aU s σ H _ I h) λiv s1 ⟨y,H1,I1,ry,q1⟩=>bj (ho aU s1 σ H1 _ I1 q1) λu s2 ⟨x,H2,I2,rx,a,ov,ex,g,q2⟩=>?_;subst ex;obtain rfl:u=Value.ref a:=rx;exact abK hu I2 g ry λs3 I3=>⟨.bl ov.isSome,H2,I3,rf,q2⟩
theorem abQ(hu:X.A.units+1<cLine)(hi:PE X i ty)(ho:PE X o td):PC X .NotIn i o (abP ty td):=by
 intro aU s σ H Q I h;refine bj (hi aU s σ H _ I h) λiv s1 ⟨y,H1,I1,ry,q1⟩=>bj (ho aU s1 σ H1 _ I1 q1) λu s2 ⟨x,H2,I2,rx,a,ov,ex,g,q2⟩=>?_;subst ex;obtain rfl:u=Value.ref a:=rx;exact abL hu I2 g ry λs3 I3=>⟨.bl (!ov.isSome),H2,I3,rf,q2⟩
theorem pV(hu:X.A.units+1<cLine)(ho:PE X o td)(hi:PE X i ty)(hv:PE X value tv)(hs:swapsWith value (some (.Subscript o i oK)) pos.line X.env=pure false) :
  PS X (.Assign [.Subscript o i oK] value pos) (Rv td ty tv):=by
 intro aU s σ H D I h;refine wpAny_Assign_Subscript (bj (hv aU s σ H _ I h) λr s1 ⟨v,H1,I1,rv,q1⟩=>bj (ho aU s1 σ H1 _ I1 q1) λu s2 ⟨x,H2,I2,rx,q2⟩=>bj (hi aU s2 σ H2 _ I2 q2) λiv s3 ⟨y,H3,I3,ry,a,H4,ex,g,q3⟩=>?_) hs;subst ex;obtain rfl:u=Value.ref a:=rx;exact abM hu I3 g ry rv λs4 I4=>⟨σ,H4,I4,q3⟩
end
theorem Rx{P:Program}{w:World}(h:Heap)(hb:sysModules<h.objs.size):gP P w H (h.push { cls:=.type "dict",data:=.dict #[] }) h.objs.size (.dK []):=
 ⟨jv _,beq_eq_false_iff_ne.mpr (Ne.symm (fK hb)),[],.nil,Heap.DictOf.new h⟩
def Ju:TE:=λ_ H Q=>∀p,H p=none->Q (.ref p) (upd H p (.dK []))
section
variable{X:Cx}{pos:Pos}
theorem Be:PE X (.Dict [] [] pos) Ju:=λaU s σ H Q I h=>
 wpAny_Dict_empty ⟨.ref s.heap.objs.size,_,I.laid (a:=s.heap.objs.size) (o:=.dK []) (t':=s.toks) (λ_ _ q=>dt _ q) (cn _) (Rx s.heap I.big),rfl,h _ (I.cq.fresh (cn _))⟩
end
def wJ:List (TE×TE)->St->Hp->(List (V×V)->Hp->Prop)->Prop
 | [],_,H,Q=>Q [] H
 |(tk,tv)::r,σ,H,Q=>tk σ H λx H1=>tv σ H1 λy H2=>wJ r σ H2 λps H3=>Q ((x,y)::ps) H3
abbrev VV:List (V×V)->List (Value×Value)->Prop:=Paired λp q=>RelV p.1 q.1/\RelV p.2 q.2
def Bf(X:Cx)(pos:Pos)(keys:List (Option Expr))(values:List Expr)(sY:List (TE×TE)):Prop:=
 ∀(aU:List (Addr×Obj))(s:Shared)(σ:St)(H:Hp)(Q:List (V×V)->Hp->Prop),Inv X aU σ H s->wJ sY σ H Q->
  wpAny (model X.prog X.w) X.A (evalPairs (pairTrees keys values X.env pos)) (λvs s'=>∃ps H',Inv X aU σ H' s'/\VV ps vs/\Q ps H') X.xe s
theorem yQ{pos:Pos}:Bf X pos [] [] []:=λaU s σ H Q I h=>pairTrees_nil_walk ⟨[],H,I,.nil,h⟩
theorem qY{pos:Pos}{k v:Expr}{ks:List (Option Expr)}{vs:List Expr}{tk tv:TE}{sY:List (TE×TE)}(hk:PE X k tk)(hv:PE X v tv)(hr:Bf X pos ks vs sY) :
  Bf X pos (some k::ks) (v::vs) ((tk,tv)::sY):=λaU s σ H Q I h=>
 pairTrees_cons_walk (bj (hk aU s σ H _ I h) λu s1 ⟨x,H1,I1,rx,q1⟩=>bj (hv aU s1 σ H1 _ I1 q1) λw2 s2 ⟨y,H2,I2,ry,q2⟩=>
  bj (hr aU s2 σ H2 _ I2 q2) λws s3 ⟨ps,H3,I3,rel,q3⟩=>⟨(x,y)::ps,H3,I3,.cons ⟨rx,ry⟩ rel,q3⟩)
noncomputable def iF(kvs ia:List (Key×V)):List (Key×V):=ia.foldl (λacc kv=>eS acc kv.1 kv.2) kvs
theorem KV.merge:∀{ia:List (Key×V)}{rs:List (Key×Value)}{kvs:List (Key×V)}{vs:List (Key×Value)},KV ia rs->KV kvs vs->KV (iF kvs ia) (merged vs rs):=by
 intro ia rs kvs vs r;unfold KV at r;induction r generalizing kvs vs with
 |nil=>intro q;exact q
 | @cons p q ps qs h t ih=>
  intro r0;have e:KV (eS kvs p.1 p.2) (stored vs q.1 q.2):=by
   have:=r0.put p.1 h.2
   rw[<- h.1];exact this
  exact ih e
theorem Bg:∀(ia kvs:List (Key×V)),(iF kvs ia).length<=kvs.length+ia.length
 | [],kvs=>by show kvs.length<=kvs.length+0;lia
 |p::r,kvs=>by
  have h1:=Bg r (eS kvs p.1 p.2);have h2:=yN kvs p.1 p.2;show(iF (eS kvs p.1 p.2) r).length<=_;rw[dW];lia
theorem Ry{P:Program}{w:World}:∀{kvs:List (Key×V)}{ws:List (Value×Value)},VV (kvs.map λkv=>(kV kv.1,kv.2)) ws->∃rs,Carries (iu P w) ws rs/\KV kvs rs
 | [],_,r=>by rw[rY]at r;cases r;exact⟨[],True.intro,.nil⟩
 |p::kvs,_,r=>by
  rw[gN]at r;cases r with
  | @cons a b as bs h t=>
   obtain⟨rs,c,q⟩:=Ry (P:=P) (w:=w) t;obtain⟨b1,b2⟩:=b;exact⟨(p.1,b2)::rs,⟨sW h.1,rf,c⟩,.cons ⟨rf,h.2⟩ q⟩
def pW(sY:List (TE×TE)):TE:=λσ H Q=>∀p,H p=none->wJ sY σ (upd H p (.dK [])) λps H2=>H2 p=some (.dK [])/\∃kvs:List (Key×V),ps=kvs.map (λkv=>(kV kv.1,kv.2))/\kvs.length<=15/\Q (.ref p) (upd H2 p (.dK (iF [] kvs)))
theorem yR{pos:Pos}{keys:List (Option Expr)}{values:List Expr}{sY:List (TE×TE)}(h:Bf X pos keys values sY)(Ik:keys.all (·.isSome)=true)(hl:keys.length=values.length)(h0:keys≠[])
  (Jv:keys.length<=15):PE X (.Dict keys values pos) (pW sY):=by
 intro aU s σ H Q I q;have hn:=I.cq.fresh (cn s.heap.objs.size);have I1:=I.laid (a:=s.heap.objs.size) (o:=.dK []) (h':=s.heap.push { cls:=.type "dict",data:=.dict #[] }) (t':=s.toks) (λ_ _ q=>dt _ q) (cn _) (Rx s.heap I.big);refine wpAny_Dict_walk (knd:=iu X.prog X.w) Ik hl h0 Jv (bj (h aU _ σ _ _ I1 (q _ hn)) λws s2 ⟨ps,H2,I2,rel,e,kvs,ep,lk,q2⟩=>?_);subst ep;obtain⟨rs,c,rk⟩:=Ry (P:=X.prog) (w:=X.w) rel;obtain⟨z,hd,vs0,r0,dd⟩:=Rt I2.cq e;cases r0;refine⟨rs,c,dd,λh' sX hs=>⟨.ref s.heap.objs.size,_,?_,rf,q2⟩⟩;have hz:(iF [] kvs).length<=sizeLine:=by
  have h1:=Bg kvs [];rw[List.length_nil]at h1;rw[sizeLine_eq];lia
 have he:∃q,h'.get? s.heap.objs.size=some q:=let ⟨q,_,_,hq,_⟩:=sX;⟨q,hq⟩;exact Jq I2 (by rw[e];exact True.intro) hs he (Bd hz hd (rk.merge .nil) sX)
structure M2(X:Cx)(o:Expr)(m:Str)(jy:Pos)(e f:Expr)(iE:Pos):Prop where
 base:attributeBase o m X.env (eval o X.env)=eval o X.env
 ij:((backTo iE (starEach [e,f] X.env)).all (λx=>!x.1)&&(backToKw iE (keywordEach [] X.env)).all (λx=>x.1.isSome)
  && decide (([e,f]:List Expr).length+([]:List Keyword).length+(if([]:List Keyword).isEmpty then 0 else 1)<30))=true
 line:(jy.endLine==iE.line)=true
 trees:backTo iE (starEach [e,f] X.env)=[(false,eval e X.env),(false,eval f X.env)]
def Rz(H:Hp)(a:Addr):Prop:=(∃kvs,Rd H a (.dK kvs))\/∃kvs,Rd H a (.dT kvs)
theorem abR{aU:List (Addr×Obj)}{σ:St}{a:Addr}(I:Inv X aU σ H s)(d:Rz H a) :
  s.TypeIs (.ref a) "dict"/\(∀b,Value.ref a=.ref b->∃ob,s.heap.get? b=some ob/\ob.dict=none)/\(a==sysModules)=false:=by
 rcases d with⟨kvs,e⟩|⟨kvs,e⟩
 ·obtain⟨_,hd,vs,_,dd⟩:=qX I.cq e;refine⟨dd.typeIs,λb q=>?_,hd⟩;cases q;obtain⟨ob,_,_,h1,h2,_⟩:=dd;exact⟨ob,h1,h2.2.1⟩
 ·obtain⟨_,hd,xs,_,dd⟩:=wI I.cq e;refine⟨dd.typeIs,λb q=>?_,hd⟩;cases q;obtain⟨ob,_,_,h1,h2,_⟩:=dd;exact⟨ob,h1,h2.2.1⟩
section
variable{X:Cx}{aU:List (Addr×Obj)}{σ:St}{H:Hp}{s:Shared}{a:Addr}{y d:V}{u r:Value}{o:Option V}{A:Around}{E:QV}
theorem abS(hu:A.units+1<cLine)(I:Inv X aU σ H s)(g:eI H a y o)(ry:RelV y u)(rd:RelV d r)(h:∀w' s',Inv X aU σ H s'->RelV (o.getD d) w'->Q w' s') :
  wpAny (model X.prog X.w) A (call (.builtin "dict.get") [.ref a,u,r]) Q E s:=by
 rcases g with⟨kvs,k,e,ey,l⟩|⟨kvs,k,b,e,ey,eb,l⟩
 ·subst ey;obtain⟨z,hd,vs,rel,dd⟩:=qX I.cq e;refine call_meetsIn Ht dd.typeIs PySem.F.entry_dict_get (PySem.F.args_dict_get_3 _ _ _) (meets_dict_get_default (iu X.prog X.w) a (sW ry) hd r) ⟨_,dd.mapOf,h _ _ (I.tok _) ?_⟩;rw[l];exact(rel.val k).getD rd
 ·subst ey;cases(show u=Value.ref b from ry)
  obtain⟨z,hd,xs,rel,dd⟩:=wI I.cq e;refine call_meetsIn Ht dd.typeIs PySem.F.entry_dict_get (PySem.F.args_dict_get_3 _ _ _) (meetsH_dict_get_default (tupleKind (iu X.prog X.w)) a b hd r) ⟨aK hu,k,xs,yO I.cq eb,dd,h _ _ (I.tok _) ?_⟩;rw[l];exact(rel.val k).getD rd
end
def Bh(td ty tx:TE):TE:=λσ H Q=>td σ H λx H1=>∃a,x=.ref a/\Rz H1 a/\ty σ H1 λy H2=>tx σ H2 λz H3=>∃o,eI H3 a y o/\Q (o.getD z) H3
section
variable{X:Cx}{o e f:Expr}{jy iE:Pos}{td ty tx:TE}
theorem yS(hu:X.A.units+1<cLine)(ho:PE X o td)(he:PE X e ty)(hf:PE X f tx)(m:M2 X o "get" jy e f iE):PE X (.Call (.Attribute o "get" jy) [e,f] [] iE) (Bh td ty tx):=by
 intro aU s σ H Q I h;refine wpAny_Call_method m.base m.ij m.line PySem.F.plainAttrs_dict Ht PySem.F.type_dict_get (bj (ho aU s σ H _ I h) λu s1 ⟨x,H1,I1,rx,a,ex,d,q1⟩=>?_);subst ex;obtain rfl:u=Value.ref a:=rx;obtain⟨t1,t2,_⟩:=abR I1 d;refine⟨t1,t2,?_⟩;rw[m.trees];refine Calls.callWith_builtin rf (Calls.evalArgs_plain (CT (bj (he aU s1 σ H1 _ I1 q1) λiv s2 ⟨y,H2,I2,ry,q2⟩=>
  CT (bj (hf aU s2 σ H2 _ I2 q2) λfv s3 ⟨z,H3,I3,rz,ov,g,q3⟩=>Calls.spliced_nil ?_))))
 exact abS hu I3 g ry rz λw' s4 I4 rw'=>⟨_,H3,I4,rw',q3⟩
end
section
variable{X:Cx}{aU:List (Addr×Obj)}{σ:St}{H:Hp}{s:Shared}{a:Addr}{kvs:List (Key×V)}{A:Around}{E:QV}
theorem abT(I:Inv X aU σ H s)(e:Rd H a (.dK kvs))(h:∀p s',H p=none->Inv X aU σ (upd H p (.dK kvs)) s'->Q (.ref p) s'):wpAny (model X.prog X.w) A (call (.type "dict") [.ref a]) Q E s:=by
 obtain⟨z,hd,vs,rel,dd⟩:=qX I.cq e;refine kt_call_dict hd dd (by rw[<- rel.length];exact z) λh' sX hs=>?_;refine h _ _ (I.cq.fresh (cn _)) (I.laid (a:=s.heap.objs.size) (o:=.dK kvs) (t':=s.toks) (λb q hq=>?_) (cn _) (Bd z (beq_eq_false_iff_ne.mpr (Ne.symm (fK I.big))) rel sX));exact(hs.2 b (fK (cX hq))).trans (dt _ hq)
end
section
variable{X:Cx}{aU:List (Addr×Obj)}{σ:St}{H:Hp}{s:Shared}{a:Addr}{y:V}{u:Value}{A:Around}{E:QV}
end
end L2
namespace HT
open PySem PySem.Spec PyProof.Rows
variable{prog:Program}{w:World}{A:Around}{E:QV}{s:Shared}
theorem abU{t sl:Addr}{items:Array Value}{vl vu:Value}{lo hi:Option Int}{Q:QV}(ht:IsTup s.heap t items)(hs:s.heap.IsSliceOf sl vl vu .none)(pl:IsPart vl lo)(pu:IsPart vu hi)
  (h0:cY items.size 0 lo=0) (h1:cY items.size items.size hi=items.size) (h:Q (.ref t) s):wpAny (model prog w) A (getItem (.ref t) (.ref sl)) Q E s:=by
 obtain⟨os,su,x9,Ax⟩:=id hs;have Ia:s.TypeIs (.ref sl) "slice":=⟨os,su,x9⟩;unfold getItem
 try with_reducible refine ao ?_
 first|refine ak (aq ?_)|skip
 refine ak (wpAny_sequenceKey ht.typeIs (by decide) ?_);refine ak (ay (name:=Str.ofString "__getitem__") ht.typeIs CV (az CV ht.typeIs entry_tuple_getitem ?_ (args_tuple_getitem _ _)));show wpAny _ _ (Builtin.Tuple.tupleItemsOf (.ref t) >>= _) _ _ s;refine ak (tupleItemsOf_ ht ?_);refine ak (aA Ia ?_);rw[af (by decide)];refine ak (Pd hs pl pu ?_);have abV:(((cY items.size 0 lo:Nat):Int)==0&&(1:Int)==1&&(cY items.size items.size hi-cY items.size 0 lo)==items.size)=true:=by
  rw[h0,h1];simp
 show wpAny _ _ (if(((cY items.size 0 lo:Nat):Int)==0&&(1:Int)==1&&(cY items.size items.size hi-cY items.size 0 lo)==items.size)=true then _ else _) _ _ s
 rw[af abV];unfold Builtin.Tuple.tupleIsExact;refine ak (ak (aA ht.typeIs (aq ?_)));rw[af (by decide)];first
  |exact ak (aq (aq ⟨_,rf,aq h⟩))
  |exact ak (m:=rule _) (aq ⟨_,rf,aq h⟩)
  |exact aq ⟨_,rf,aq h⟩
  |exact ak (wpAny_rule (aq ⟨_,rf,aq h⟩))
  |exact ak (wpAny_rule (ak (aq (aq ⟨_,rf,aq h⟩))))
end HT
namespace L2
open PySem PySem.Spec PyProof.Rows
variable{H H':Hp}{Q:QV}{X:Cx}{a:Addr}{i:Int}{s:Shared}
def RA(K:Frag):V->Option Int->Option Int->Hp->VK->Prop:=λx lo hi H Q=>∃a xs,x=.ref a/\bq K H a xs/\jn K H (iR xs lo hi) Q
theorem abW:ya X (RA X.K):=by
 intro aU s σ H x v vl vu lo hi sl Q I rx hs pl pu h;obtain⟨a,xs,rfl,hx,q⟩:=h;by_cases hw:HT.cY xs.length 0 lo=0/\HT.cY xs.length xs.length hi=xs.length
 ·cases rx;obtain⟨its,r,ht,hz⟩:=I.tuple hx;have cB:its.toArray.size=xs.length:=by rw[eK];exact r.length.symm
  refine⟨"tuple",_,CV.lookup,ht.typeIs,?_⟩;refine HT.abU ht hs pl pu (by rw[cB];exact hw.1) (by rw[cB];exact hw.2) ?_;refine⟨.ref a,H,I,rf,q.old ?_⟩;unfold iR;rw[hw.1,hw.2,List.drop_zero,Nat.sub_zero,iU];exact hx
 ·exact Z3 aU s σ H _ v vl vu lo hi sl Q I rx hs pl pu ⟨a,xs,rf,hx,hw,λp hp=>q.new hp⟩
theorem sZ(K:Frag)(hK:X.K=K):ya X (RA K):=hK▸abW
section
variable{X:Cx}
end
section
variable{K:Frag}{H1:Hp}{cp:St}{tt:TT}{te:TE}{Q:VK}{xs ys:List V}{l1 l2:Addr}{b1 b2:Bool}
end
def cw(Pt:Addr)(H H':Hp):Prop:=∀b o,H b=some o->b≠Pt->H' b=some o
section
variable{X:Cx}
end
structure pX(P:Program)(w:World)(K:Frag)(mg:Str->Option Value)(base:Heap)(k:Nat)(f:Addr)(fd:FuncData)(ps:List Str)(sp:Shared->Sp):Prop where
 len:∀s vs H Q E,sp s vs H Q E->vs.length=ps.length
 run:∀(A:Around)(outer:List Env)(s:Shared)(H:Hp)(args:Args)(us:List Value)(vs:List V)(Q:VK)(E:XK),eO k A->x6 P w K mg base A outer s H->BindsTo s fd args (ps.zip us)->Vals vs us->sp s vs H Q E->
  codeAny (model P w) A (.call (.ref f) args) (CR cb outer P w H s Q E) s
section
variable{P:Program}{w:World}{K:Frag}{mg:Str->Option Value}{base:Heap}
theorem cJ.Jw{x qual:Str}{st:Stmt}{f:Addr}{fd:FuncData}{N ps:List Str}{k:Nat}{sp:Shared->Sp}(F:cJ K x qual st f fd)(S:dy N ps (cu st))(len:∀s vs H Q E,sp s vs H Q E->vs.length=ps.length)
  (wt:∀(cz:Value)(A:Around)(outer:List Env)(s:Shared)(H:Hp)(vs:List V)(Q:VK)(E:XK),eO k (A.deeper (envOfC qual (cu st) s.heap.objs.size f cz))->sp s vs H Q E->
   ∃t,lP (oP cb P w K mg base N qual (cu st) f cz A outer s H E).uC (pQ st) t/\t { nx:=λ_ H'=>Q .df H',rt:=Q } (start N vs) H):pX P w K mg base (k+1) f fd ps sp:=by
 obtain⟨oc,od,kV,doc,pm,an,cz,ct,pO,rfl,lk,jY⟩:=F.ex;refine⟨len,λA outer s H args us vs Q E hr e0 hb r iW=>?_⟩;have hl:=len _ _ _ _ _ iW;have KX:K.In s.heap:=e0.mod.vZ.keeps λb o e=>(e0.bs b o e).1;have lim:s.heap.NoLimit:=e0.mod.nolimit.keeps λb o e=>(e0.bs b o e).1;have Av:∀y∈ps.zip us,(cu st).names.lookup y.1=some .local\/((cu st).names.lookup y.1=some .cell/\((cellsFrom (s.heap.objs.size+1) (cu st).names []).lookup y.1).isSome=true):=λ⟨n,v⟩ hy=>by
  rcases S.par n (zU hy).1 with q|q
  ·exact .inl q
  ·exact .inr ⟨q,Hr _ _ _ (.inl q)⟩
 refine codeAny_call_function hr.depth (KX _ _ lk) rf S.co S.gen rf (PySem.W.codeRec_of KX jY) (hb _ _ _ _ ?_);refine ax S.kind Av λenv he s1 x=>?_;subst he;refine⟨lim.keeps x.toInCall.keep,codeAny_func ?_⟩;obtain⟨t,ht,hq⟩:=wt cz A outer s H vs Q E (hr.deeper _) iW;have I:Inv (oP cb P w K mg base N qual (cu st) f cz A outer s H E) [] (start N vs) H s1:=HZ S hr.hd e0 hl r x;refine ah (ht.uC [] s1 (start N vs) H _ I hq) (λfl s' hs=>?_) λe s' hs=>hs;have fin:∀{σ':St}{H':Hp}{v:V}{u:Value},Inv (oP cb P w K mg base N qual (cu st) f cz A outer s H E) [] σ' H' s'->RelV v u->Q v H'->CE outer P w H s Q u s':=
  λ{σ' H' v u} J rv q=>⟨v,H',J.os,J.bare,J.base,J.cq,rv,q⟩
 cases fl with
 |ret u=>
  obtain⟨v,σ',H',J,rv,q⟩:=hs;exact fin J rv q
 |next=>
  obtain⟨σ',H',J,q⟩:=hs;exact fin (v:=V.df) (u:=Value.none) J rf q
 |brk=>
  obtain⟨_,_,_,q⟩:=hs;exact False.elim q
 |cont=>
  obtain⟨_,_,_,q⟩:=hs;exact False.elim q
end
section
variable{X:Cx}{k:Nat}{f:Addr}{fd:FuncData}{ps:List Str}{x:Str}{p pos:Pos}{e:Expr}{es:List Expr}{t:TA}{te:TE}
theorem yT{sp:Shared->Sp}(F:pX X.prog X.w X.K X.mg X.base k f fd ps sp)(hr:eO k X.A)(hg:Gl X x)(hm:X.mg x=some (.ref f))(hk:Kp X.K f)(hb:Binds X.K fd ps [])
  (ha:PA X (e::es) t) (wq:(x==("__debug__":Str))=false:=by decide) (he:starEach (e::es) X.env=(false,eval e X.env)::starEach es X.env:=by rfl) (kq:(backTo pos (starEach es X.env)).any (·.1)=false:=by rfl) :
  PE X (.Call (.Name x p) (e::es) [] pos) (λσ H Q=>t σ H λvs H1=>∀aU s,Inv X aU σ H1 s->sp s vs H1 Q E0):=by
 intro aU s σ H Q I h;refine av (HD I hg hm ?_ wq);refine PySem.W.callWith_K (h₀:=X.base) I.ok.mod.vZ hk (bj (ha pos aU s σ H _ I h) λus s1 ⟨vs,H1,I1,r,q⟩=>⟨I1.iC,?_⟩) he kq;have hs:=q aU s1 I1;have hl:us.length=ps.length:=by rw[<- r.length];exact F.len _ _ _ _ _ hs
 have wy:=hb s1 us I1.iC (by rw[iT];exact hl);rw[iT]at wy;refine wpAny_call (codeAny_mono (F.run X.A X.stack s1 H1 ⟨us,[]⟩ us vs Q E0 hr I1.HX wy r hs) λr s' hq=>?_);cases r with
 |error e=>exact False.elim hq
 |ok fl=>
  cases fl with
  |ret u=>exact I1.after hq
  |next=>exact False.elim hq
  |brk=>exact False.elim hq
  |cont=>exact False.elim hq
end
section
variable{P:Program}{w:World}{K:Frag}{mg:Str->Option Value}{base:Heap}
end
section
variable{P:Program}{w:World}{K:Frag}{mg:Str->Option Value}{base:Heap}
end
def j8(h:Heap)(a:Addr)(D:List (Str×V)):Prop:=KTD.TabOf (λ(v:V)(u:Value)=>RelV v u) h a D
noncomputable def RB:V->Value->Bool
 | .df,.none=>true
 | .bl b,.bool c=>b==c
 | .int i,.int j _=>i==j
 | .str x,.str y _=>x==y
 | .ref a,.ref b=>a==b
 |_,_=>false
theorem abX(v:V)(u:Value)(h:RB v u=true):RelV v u:=by
 cases v<;>cases u<;>first|exact Bool.noConfusion h|rfl|(have e:=beq_iff_eq.mp h;subst e;first|rfl|exact⟨_,rfl⟩)
noncomputable def jC:Value->V
 | .bool b=>.bl b
 | .int i _=>.int i
 | .str x _=>.str x
 | .ref a=>.ref a
 |_=>.df
noncomputable def kQ(K:Frag)(a:Addr):List (Str×V):=match K.lookup a with
 |some ⟨_,_,.dict es _,_⟩=>es.toList.map λe=>((match e.key with | .str x _=>x|_ => ""),jC e.val)
 |_=>[]
noncomputable def Bi(K:Frag)(a:Addr):Bool:=KTD.tabLook RB (λb=>K.lookup b) a (kQ K a)
theorem Ec{K:Frag}{h:Heap}(X:K.In h)(e:Bi K a=true):j8 h a (kQ K a):=KTD.tab_of_look abX (λb o q=>X b o q) e
theorem j8.typeIs{D:List (Str×V)}(T:j8 s.heap a D):s.TypeIs (.ref a) "dict":=by
 obtain⟨_,o,_,_,ho,hc,_⟩:=T;exact⟨o,ho,hc.1⟩
theorem j8.noDict{h:Heap}{D:List (Str×V)}(T:j8 h a D):∀b,Value.ref a=.ref b->∃ob,h.get? b=some ob/\ob.dict=none:=λb e=>by
 cases e;obtain⟨_,o,_,_,ho,hc,_⟩:=T;exact⟨o,ho,hc.2.1⟩
section
variable{prog:Program}{w:World}{A:Around}{E:QV}{s:Shared}{a:Addr}{D:List (Str×V)}{x:Str}{tk:Tok}
theorem Jx{Q:Option Value->Shared->Prop}(T:j8 s.heap a D)(h1:∀v u,KTD.datumAt x D=some v->RelV v u->Q (some u) { s with toks:=s.toks+1 })(h2:KTD.datumAt x D=none->Q none { s with toks:=s.toks+1 }) :
  wpAny (model prog w) A (dictGet a (.str x tk)) Q E s:=by
 obtain⟨_,o,es,ep,ho,hc,hd,hr⟩:=T;have oh:(es.all λe=>isExactStrKey e.key)=true:=by
  have z:=hr.exact;obtain⟨l⟩:=es;simpa using z
 have hf:findBy (λk v=>v.isStr k) es x=(es.toList.find? λe=>e.key.isStr x).map (·.val):=by obtain⟨l⟩:=es;simp[findBy]
 have hq:Q (findBy (λk v=>v.isStr k) es x) { s with toks:=s.toks+1 }:=by
  rw[hf];cases e:KTD.datumAt x D with
  |none=>rw[hr.find_none e];exact h2 e
  |some v=>obtain⟨u,z1,z2⟩:=hr.find_some e;rw[z1];exact h1 v u e z2
 rw[findBy_of_findIdx?]at hq;unfold dictGet;refine ak (wpAny_pyHash_str (ak (KTD.kt_dictFind_strs (s:={ s with toks:=s.toks+1 }) ho hd oh ?_)));cases e:es.findIdx? λe=>e.key.isStr x with
 |none=>rw[e]at hq;exact aq hq
 |some i=>rw[e]at hq;exact ak (wpAny_dictEntries (s:={ s with toks:=s.toks+1 }) ho hd (aq hq))
theorem kd_item{v:V}(T:j8 s.heap a D)(hv:KTD.datumAt x D=some v)(h:∀u,RelV v u->Q u { s with toks:=s.toks+1 }):wpAny (model prog w) A (getItem (.ref a) (.str x tk)) Q E s:=by
 unfold getItem
 try (with_reducible refine ao ?_)
 refine ak (wpAny_sequenceKey (T.typeIs) (by decide) ?_);refine ak (ay (name:=Str.ofString "__getitem__") T.typeIs PySem.F.slot_dict_getitem (az PySem.F.slot_dict_getitem T.typeIs PySem.F.entry_dict_getitem ?_ (PySem.F.args_dict_getitem_2 _ _)));show wpAny _ _ (dictGet a (.str x tk) >>= _) _ _ s;exact ak (Jx T (λv' u e r=>by rw[hv]at e;cases e;exact aq ⟨u,rf,aq (h u r)⟩) λe=>by rw[hv]at e;cases e)
theorem abY(T:j8 s.heap a D)(h:Q (.bool (KTD.datumAt x D).isSome) { s with toks:=s.toks+1 }):wpAny (model prog w) A (compareOp .In (.str x tk) (.ref a)) Q E s:=by
 show wpAny _ _ (do return .bool (<- contains (.ref a) (.str x tk))) Q E s
 refine ak ?_;unfold contains
 try (with_reducible refine ao ?_)
 refine ak (wpAny_specialOf T.typeIs PySem.F.slot_dict_contains.lookup ?_);show wpAny _ _ (if(some (Value.builtin "dict.__contains__")==some Value.none)=true then _ else _) _ _ s
 rw[ag (by decide)];refine ak (wpAny_callSpecialUnlessNone?_slot (name:=Str.ofString "__contains__") T.typeIs PySem.F.slot_dict_contains (az PySem.F.slot_dict_contains T.typeIs PySem.F.entry_dict_contains ?_ (PySem.F.args_dict_contains_2 _ _)));show wpAny _ _ (dictGet a (.str x tk) >>= _) _ _ s;refine ak (Jx T (λv u e _=>?_) λe=>?_)
 ·rw[e]at h;exact(aq ⟨_,rf,ai (aq h)⟩)
 ·rw[e]at h;show wpAny _ _ (Builtin.Dict.pendingKey? a (.str x tk) >>= _) _ _ _;exact ak (wpAny_pendingKey_other T.1 (aq ⟨_,rf,ai (aq h)⟩))
theorem abZ{dflt:Value}:MeetsIn prog w (Builtin.«dict.get» ⟨[.ref a,.str x tk,dflt],[]⟩) (λ_ R s=>j8 s.heap a D/\(∀v u,KTD.datumAt x D=some v->RelV v u->R (.ok (.ret u)) { s with toks:=s.toks+1 })/\(KTD.datumAt x D=none->R (.ok (.ret dflt)) { s with toks:=s.toks+1 })):=
 .of_wp λA₁ R s ⟨T,h1,h2⟩=>by
  show wpAny _ _ (dictGet a (.str x tk) >>= _) _ _ s;refine ak (Jx T (λv u e r=>aq ⟨u,rf,h1 v u e r⟩) λe=>?_);show wpAny _ _ (Builtin.Dict.missed a (.str x tk) >>= _) _ _ _;exact ak (wpAny_missed_other T.1 (aq ⟨dflt,rf,h2 e⟩))
theorem ab0{dflt:Value}(T:j8 s.heap a D)(h1:∀v u,KTD.datumAt x D=some v->RelV v u->Q u { s with toks:=s.toks+1 })(h2:KTD.datumAt x D=none->Q dflt { s with toks:=s.toks+1 }) :
  wpAny (model prog w) A (call (.builtin "dict.get") [.ref a,.str x tk,dflt]) Q E s:=
 call_meetsIn Ht T.typeIs PySem.F.entry_dict_get (PySem.F.args_dict_get_3 _ _ _) (abZ (D:=D)) ⟨T,h1,h2⟩
end
section
variable{X:Cx}{o i e f:Expr}{pos jy iE:Pos}{td ty tx:TE}{a:Addr}{D:List (Str×V)}
def ab1(a:Addr)(D:List (Str×V))(td ty:TE):TE:=λσ H Q=>td σ H λu H1=>ty σ H1 λy H2=>∃x v,u=.ref a/\y=.str x/\KTD.datumAt x D=some v/\Q v H2
theorem Jy(hT:∀h,X.K.In h->j8 h a D)(ho:PE X o td)(hi:PE X i ty)(hs:Jr i):PE X (.Subscript o i pos) (ab1 a D td ty):=by
 intro aU s σ H Q I h;refine Ru PySem.F.slot_dict_getitem.lookup hs (bj (ho aU s σ H _ I h) λu s1 ⟨x',H1,I1,rx,q1⟩=>bj (hi aU s1 σ H1 _ I1 q1) λiv s2 ⟨y,H2,I2,ry,x,v,ex,ey,g,q2⟩=>?_);subst ex ey;obtain rfl:u=Value.ref a:=rx;obtain⟨tk,rfl⟩:=ry;exact⟨(hT _ I2.iC).typeIs,kd_item (hT _ I2.iC) g λu r=>⟨v,H2,I2.tok _,r,q2⟩⟩
def ab2(a:Addr)(D:List (Str×V))(ty td:TE):TE:=λσ H Q=>ty σ H λy H1=>td σ H1 λu H2=>∃x,u=.ref a/\y=.str x/\Q (.bl (KTD.datumAt x D).isSome) H2
theorem Jz(hT:∀h,X.K.In h->j8 h a D)(hi:PE X i ty)(ho:PE X o td):PC X .In i o (ab2 a D ty td):=by
 intro aU s σ H Q I h;refine bj (hi aU s σ H _ I h) λiv s1 ⟨y,H1,I1,ry,q1⟩=>bj (ho aU s1 σ H1 _ I1 q1) λu s2 ⟨x',H2,I2,rx,x,ex,ey,q2⟩=>?_;subst ex ey;obtain rfl:u=Value.ref a:=rx;obtain⟨tk,rfl⟩:=ry;exact abY (hT _ I2.iC) ⟨.bl _,H2,I2.tok _,rf,q2⟩
def ab3(a:Addr)(D:List (Str×V))(td ty tx:TE):TE:=λσ H Q=>td σ H λu H1=>u=.ref a/\ty σ H1 λy H2=>tx σ H2 λz H3=>∃x,y=.str x/\Q ((KTD.datumAt x D).getD z) H3
theorem ab4(hT:∀h,X.K.In h->j8 h a D)(ho:PE X o td)(he:PE X e ty)(hf:PE X f tx)(m:M2 X o "get" jy e f iE):PE X (.Call (.Attribute o "get" jy) [e,f] [] iE) (ab3 a D td ty tx):=by
 intro aU s σ H Q I h;refine wpAny_Call_method m.base m.ij m.line PySem.F.plainAttrs_dict Ht PySem.F.type_dict_get (bj (ho aU s σ H _ I h) λu s1 ⟨x',H1,I1,rx,ex,q1⟩=>?_);subst ex;obtain rfl:u=Value.ref a:=rx;refine⟨(hT _ I1.iC).typeIs,(hT _ I1.iC).noDict,?_⟩;rw[m.trees];refine Calls.callWith_builtin rf (Calls.evalArgs_plain (CT (bj (he aU s1 σ H1 _ I1 q1) λiv s2 ⟨y,H2,I2,ry,q2⟩=>CT (bj (hf aU s2 σ H2 _ I2 q2) λfv s3 ⟨z,H3,I3,rz,x,ey,q3⟩=>Calls.spliced_nil ?_))));subst ey;obtain⟨tk,rfl⟩:=ry;refine ab0 (hT _ I3.iC) (λv u e r=>⟨v,H3,I3.tok _,r,?_⟩) λe=>⟨z,H3,I3.tok _,rz,?_⟩
 ·rw[e]at q3;exact q3
 ·rw[e]at q3;exact q3
end
noncomputable def yU(hi:Int)(n:Nat):It:=⟨λi _=>i<n,λi H x H'=>H'=H/\x=.int (hi-i),λi _=>n<=i⟩
theorem ab5{P:Program}{w:World}{K:Frag}{tg:Expr}(it:Addr)(hi:Int)(n:Nat):Turn P w K tg (yU hi n) [it] it (λi h=>IsRangeIter h it (hi+(i:Nat)*(-1)) ((n:Int)-(i:Nat)) (-1)) where
 mem:=by simp
 obj:=λi h st b hb=>by
  have e:b=it:=by simpa using hb
  subst e;refine⟨_,st,λv z=>?_⟩;cases(show Data.fields _=Data.cell v from z)
 keep:=λi h h' st k=>k it (by simp) _ st
 item:=by
  intro X hP hw hK hc i aU s σ H E I hf st hg;subst hP hw hK;obtain⟨f0,f1,f2,f3,f4,f5⟩:=hf it (by simp);refine(Walks.range (prog:=X.prog) (w:=X.w) (I.ok.hd hc) it hi (-1) n).item i s _ _ hg st λv h' tk hv mz kk=>?_;obtain⟨t,rfl⟩:=hv;have I1:Inv X aU σ H { s with heap:=h',toks:=tk }:=I.turned (λb o hb e=>kk b o (by simpa using hb) e) f0 f1 f3 f4 f5;refine⟨_,rf,Am (s:={ s with heap:=h',toks:=tk }) (n := "range_iterator") mz rf rf (by decide) ⟨.int (hi-i),H,I1,⟨t,?_⟩,⟨rf,rf⟩,mz,λb hb=>(hf b hb).1⟩⟩;rw[Int.mul_neg,Int.mul_one,Int.sub_eq_add_neg]
 done:=by
  intro X hP hw hK hc i aU s σ H E I hf st hg;subst hP hw hK;obtain⟨f0,f1,f2,f3,f4,f5⟩:=hf it (by simp);exact wpAny_pyNext_range_end (I.ok.hd hc) st (by have:n<=i:=hg;lia) λh' eb=>⟨rfl,I.turned (t':=s.toks) (λb o hb e=>eb b o hb e) f0 f1 f3 f4 f5⟩
 self:=λ_ _ _ _ _ st h=>wpAny_pyIter_rangeiter st h
theorem RC(h:-1<=i):Builtin.Range.rangeSize i (-1) (-1)=i+1:=by
 (unfold Builtin.Range.rangeSize)
 rw[ag (by decide)];split
 ·rw[show(-(-1):Int)=1 from rfl,Int.ediv_one];lia
 ·lia
theorem small_down(h:-1<=i)(h2:i<2^61):Builtin.Range.small i (-1) (-1)=true:=by
 unfold Builtin.Range.small;rw[RC h];simp only[Builtin.Range.rangeFitsLong,gM,Bool.or_eq_true,aJ,beq_iff_eq];exact⟨⟨⟨⟨⟨by lia,by lia⟩,by decide,by decide⟩,by decide,by decide⟩,by lia,by lia⟩,.inr (by decide)⟩
section
variable{X:Cx}{tg:Expr}
def RD(ta:TA):TI:=λσ H R=>ta σ H λvs H1=>∃i:Int,vs=[.int i,.int (-1),.int (-1)]/\(-1<=i/\i<2^61)/\R (yU i (i+1).toNat) H1
theorem ab6{aU:List (Addr×Obj)}{σ:St}{R:It->Hp->Prop}{E:QV}{t u v:Tok}{tk:Nat}(I:Inv X aU σ H s)(h1:-1<=i)(h2:i<2^61)(q:R (yU i (i+1).toNat) H) :
  wpAny (model X.prog X.w) X.A (pyIter (.ref s.heap.objs.size)) (HI X aU σ tg R) E { s with heap:=s.heap.push { cls:=.type "range",data:=.fields #[.int i t,.int (-1) u,.int (-1) v] },toks:=tk }:=by
 refine wpAny_pyIter_range (IsRange.new ..) (small_down h1 h2) ?_;have I1:Inv X aU σ H { s with heap:=s.heap.push { cls:=.type "range",data:=.fields #[.int i t,.int (-1) u,.int (-1) v] },toks:=tk }:=I.kept λb o e=>dt _ e;generalize s.heap.push { cls:=.type "range",data:=.fields #[.int i t,.int (-1) u,.int (-1) v] }=h3 at I1 |-;refine⟨h3.objs.size,[h3.objs.size],_,_,H,rf,I1.kept (t':=tk) λb o e=>dt _ e,ab5 _ i (i+1).toNat,?_,λb hb=>?_,q⟩
 ·show IsRangeIter _ _ (i+((0:Nat):Int)*(-1)) ((((i+1).toNat:Nat):Int)-((0:Nat):Int)) (-1);rw[show i+((0:Nat):Int)*(-1)=i by simp,show(((i+1).toNat:Nat):Int)-((0:Nat):Int)=Builtin.Range.rangeSize i (-1) (-1) by rw[RC h1];lia];exact fi _ rf
 ·have e:b=h3.objs.size:=by simpa using hb
  subst e;exact I1.jZ (cn _) (I1.cq.fresh (cn _))
theorem RE{a b c:Expr}{ta:TA}{p pos:Pos}(hg:Gl X "range")(hm:X.mg "range"=none)(ha:PA X [a,b,c] ta)(hs:starEach [a,b,c] X.env=(false,eval a X.env)::starEach [b,c] X.env:=by rfl)(sN:(backTo pos (starEach [b,c] X.env)).any (·.1)=false:=by rfl) :
  PI X tg (.Call (.Name "range" p) [a,b,c] [] pos) (RD ta):=by
 intro aU s σ H R I h;refine Call_ (sg I hg hm boot_range (zT (bj (ha pos aU s σ H _ I h) λus s1 ⟨vs,H1,I1,r1,q1⟩=>?_) hs sN));obtain⟨i,e,⟨q1,q2⟩,q⟩:=q1;subst e;cases r1 with
 |cons r rr=>
  cases rr with
  |cons r' rr=>
   cases rr with
   |cons r2 rr=>
    cases rr;obtain⟨t,rfl⟩:=r;obtain⟨t',rfl⟩:=r';obtain⟨t2,rfl⟩:=r2;exact call_range_3 (by decide) (ab6 I1 q1 q2 q) (Or.inl (PyProof.noPylong_small (by lia)))
end
theorem RF{hi:Int}{n:Nat}{g:TG}{tb:TS}{D:Ends}{σ:St}(Pv:Nat->St->Hp->Prop)(h0:Pv 0 σ H)
  (hs:∀i σ H,i<n->Pv i σ H->g (.int (hi-(i:Nat))) σ H λσ2 H2=>tb { D with nx:=Pv (i+1),ct:=Pv (i+1),bk:=D.nx } σ2 H2) (hd:∀σ H,Pv n σ H->D.nx σ H) :
  ∃W:Nat->Nat->St->Hp->Prop,(∃m,W 0 m σ H)/\∀i m σ H,W i m σ H->
   ((yU hi n).stop i H/\D.nx σ H)\/((yU hi n).go i H/\∃N:St->Hp->Prop,(∀σ' H',N σ' H'->∃m',m'<m/\W (i+1) m' σ' H')/\∀x H',(yU hi n).pN i H x H'->g x σ H' λσ2 H2=>tb { D with nx:=N,ct:=N,bk:=D.nx } σ2 H2):=by
 refine⟨λi m σ H=>m=n-i/\i<=n/\Pv i σ H,⟨n,by simp,jv _,h0⟩,?_⟩;rintro i m σ H ⟨rfl,jq,p⟩;by_cases cE:i<n
 ·exact .inr ⟨cE,Pv (i+1),λσ' H' p'=>⟨n-(i+1),by lia,rf,cE,p'⟩,λx H' ⟨z1,z2⟩=>by subst z1 z2;exact hs i σ _ cE p⟩
 ·have e:i=n:=by lia
  subst e;exact .inl ⟨cn _,hd σ H p⟩
def tf(cp:St)(P:Hp->List V->Prop):St->Hp->List V->Prop:=λσ H zs=>(∃o:St,o.length=1/\σ=o++cp)/\P H zs
theorem tf.mk{cp:St}{P:Hp->List V->Prop}{x:Option V}{zs:List V}(h:P H zs):tf cp P (x::cp) H zs:=⟨⟨[x],rfl,rfl⟩,h⟩
theorem ab7{cp:St}{te:TE}{Q:VK}{n:Nat}{H1:Hp}{lo:Int}(Pv:Nat->Hp->List V->Prop)(hz:n<=sizeLine)(h0:Pv 0 H1 [])(cB:∀i H zs,Pv i H zs->zs.length<=i)
  (step:∀i H zs,i<n->Pv i H zs->te (some (.int (lo+(i:Nat)))::cp) H λv H5=>tf cp (Pv (i+1)) (some (.int (lo+(i:Nat)))::cp) H5 (zs++[v])) (done:∀H zs,Pv n H zs->∀p,H p=none->Q (.ref p) (upd H p (.lst zs))) :
  ∃W:Nat->Nat->St->Hp->List V->Prop,(∃m,W 0 m (List.replicate 1 none++cp) H1 [])/\mV (uF lo n) (cG 0) uO te Q W:=by
 refine⟨λi m σ H zs=>m=n-i/\i<=n/\tf cp (Pv i) σ H zs,⟨n,by simp,jv _,⟨_,by simp,rf⟩,h0⟩,?_⟩;rintro i m σ H zs ⟨rfl,hi,⟨o,ho,rfl⟩,pv⟩;have hl:=cB _ _ _ pv;by_cases cE:i<n
 ·refine .inr ⟨cE,by lia,tf cp (Pv (i+1)),λσ2 H2 yz q=>⟨n-(i+1),by lia,rf,cE,q⟩,λx H2 y=>?_⟩;obtain⟨z,rfl⟩:=yB ho;obtain⟨rfl,rfl⟩:=y;exact step i _ zs cE pv
 ·have e:i=n:=by lia
  subst e;exact .inl ⟨cn _,by lia,done H zs pv⟩
def dF(H H':Hp):Prop:=∀b o,H b=some o->((∃xs,o=.tup xs)\/∃ob u,o=.cT ob u)->H' b=some o
theorem dF.trans{H1 H2:Hp}(a:dF H H1)(b:dF H1 H2):dF H H2:=λc o h k=>b c o (a c o h k) k
theorem aW.tup(s:aW H H'):dF H H':=λb o h _=>s b o h
theorem dF.upd{H:Hp}{a:Addr}{o:HO}(h:∀u,H a=some u->(∃xs,u=.lst xs)\/∃kvs,u=.dK kvs):dF H (upd H a o):=λb u e k=>by
 have ne:b≠a:=λz=>by
  subst z;rcases h u e with⟨xs,rfl⟩|⟨kvs,rfl⟩<;>rcases k with⟨_,z⟩|⟨_,_,z⟩<;>cases z
 rw[bR ne];exact e
theorem dF.lst{H:Hp}{a:Addr}{xs:List V}{o:HO}(h:H a=some (.lst xs)):dF H (L2.upd H a o):=dF.upd λu e=>.inl ⟨xs,by rw[h]at e;exact(dq e).symm⟩
theorem dF.uU{kvs:List (Key×V)}{o:HO}(h:H a=some (.dK kvs)):dF H (L2.upd H a o):=dF.upd λu e=>.inr ⟨kvs,by rw[h]at e;exact(dq e).symm⟩
theorem dF.bc{K:Frag}{xs:List V}(e:dF H H')(h:bq K H a xs):bq K H' a xs:=by
 rcases h with h|h
 ·refine .inl ?_;rcases h with h|⟨o,h⟩
  ·exact .inl (e _ _ h (.inl ⟨xs,rf⟩))
  ·exact .inr ⟨o,e _ _ h (.inr ⟨o,_,rf⟩)⟩
 ·exact .inr h
theorem aW.put{o:HO}(s:aW H H')(h:H a=none):aW H (L2.upd H' a o):=λb u e=>by
 rw[bR (fj e h)];exact s b u e
structure oj(P:Program)(w:World)(K:Frag)(mg:Str->Option Value)(base:Heap)(k:Nat)(s:Shared)(H:Hp)(f:Addr)(R:List V->Hp->VK->Prop):Prop where
 here:(∃φ:Heap->Prop,H f=some (.ext φ)/\∀h,φ h->PySem.W.FnAt f h)\/∀h,K.In h->PySem.W.FnAt f h
 run:∀(A:Around)(outer:List Env)(s':Shared)(H':Hp)(vs:List V)(us:List Value)(Q:VK),eO k A->x6 P w K mg base A outer s' H'->aW H H'->
  (∀c o,s.heap.get? c=some o->H c=none->H' c=none/\∃sl,s'.heap.get? c=some { o with slots:=sl })->Vals vs us->R vs H' Q->codeAny (model P w) A (.call (.ref f) ⟨us,[]⟩) (CR cb outer P w H' s' Q E0) s'
theorem oj.JA{P:Program}{w:World}{K:Frag}{mg:Str->Option Value}{base:Heap}{k:Nat}{f:Addr}{fd:FuncData}{ps:List Str}{sp:Sp}{x qual:Str}{st:Stmt}(F:cc P w K mg base cb k f fd ps sp)(G:cJ K x qual st f fd)(hb:Binds K fd ps []) :
  oj P w K mg base k s H f (λvs H' Q=>sp vs H' Q E0):=by
 refine⟨.inr λh X=>?_,λA outer s' H' vs us Q hr e0 _ _ r q=>?_⟩
 ·obtain⟨oc,od,kV,doc,pm,an,cz,ct,pO,rfl,lk,_⟩:=G.ex;exact⟨_,_,_,_,X _ _ lk⟩
 ·have KX:K.In s'.heap:=e0.mod.vZ.keeps λb o e=>(e0.bs b o e).1;have hl:us.length=ps.length:=by rw[<- r.length];exact F.len _ _ _ _ q
  have wy:=hb s' us KX (by rw[iT];exact hl);rw[iT]at wy;exact F.run A outer s' H' ⟨us,[]⟩ us vs Q E0 hr e0 wy r q
section
variable{X:Cx}{k:Nat}{f:Addr}{x:Str}{p pos:Pos}{e:Expr}{es:List Expr}{t:TA}{R:List V->Hp->VK->Prop}
theorem ab8{i:Nat}(L:oj X.prog X.w X.K X.mg X.base k X.s₀ X.H₀ f R)(hr:eO k X.A)(hex:X.ex=[])(hN:X.N[i]?=some x)(hv:Ad X.env.scope x)(ha:PA X (e::es) t)
  (hd:(x==("__debug__":Str))=false:=by decide) (jY:(x==("__classdict__":Str))=false:=by decide) (he:starEach (e::es) X.env=(false,eval e X.env)::starEach es X.env:=by rfl) (kq:(backTo pos (starEach es X.env)).any (·.1)=false:=by rfl) :
  PE X (.Call (.Name x p) (e::es) [] pos) (λσ H Q=>σ[i]?=some (some (.ref f))/\aW X.H₀ H/\t σ H λvs H1=>aW X.H₀ H1/\R vs H1 Q):=by
 intro aU s σ H Q I ⟨hσ,sm,h⟩;have RG:∀{σ:St}{H1:Hp}{s1:Shared},Inv X aU σ H1 s1->aW X.H₀ H1->PySem.W.FnAt f s1.heap:=λI1 o6=>by
  rcases L.here with⟨φ,hφ,Ak⟩|z
  ·exact Ak _ (I1.cq f _ (o6 _ _ hφ)).1
  ·exact z _ I1.iC
 refine av (bj (OL hN hv hd jY aU s σ H (λv H1=>v=.ref f/\H1=H) I ⟨_,hσ,rf,rf⟩) λu s1 ⟨v,H1,I1,r,e1,e2⟩=>?_);subst e1 e2;cases r;refine PySem.W.callWith_F (RG I1 sm) (bj (ha pos aU s1 σ H1 _ I1 h) λus s2 ⟨vs,H2,I2,rv,gK,hq⟩=>⟨RG I2 gK,?_⟩) he kq;refine wpAny_call (codeAny_mono (L.run X.A X.stack s2 H2 vs us Q hr I2.HX gK (λc o hc hn=>?_) rv hq) λr s' hq=>?_)
 ·have Bj:c ∉ X.ex:=by rw[hex];simp
  exact⟨I2.base.free c o hc hn Bj,I2.base.any hc hn Bj⟩
 cases r with
 |error e=>exact False.elim hq
 |ok fl=>
  cases fl with
  |ret u=>exact I2.after hq
  |next=>exact False.elim hq
  |brk=>exact False.elim hq
  |cont=>exact False.elim hq
end
theorem RH(K:Frag)(hK:X.K=K){o:Expr}{to:TE}{jy iE:Pos}(ho:PE X o to)(AB:attributeBase o "pop" X.env (eval o X.env)=eval o X.env:=by rfl)(AD:(jy.endLine==iE.line)=true:=by rfl) :
  PE X (.Call (.Attribute o "pop" jy) [] [] iE) (DA K "list" DC to):=hK▸DB oH PySem.F.slot_list_pop PySem.F.type_list_pop DD ho AB AD
end L2
namespace Bw
theorem JB(f g:Fn)(n:Nat):dot f g n=dot g f n:=pS λi _=>Int.mul_comm _ _
noncomputable def comb(c:Nat->Int)(L:LL):Fn:=λj=>dot c (qW L j) L.length
theorem ab9{p:Int}{n:Nat}{L:LL}(c:Nat->Int)(h:fY p n L){j:Nat}(hj:n<=j):comb c L j=0:=qU λi hi=>by
 rw[Jo (cP hi),(h _ (r8 hi)).out hj,Int.mul_zero]
theorem aca(f u v:Fn)(n:Nat):dot (λj=>u j-v j) f n=dot u f n-dot v f n:=by
 have:dot u f n=dot (λj=>u j-v j) f n+dot v f n:=by
  unfold dot;rw[<- D5];exact pS λi _=>by rw[<- Int.add_mul];congr 1;show u i=u i-v i+v i;lia
 lia
section
variable{p:Int}{n:Nat}{L L' L'':LL}
theorem JC(h:∀r∈L,Sp p (RS L') (fn r)){v:Fn}(hv:Sp p (RS L) v):Sp p (RS L') v:=hv.trans λf hf=>by
 obtain⟨r,hr,rfl⟩:=hf;exact h r hr
theorem JD{r:List Int}(h:r∈L):Sp p (RS L) (fn r):=.mem ⟨r,h,rfl⟩
end
end Bw
namespace S21
open PySem L2 Bw
variable{H:Hp}
noncomputable def top(i:Nat):Stmt:=PySem.Challenge.pw_bentwires_k31_inner_and_stands.main.body.getD i (.Pass ⟨0,0,0,0⟩)
noncomputable abbrev Bk:Stmt:=top 4
noncomputable abbrev tj:Stmt:=top 5
noncomputable abbrev Bl:Stmt:=top 6
noncomputable abbrev yV:Stmt:=top 7
noncomputable abbrev Ed:Stmt:=top 8
noncomputable abbrev Ee:Stmt:=top 9
noncomputable abbrev Ef:Stmt:=top 10
noncomputable abbrev Bm:Stmt:=top 11
noncomputable abbrev JE:Stmt:=top 15
noncomputable abbrev Eg:Stmt:=top 16
noncomputable abbrev Eh:Stmt:=top 17
noncomputable abbrev JF:Stmt:=top 18
noncomputable abbrev Bn:Stmt:=top 19
noncomputable abbrev JG:Stmt:=top 20
noncomputable abbrev Ei:Stmt:=top 21
noncomputable abbrev JH:Stmt:=top 22
noncomputable abbrev JI:Stmt:=top 26
noncomputable abbrev JJ:Stmt:=top 27
noncomputable abbrev JK:Stmt:=top 33
noncomputable abbrev Bo:Stmt:=top 34
noncomputable abbrev wK:Stmt:=top 35
noncomputable abbrev JL:Stmt:=top 36
noncomputable abbrev JM:Stmt:=top 37
noncomputable abbrev JN:Stmt:=top 38
noncomputable abbrev JO:Stmt:=top 39
noncomputable abbrev Ej:Stmt:=top 40
noncomputable abbrev JP:Stmt:=top 41
noncomputable abbrev JQ:Stmt:=top 43
noncomputable abbrev JR:Stmt:=top 44
noncomputable abbrev JS:Stmt:=top 45
noncomputable abbrev JT:Stmt:=top 46
noncomputable abbrev JU:Stmt:=top 47
noncomputable abbrev JV:Stmt:=top 48
noncomputable abbrev JW:Stmt:=top 49
noncomputable abbrev JX:Stmt:=top 50
noncomputable abbrev JY:Stmt:=top 51
noncomputable abbrev JZ:Stmt:=top 52
noncomputable abbrev J3:Stmt:=top 53
noncomputable abbrev Ek:Stmt:=top 54
noncomputable abbrev El:Stmt:=top 55
noncomputable abbrev Em:Stmt:=top 56
noncomputable abbrev wL:Stmt:=top 57
noncomputable abbrev Eo:Stmt:=top 58
noncomputable abbrev yX:Stmt:=top 60
noncomputable abbrev Ep:Stmt:=top 61
noncomputable abbrev Er:Stmt:=top 63
noncomputable abbrev J4:Stmt:=top 64
noncomputable abbrev J5:Stmt:=top 65
noncomputable abbrev J6:Stmt:=top 66
noncomputable abbrev J7:Stmt:=top 67
noncomputable abbrev qZ:Stmt:=top 68
theorem Es:(1000:Nat)<=sizeLine:=by decide
theorem i5:(2000:Nat)<=sizeLine:=by decide
structure Txt(mg:Str->Option Value):Prop where
 range:mg "range"=none
 zip:mg "zip"=none
 tuple:mg "tuple"=none
 list:mg "list"=none
 int:mg "int"=none
 bool:mg "bool"=none
 isinstance:mg "isinstance"=none
 len:mg "len"=none
 sum:mg "sum"=none
 max:mg "max"=none
 min:mg "min"=none
 enumerate:mg "enumerate"=none
 any:mg "any"=none
 all:mg "all"=none
theorem acb:bootBuiltins "max"=some (.builtin "max"):=by decide +kernel
theorem J8{r:List Int}{j:Nat}(h:j<r.length):r[j]?=some (r.getD j 0):=by
 rw[cP h,eG,cP h];rfl
theorem pY{r:List Int}{j:Nat}(h:j<r.length):(r.map V.int)[j]?=some (.int (r.getD j 0)):=by
 rw[dG,J8 h];rfl
theorem Et{c A B:Prop} [Decidable c] (h1:¬c->A) (h2:c->B):if(!decide c)=true then A else B:=by
 by_cases h:c
 ·exact PJ h (h2 h)
 ·rw[ae h];exact eC (h1 h)
section
variable{K:Frag}
theorem uW{RS:List V}{rs:LL}{i:Nat}{x:V}(hA:cW K H RS (rs.map gY))(hx:RS[i]?=some x):∃r a,rs[i]?=some r/\x=.ref a/\bq K H a (r.map V.int):=by
 obtain⟨d,hd,gW⟩:=hA.get hx;rw[dG]at hd;cases e:rs[i]? with
 |none=>rw[e]at hd;cases hd
 |some r=>
  rw[e]at hd;cases hd;obtain⟨a,rfl,ha⟩:=IZ gW;exact⟨r,a,rf,rf,ha⟩
theorem kR{RS:List V}{rs:LL}(hA:cW K H RS (rs.map gY)):RS.length=rs.length:=by rw[hA.length,bu]
end
theorem bq.wr{K:Frag}{a l:Addr}{ys xs:List V}{o:HO}(h:bq K H a ys)(hl:H l=some (.lst xs)):bq K (upd H l o) a ys:=by
 have ne:∀{u:HO},H a=some u->(∀zs,u≠.lst zs)->a≠l:=λe hu z=>by
  rw[z,hl]at e;exact hu xs (dq e).symm
 rcases h with(h|⟨o',h⟩)|h
 ·refine .inl (.inl ?_);rw[bR (ne h λ_ z=>nomatch z)];exact h
 ·refine .inl (.inr ⟨o',?_⟩);rw[bR (ne h λ_ z=>nomatch z)];exact h
 ·exact .inr h
theorem cW.wr{K:Frag}{H:Hp}{l:Addr}{xs:List V}{o:HO}(hl:H l=some (.lst xs)):∀{RS:List V}{rs:LL},cW K H RS (rs.map gY)->cW K (upd H l o) RS (rs.map gY)
 |_,[],h=>by cases h;exact .nil
 |_,r::rs,h=>by
  cases h with
  |cons h t=>
   obtain⟨a,rfl,ha⟩:=IZ h;exact .cons (sP (bq.wr ha hl)) (cW.wr hl t)
theorem J9:∀n:Nat,(List.replicate n [V.int 0]).flatten=List.replicate n (V.int 0)
 |0=>rfl
 |n+1=>by rw[vS,CY,J9 n];rfl
theorem RI(ns:List Int):kqdOk 8 (.list (ns.map .int))=true:=by
 show(ns.map Dat.int).all (kqdOk 7)=true;exact abl 7 ns
open Classical in
theorem acd{d e:Dat}{A B:Prop}(h:d≠e)(b:A):if(if true=true then !decide (d=e)else decide (d=e))=true then A else B:=by
 simp only[if_true,ae h,Bool.not_false];exact b
theorem RJ{s1 s2:TS}{D:Ends}{σ:St}(J:St->Hp->Prop)(h:∀N:St->Hp->Prop,(∀σ H,J σ H->N σ H)->s1 { D with nx:=N } σ H)(hr:∀σ H,J σ H->s2 D σ H):cF s1 s2 D σ H:=h _ hr
theorem i6{H':Hp}{l:Addr}(e:aW H H')(h:H' l=none):H l=none:=by
 cases q:H l with
 |none=>rfl
 |some o=>rw[e _ _ q]at h;cases h
theorem Ka{p:Int}{n:Nat}{L:LL}:∀k,(jg p n L k).1.length<=k/\(jg p n L k).2.length=L.length
 |0=>⟨cn _,rfl⟩
 |k+1=>by
  obtain⟨h1,h2⟩:=Ka (p:=p) (n:=n) (L:=L) k;rw[jg];unfold yG;split
  ·exact⟨by lia,h2⟩
  ·constructor
   ·show(_++[_]).length<=_;rw[cm,bu,List.length_singleton];lia
   ·show(List.map _ _).length=_;rw[bu];exact h2
theorem Kb{p:Int}{n:Nat}{L:LL}(h:fY p n L):(ng p L).length<=n:=by
 by_cases cZ:L=[]
 ·subst cZ;exact jv _
 ·have:=(Ka (p:=p) (n:=sR L) (L:=L) (sR L)).1
  rw[D6 h cZ]at this;unfold ng;rw[D6 h cZ];exact this
end S21
namespace L2
open PySem PySem.Spec PyProof.Rows
section
variable{P:Program}{w:World}{K:Frag}{mg:Str->Option Value}{base:Heap}
theorem ace{x qual:Str}{st:Stmt}{f:Addr}{fd:FuncData}{N ps:List Str}{sp:Sp}(F:cJ K x qual st f fd)(S:dy N ps (cu st))(len:∀vs H Q E,sp vs H Q E->vs.length=ps.length)
  (wt:∀(cz:Value)(A:Around)(outer:List Env)(s:Shared)(H:Hp)(vs:List V)(Q:VK)(E:XK),sp vs H Q E->
   ∃t,lP (oP cb P w K mg base N qual (cu st) f cz A outer s H E).uC (pQ st) t/\t { nx:=λ_ H'=>Q .df H',rt:=Q } (start N vs) H):cc P w K mg base cb 0 f fd ps sp:=by
 obtain⟨oc,od,kV,doc,pm,an,cz,ct,pO,rfl,lk,jY⟩:=F.ex;refine⟨len,λA outer s H args us vs Q E hr e0 hb r iW=>?_⟩;have hl:=len _ _ _ _ iW;have KX:K.In s.heap:=e0.mod.vZ.keeps λb o e=>(e0.bs b o e).1;have lim:s.heap.NoLimit:=e0.mod.nolimit.keeps λb o e=>(e0.bs b o e).1;have Av:∀y∈ps.zip us,(cu st).names.lookup y.1=some .local\/((cu st).names.lookup y.1=some .cell/\((cellsFrom (s.heap.objs.size+1) (cu st).names []).lookup y.1).isSome=true):=λ⟨n,v⟩ hy=>by
  rcases S.par n (zU hy).1 with q|q
  ·exact .inl q
  ·exact .inr ⟨q,Hr _ _ _ (.inl q)⟩
 refine codeAny_call_function hr.depth (KX _ _ lk) rf S.co S.gen rf (PySem.W.codeRec_of KX jY) (hb _ _ _ _ ?_);refine ax S.kind Av λenv he s1 x=>?_;subst he;refine⟨lim.keeps x.toInCall.keep,codeAny_func ?_⟩;obtain⟨t,ht,hq⟩:=wt cz A outer s H vs Q E iW;have I:Inv (oP cb P w K mg base N qual (cu st) f cz A outer s H E) [] (start N vs) H s1:=HZ S hr.hd e0 hl r x;refine ah (ht.uC [] s1 (start N vs) H _ I hq) (λfl s' hs=>?_) λe s' hs=>hs;have fin:∀{σ':St}{H':Hp}{v:V}{u:Value},Inv (oP cb P w K mg base N qual (cu st) f cz A outer s H E) [] σ' H' s'->RelV v u->Q v H'->CE outer P w H s Q u s':=
  λ{σ' H' v u} J rv q=>⟨v,H',J.os,J.bare,J.base,J.cq,rv,q⟩
 cases fl with
 |ret u=>
  obtain⟨v,σ',H',J,rv,q⟩:=hs;exact fin J rv q
 |next=>
  obtain⟨σ',H',J,q⟩:=hs;exact fin (v:=V.df) (u:=Value.none) J rf q
 |brk=>
  obtain⟨_,_,_,q⟩:=hs;exact False.elim q
 |cont=>
  obtain⟨_,_,_,q⟩:=hs;exact False.elim q
end
end L2
namespace Bw
section
variable{p:Int}{n:Nat}
end
end Bw
namespace S21
open PySem L2 Bw
variable{f fA:Addr}{fd iO:FuncData}
theorem Eu:(["number","more","factor","p"]:List Str).Nodup:=by decide +kernel
def RK:Sp:=λvs H Q _=>∃p n:Int,vs=[.int p,.int n]/\2<=p/\p<=97/\Q (.int (fX p n)) H
def Ew(K:Frag):Sp:=λvs H Q _=>∃(p f:Int)(a b:Addr)(r o:List Int),vs=[.int p,.ref a,.int f,.ref b]/\2<=p/\p<=97/\-1000<=f/\f<=1000/\bq K H a (r.map V.int)/\bq K H b (o.map V.int)/\r.length=o.length/\r.length<=1000/\
 jn K H ((iS p r f o).map V.int) Q
def RL(K:Frag):Sp:=λvs H Q _=>∃(p n:Int)(a b:Addr)(b1 b2:Bool)(RS:List V)(rs:LL)(fs:List Int),vs=[.int p,.ref a,.ref b,.int n]/\2<=p/\p<=97/\0<=n/\n<=1000/\
 Sq b1 K H a RS/\cW K H RS (rs.map gY)/\Sq b2 K H b (fs.map V.int)/\rs.length=fs.length/\rs.length<=1000/\(∀r∈rs,r.length=n.toNat)/\(∀f∈fs,0<=f/\f<p)/\
 jn K H ((kz p (rs.zip fs) (List.replicate n.toNat 0)).map V.int) Q
theorem Ex:dy ["p","number","power","step"] ["p","number"] (cu Bk):=dI rfl rfl rfl (by decide +kernel) rfl
theorem acf(F:cJ K "turned" "turned" Bk f fd)(T:Txt mg):cc P w K mg base cb 1 f fd ["p","number"] RK:=by
 refine F.ok Ex (λvs H Q E h=>?_) (λcz A outer s H vs Q E hr h=>?_)
 ·obtain⟨p,n,rfl,_⟩:=h;rfl
 ·obtain⟨p,n,rfl,p2,dX,k⟩:=h;refine⟨_,bo (cv (i:=2) Ex.nd rf (.inl rf) ba) (bo (jd jw rf (wk rf T.range (aV (bQ sr (pv 0) ba) aZ)) (cH (i:=3) Ex.nd rf (.inl rf)) (bY (cv (i:=2) Ex.nd rf (.inl rf) (bQ j5 (bQ lQ (pv 2) (pv 1)) (pv 0))))) (bY (cC (pv 2)))),?_⟩;refine⟨_,rf,_,_,rf,rf,p-2,rf,by lia,by lia,Dn (n:=(p-2).toNat) (λi σ H'=>H'=H/\∃st,σ=[some (.int p),some (.int n),some (.int (wF p n i)),st]) ⟨rf,none,rf⟩ ?_ ?_⟩
  ·rintro i σ H' hi ⟨rfl,st,rfl⟩;have hb:=abw (n:=n) p2 i;exact⟨_,rf,_,rf,_,_,rf,rf,.inl ⟨by lia,by lia⟩,_,rf,_,_,rf,rf,by lia,rf,_,rf⟩
  ·rintro σ H' ⟨rfl,st,rfl⟩;exact⟨_,rf,k⟩
theorem scA:dy ["p","row","factor","other"] ["p","row","factor","other"] (cu tj):=dI rfl rfl rfl (by decide +kernel) rfl
theorem RM(F:cJ K "added" "added" tj f fd)(T:Txt mg):cc P w K mg base cb 0 f fd ["p","row","factor","other"] (Ew K):=by
 refine ace F scA (λvs H Q E h=>?_) (λcz A outer s H vs Q E h=>?_)
 ·obtain⟨p,f,a,b,r,o,rfl,_⟩:=h;rfl
 ·obtain⟨p,fc,a,b,r,o,rfl,p2,dX,f0,f1,ha,hb,hl,hz,k⟩:=h;refine⟨_,bY (cC (e9 (nc K rf) rf T.tuple j7 (aV (je (N:=["number","more","factor","p"]) (own:=2) (caps:=[2,0]) rf (QM K rf false false rf T.zip (aV (pv 1) (aV (pv 3) aZ))) (show e8 ["p","row","factor","other"] (cu tj) ["number","more","factor","p"] 2 [2,0] _ from .mk' (by decide +kernel)) (λ_ _ _ _ _=>nZ (n:=2) K rf rf (eZ (cH (i:=0) Eu rf (.inl rf)) (eZ (cH (i:=1) Eu rf (.inl rf)) ko))) (λ_ _ _ _ _=>jz) (λ_ _ _ _ _=>bQ j5 (bQ eM (pv 0) (bQ lQ (pv 2) (pv 1))) (pv 3))) aZ))),?_⟩
  have ext:(iS p r fc o).length=r.length:=by simp[iS,hl]
  refine⟨_,rf,_,rf,a,b,rf,⟨_,ha⟩,⟨_,hb⟩,abe (b1:=false) (b2:=false) (cp:=[some (.int fc),some (.int p)]) (λi H' zs=>zs=((iS p r fc o).take i).map V.int) ha hb (by simp[hl]) (by rw[bu];exact Nat.le_of_lt (Ip hz)) rf (λi H' zs e=>by subst e;rw[bu,gy];lia) (λi H1 H2 zs _ e=>e) ?_ ?_⟩
  ·rintro i x y H' zs hx hy sm rfl;rw[dG]at hx hy;cases e1:r[i]? with
   |none=>rw[e1]at hx;cases hx
   |some u=>
    cases e2:o[i]? with
    |none=>rw[e2]at hy;cases hy
    |some v=>
     rw[e1]at hx;rw[e2]at hy;cases hx;cases hy;refine l4 ?_;refine⟨_,rf,_,rf,_,rf,_,_,rf,rf,.inl ⟨by lia,by lia⟩,_,_,rf,rf,_,rf,_,_,rf,rf,by lia,⟨[_,_],rf,rf⟩,sm,?_⟩;have e3:(iS p r fc o)[i]?=some ((u+fc*v)%p):=by
      unfold iS;rw[List.getElem?_zipWith,e1,e2]
     rw[gO,e3];simp
  ·rintro H' zs sm rfl q hq;rw[bu,pz (by lia)];refine⟨q,_,rf,.inl ⟨.of bb,λl hl=>?_⟩⟩;exact k _ _ ((sm.trans (.upd hq)).trans (.upd hl)) (.of bb)
theorem acg(F:cJ K "added" "added" tj f fd)(T:Txt mg):cc P w K mg base cb 1 f fd ["p","row","factor","other"] (Ew K):=(RM F T).mono (by decide)
theorem RN(p:Int)(r:List Int)(f:Int):∀(L:List (List Int×Int))(t:List Int),kz p (L++[(r,f)]) t=iS p (kz p L t) f r
 | [],t=>rfl
 |(r',f')::L,t=>by
  rw[uv,kz,kz];exact RN p r f L _
theorem RP{p:Int}{n:Nat}:∀(L:List (List Int×Int))(t:List Int),(∀q∈L,q.1.length=n)->t.length=n->(kz p L t).length=n
 | [],t,_,h=>h
 |(r,f)::L,t,h,ht=>by
  rw[kz];refine RP L _ (λq hq=>h q (dU _ hq)) ?_
  have:=h (r,f) cQ
  simp only at this;simp[iS,ht,this]
theorem Bp:dy ["p","rows","factors","length","total","row","factor"] ["p","rows","factors","length"] (cu Bl):=dI rfl rfl rfl (by decide +kernel) rfl
theorem ach(F:cJ K "summed" "summed" Bl f fd)(T:Txt mg)(FA:cJ K "added" "added" tj fA iO)(bA:Binds K iO ["p","row","factor","other"] [])(mA:Mg mg "added" fA) :
  cc P w K mg base cb 1 f fd ["p","rows","factors","length"] (RL K):=by
 have GA:cc P w K mg base cb 0 fA iO ["p","row","factor","other"] (Ew K):=RM FA T;refine F.ok Bp (λvs H Q E h=>?_) (λcz A outer s H vs Q E hr h=>?_)
 ·obtain⟨p,n,a,b,b1,b2,RS,rs,fs,rfl,_⟩:=h;rfl
 ·obtain⟨p,n,a,b,b1,b2,RS,rs,fs,rfl,p2,dX,n0,n1,lX,hA,lY,hl,hz,Kc,Bq,k⟩:=h;refine⟨_,bo (cv (i:=4) Bp.nd rf (.inl rf) (bQ (QK K rf) (cU (aV ba aZ)) (pv 3))) (bo (jd jw rf (QM K rf b1 b2 rf T.zip (aV (pv 1) (aV (pv 2) aZ))) (nZ (n:=2) K rf rf (eZ (cH (i:=5) Bp.nd rf (.inl rf)) (eZ (cH (i:=6) Bp.nd rf (.inl rf)) ko))) (bY (cv (i:=4) Bp.nd rf (.inl rf) (cK GA hr rf mA FA.kp bA .nil cL (aV (pv 0) (aV (pv 4) (aV (pv 6) (aV (pv 5) aZ)))))))) (bY (cC (pv 4)))),?_⟩;refine⟨by decide,λq hq=>⟨_,rf,q,n,_,rf,rf,.of bb,by simp,by lia,by lia,?_,λt H1 o6 ht=>?_⟩⟩
  ·have:(1000:Nat)<=sizeLine:=by decide
   show 1*n.toNat<=sizeLine;lia
  have wM:aW H H1:=(aW.upd hq).trans o6;have eRS:RS.length=(fs.map V.int).length:=by rw[hA.length,bu,bu];exact hl
  have e0:(List.replicate n.toNat [V.int 0]).flatten=(List.replicate n.toNat (0:Int)).map V.int:=by
   rw[List.map_replicate];induction n.toNat with
   |zero=>rfl
   |succ m ih=>rw[vS,CY,ih,vS];rfl
  refine⟨_,rf,_,rf,a,b,rf,⟨_,wM.sq lX⟩,⟨_,wM.sq lY⟩,abf (b1:=b1) (b2:=b2) (λi σ H'=>aW H H'/\∃t Br mK,σ=[some (.int p),some (.ref a),some (.ref b),some (.int n),some (.ref t),Br,mK]/\bq K H' t ((kz p ((rs.zip fs).take i) (List.replicate n.toNat 0)).map V.int)) eRS ⟨wM,t,none,none,rf,by rw[e0]at ht;exact ht⟩ (λi σ H' ⟨sm,_⟩=>⟨sm.sq lX,sm.sq lY⟩) (λi σ H1 H2 eT ⟨sm,t,Br,mK,e,ht⟩=>⟨sm.trans eT,t,Br,mK,e,eT.bc ht⟩) ?_ ?_⟩
  ·rintro i x y σ H' hx hy ⟨sm,t,Br,mK,rfl,ht⟩;obtain⟨d,hd,gW⟩:=hA.get hx;rw[dG]at hd hy;cases e1:rs[i]? with
   |none=>rw[e1]at hd;cases hd
   |some r=>
    cases e2:fs[i]? with
    |none=>rw[e2]at hy;cases hy
    |some fc=>
     rw[e1]at hd;rw[e2]at hy;cases hd;cases hy;obtain⟨ra,rfl,i0⟩:=IZ gW;have iw:=Kc r (dP e1);have hf1:=Bq fc (dP e2);have RQ:(kz p ((rs.zip fs).take i) (List.replicate n.toNat 0)).length=n.toNat:=RP _ _ (λq hq=>Kc q.1 (zU (pB hq)).1) (by simp);refine⟨_,rf,_,rf,_,rf,_,rf,p,fc,t,ra,_,r,rf,p2,dX,by lia,by lia,ht,sm.bc i0,by rw[RQ,iw],by rw[RQ];lia,λt' H2 gK ni=>?_⟩;refine⟨sm.trans gK,t',_,_,rf,?_⟩;have e3:(rs.zip fs)[i]?=some (r,fc):=by rw[Hu];exact⟨e1,e2⟩
     rw[gO,e3];show bq K H2 t' ((kz p ((rs.zip fs).take i++[(r,fc)]) _).map V.int);rw[RN];exact ni
  ·rintro σ H' ⟨sm,t,Br,mK,rfl,ht⟩;have e4:(rs.zip fs).length<=RS.length:=by rw[zX,hA.length,bu];lia
   rw[pz e4]at ht;exact⟨_,rf,k _ _ sm ht⟩
theorem Kd:(["row","place"]:List Str).Nodup:=by decide +kernel
theorem RR:(["row","lead","p","place"]:List Str).Nodup:=by decide +kernel
def Ke(K:Frag):Sp:=λvs H Q _=>∃(p:Int)(a b:Addr)(r o:List Int)(i:Int)(j:Nat),vs=[.int p,.ref a,.ref b,.int i]/\i=j/\2<=p/\p<=97/\bq K H a (r.map V.int)/\bq K H b (o.map V.int)/\r.length=o.length/\j<r.length/\r.length<=1000/\
 (∀x∈r,0<=x/\x<p)/\jn K H ((iY p o j r).map V.int) Q
def RT(K:Frag):Sp:=λvs H Q _=>∃(p:Int)(a:Addr)(b:Bool)(RS:List V)(rs:LL)(n:Nat),vs=[.int p,.ref a]/\p∈ig/\Sq b K H a RS/\cW K H RS (rs.map gY)/\rs.length<=1000/\n<=1000/\fY p n rs/\
 ∀t H' DS,aW H H'->bq K H' t DS->cW K H' DS ((ng p rs).map gY)->Q (.ref t) H'
theorem scC:dy ["p","row","lead","place"] ["p","row","lead","place"] (cu Ee):=dI rfl rfl rfl (by decide +kernel) rfl
theorem aci(F:cJ K "cleared" "cleared" Ee f fd)(T:Txt mg)(FA:cJ K "added" "added" tj fA iO)(bA:Binds K iO ["p","row","factor","other"] [])(mA:Mg mg "added" fA) :
  cc P w K mg base cb 2 f fd ["p","row","lead","place"] (Ke K):=by
 have GA:cc P w K mg base cb 1 fA iO ["p","row","factor","other"] (Ew K):=acg FA T;refine F.ok scC (λvs H Q E h=>?_) (λcz A outer s H vs Q E hr h=>?_)
 ·obtain⟨p,a,b,r,o,i,j,rfl,_⟩:=h;rfl
 ·obtain⟨p,a,b,r,o,i,j,rfl,rfl,p2,dX,ha,hb,hl,hj,hz,Kf,k⟩:=h;refine⟨_,bY (cC (Al (cS nP (br (cj K rf) (pv 1) (pv 3)) ba (cM _)) (cK GA hr rf mA FA.kp bA .nil cL (aV (pv 0) (aV (pv 1) (aV (nN nO (br (cj K rf) (pv 1) (pv 3))) (aV (pv 2) aZ))))) (pv 1))),?_⟩;have hx:=Kf _ (dP (J8 hj));refine⟨_,rf,_,rf,a,_,(j:Int),_,rf,rf,ha,bX (pY hj),rf,_,rf,Et (λcZ=>?_) (λheq=>?_)⟩
  ·have Kg:r.getD j 0≠0:=λz=>cZ (aj V.int z);refine⟨_,rf,_,rf,_,rf,_,rf,a,_,(j:Int),_,rf,rf,ha,bX (pY hj),_,rf,_,rf,p,-(r.getD j 0),a,b,r,o,rf,p2,dX,by lia,by lia,ha,hb,hl,hz,?_⟩;unfold iY at k;rw[af Kg]at k;exact k
  ·have acj:r.getD j 0=0:=V.int.inj heq;unfold iY at k;rw[ag (λz=>z acj)]at k;exact⟨_,rf,k.old ha⟩
noncomputable abbrev nD:List Str:=["p","rows","done","rest","length","place","heads","lead"]
theorem tq:dy ["p","rows","done","rest","length","place","heads","lead"] ["p","rows"] (cu yV):=dI rfl rfl rfl (by decide +kernel) rfl
theorem RU{H:Hp}{l la:Addr}{XS:List V}{xs:LL}{p:Int}{n place:Nat}{fq:List Int}{Q:VK}{te:TE}(p2:2<=p)(dX:p<=97)(hl:dQ K H l XS)(hA:cW K H XS (xs.map gY))(hx:fY p n xs)(hz:xs.length<=1000)(hn:n<=1000)(hp:place<n)(hld:fq.length=n)(wN:bq K H la (fq.map V.int))
  (ack:∀(x:Addr)(H1:Hp)(R:VK),Ke K [.int p,.ref x,.ref la,.int (0+(place:Int))] H1 R (λ_ _ _=>False)->te [some (.ref x),some (.ref la),some (.int p),some (.int (0+(place:Int)))] H1 R)
  (done:∀H' zs,aW H H'->cW K H' zs ((xs.map (iY p fq place)).map gY)->∀q,H' q=none->Q (.ref q) (upd H' q (.lst zs))) :
  ∃W:Nat->Nat->St->Hp->List V->Prop,(∃m,W 0 m (List.replicate 1 none++[some (.ref la),some (.int p),some (.int (0+(place:Int)))]) H [])/\mV (sj K l) (cG 0) uO te Q W:=by
 refine uS (cp:=[some (.ref la),some (.int p),some (.int (0+(place:Int)))]) (λi H' zs=>cW K H' zs (((xs.take i).map (iY p fq place)).map gY)) hl (by rw[kR hA];exact Nat.le_of_lt (Ip hz)) .nil
  (λi H' zs h=>by rw[kR h,bu,gy];lia) ?_ ?_
 ·rintro i x H' zs gW sm h;obtain⟨r,a,hr,rfl,ha⟩:=uW hA gW;have hR:=hx r (dP hr);refine l4 (ack a H' _ ⟨p,a,la,r,fq,0+(place:Int),place,rf,by lia,p2,dX,sm.bc ha,sm.bc wN,by rw[hR.1,hld],by rw[hR.1];exact hp,by rw[hR.1];exact hn,hR.2,λt H2 s2 ht=>?_⟩);refine⟨⟨[_],rf,rf⟩,sm.trans s2,?_⟩;rw[gO,hr];show cW K H2 _ (((xs.take i++[r]).map (iY p fq place)).map gY);rw[du,du];exact(h.mono s2).append (.cons (sP ht) .nil)
 ·rintro H' zs sm h q hq;rw[kR hA,iU]at h;exact done H' zs sm h q hq
def RV(K:Frag):Sp:=λvs H Q _=>∃(p:Int)(a:Addr)(r:List Int)(i:Int)(j:Nat),vs=[.int p,.ref a,.int i]/\i=j/\p∈ig/\bq K H a (r.map V.int)/\j<r.length/\r.length<=1000/\(∀x∈r,0<=x/\x<p)/\r.getD j 0≠0/\
 jn K H ((iZ p r.length r j).map V.int) Q
theorem acm:dy ["p","row","place"] ["p","row","place"] (cu Ed):=dI rfl rfl rfl (by decide +kernel) rfl
theorem acn{fT fS:Addr}{tu jP:FuncData}(F:cJ K "led" "led" Ed f fd)(T:Txt mg)(FA:cJ K "added" "added" tj fA iO)(bA:Binds K iO ["p","row","factor","other"] [])(mA:Mg mg "added" fA)
  (FT:cJ K "turned" "turned" Bk fT tu) (bT:Binds K tu ["p","number"] []) (mT:Mg mg "turned" fT) (FS:cJ K "summed" "summed" Bl fS jP) (bS:Binds K jP ["p","rows","factors","length"] []) (mS:Mg mg "summed" fS) :
  cc P w K mg base cb 2 f fd ["p","row","place"] (RV K):=by
 have GT:cc P w K mg base cb 1 fT tu ["p","number"] RK:=acf FT T;have GS:cc P w K mg base cb 1 fS jP ["p","rows","factors","length"] (RL K):=ach FS T FA bA mA;refine F.ok acm (λvs H Q E h=>?_) (λcz A outer s H vs Q E hr h=>?_)
 ·obtain⟨p,a,r,i,j,rfl,_⟩:=h;rfl
 ·obtain⟨p,a,r,i,j,rfl,rfl,pp,ha,hj,hz,Kf,cZ,k⟩:=h;obtain⟨p2,dX⟩:=jf p pp;refine⟨_,bY (cC (cK GS hr rf mS FS.kp bS .nil cL (aV (pv 0) (aV (gT (aV (pv 1) aZ)) (aV (gT (aV (cK GT hr rf mT FT.kp bT .nil cL (aV (pv 0) (aV (br (cj K rf) (pv 1) (pv 2)) aZ))) aZ)) (aV (eX (iM K rf) rf T.len iN (aV (pv 1) aZ)) aZ)))))),?_⟩;have hx:=Kf _ (dP (J8 hj));have HW:=Jd (n:=r.getD j 0) pp (by lia) hx.2;refine⟨_,rf,_,rf,(by show 1<=sizeLine;decide),λl1 h1=>?_⟩;refine⟨_,rf,_,rf,_,rf,a,_,(j:Int),_,rf,rf,(aW.upd h1).bc ha,bX (pY hj),p,r.getD j 0,rf,p2,dX,(by show 1<=sizeLine;decide),λl2 h2=>?_⟩;have ik:aW H (upd (upd H l1 (.lst [.ref a])) l2 (.lst [.int (fX p (r.getD j 0))])):=(aW.upd h1).trans (.upd h2);refine⟨_,rf,a,_,rf,.inr (ik.bc ha),?_⟩;rw[bu];refine⟨p,(r.length:Int),l1,l2,true,true,[.ref a],[r],[fX p (r.getD j 0)],rf,p2,dX,by lia,by lia,.of (by rw[bR (fj bb h2)];exact bb),.cons (sP (ik.bc ha)) .nil,.of bb,rf,(by show 1<=1000;decide),λq hq=>by rw[cA.mp hq];rfl,λf hf=>by rw[cA.mp hf];lia,λt H6 iy ht=>?_⟩;exact k t H6 (ik.trans iy) ht
theorem RW{fT fS fC fL:Addr}{tu jP tE l7:FuncData}(F:cJ K "reduced" "reduced" yV f fd)(T:Txt mg)(FA:cJ K "added" "added" tj fA iO)(bA:Binds K iO ["p","row","factor","other"] [])(mA:Mg mg "added" fA)
  (FT:cJ K "turned" "turned" Bk fT tu) (bT:Binds K tu ["p","number"] []) (mT:Mg mg "turned" fT) (FS:cJ K "summed" "summed" Bl fS jP) (bS:Binds K jP ["p","rows","factors","length"] []) (mS:Mg mg "summed" fS)
  (FC:cJ K "cleared" "cleared" Ee fC tE) (bC:Binds K tE ["p","row","lead","place"] []) (mC:Mg mg "cleared" fC)
  (FL:cJ K "led" "led" Ed fL l7) (bL:Binds K l7 ["p","row","place"] []) (mL:Mg mg "led" fL) :
  cc P w K mg base cb 3 f fd ["p","rows"] (RT K):=by
 have GL:cc P w K mg base cb 2 fL l7 ["p","row","place"] (RV K):=acn FL T FA bA mA FT bT mT FS bS mS;have GC:cc P w K mg base cb 2 fC tE ["p","row","lead","place"] (Ke K):=aci FC T FA bA mA;refine F.ok tq (λvs H Q E h=>?_) (λcz A outer s H vs Q E hr h=>?_)
 ·obtain⟨p,a,b,RS,rs,n,rfl,_⟩:=h;rfl
 ·obtain⟨p,a,b,RS,rs,n,rfl,pp,hq,hA,hz,hn,hR,k⟩:=h;obtain⟨p2,dX⟩:=jf p pp;refine⟨_,bo (cv (i:=2) tq.nd rf (.inl rf) (gT aZ)) (bo (cv (i:=3) tq.nd rf (.inl rf) (e9 (QJ K rf) rf T.list AV (aV (pv 1) aZ))) (bo (cv (i:=4) tq.nd rf (.inl rf) (Al (HS (pv 3) (λ_=>rf)) (eX (iM K rf) rf T.len iN (aV (br (eY K rf) (pv 3) ba) aZ)) ba)) (bo (jd jw rf (wk rf T.range (aV (pv 4) aZ)) (cH (i:=5) tq.nd rf (Or.inr rf)) (bo (wA (i:=6) (N:=["row","place"]) (own:=1) (caps:=[5]) rf tq.nd rf rf (jo K rf (pv 3)) (show e8 nD (cu yV) ["row","place"] 1 [5] _ from .mk' (by decide +kernel)) (λ_ _ _ _ _=>cH (i:=0) Kd rf (.inl rf)) (λ_ _ _ _ _=>sJ (cS nP (br (cj K rf) (pv 0) (pv 1)) ba (cM _))) (λ_ _ _ _ _=>pv 0)) (bY (dj (HS (pv 6) (λ_=>rf)) (bo (cv (i:=7) tq.nd rf (Or.inr rf) (cK GL hr rf mL FL.kp bL .nil cL (aV (pv 0) (aV (br (eY K rf) (pv 6) ba) (aV (pv 5) aZ))))) (bo (cv (i:=2) tq.nd rf (.inl rf) (bQ mR (je (N:=["row","lead","p","place"]) (own:=1) (caps:=[7,0,5]) rf (jo K rf (pv 2)) (show e8 nD (cu yV) ["row","lead","p","place"] 1 [7,0,5] _ from .mk' (by decide +kernel)) (λ_ _ _ _ _=>cH (i:=0) RR rf (.inl rf)) (λ_ _ _ _ _=>jz) (λ_ _ _ _ _=>cK GC hr rf mC FC.kp bC .nil cL (aV (pv 2) (aV (pv 0) (aV (pv 1) (aV (pv 3) aZ)))))) (gT (aV (pv 7) aZ)))) (bY (wA (i:=3) (N:=["row","lead","p","place"]) (own:=1) (caps:=[7,0,5]) rf tq.nd rf rf (jo K rf (pv 3)) (show e8 nD (cu yV) ["row","lead","p","place"] 1 [7,0,5] _ from .mk' (by decide +kernel)) (λ_ _ _ _ _=>cH (i:=0) RR rf (.inl rf)) (λ_ _ _ _ _=>jz) (λ_ _ _ _ _=>cK GC hr rf mC FC.kp bC .nil cL (aV (pv 2) (aV (pv 0) (aV (pv 1) (aV (pv 3) aZ)))))))))
     dz)))) (bY (cC (e9 (nc K rfl) rfl T.tuple j7 (aV (pv 2) aZ))))))),?_⟩
  refine⟨by decide,λld hd=>⟨_,rf,a,RS,rf,?_,λlr uX=>?_⟩⟩
  ·cases b with
   |true=>exact .inl ((aW.upd hd).sq (b:=true) hq)
   |false=>exact .inr ((aW.upd hd).sq (b:=false) hq)
  have o6:aW H (upd (upd H ld (.lst [])) lr (.lst RS)):=(aW.upd hd).trans (.upd uX);have g1:(upd (upd H ld (.lst [])) lr (.lst RS)) ld=some (.lst []):=by rw[bR (fj bb uX)];exact bb
  have g2:(upd (upd H ld (.lst [])) lr (.lst RS)) lr=some (.lst RS):=bb;generalize upd (upd H ld (.lst [])) lr (.lst RS)=H1 at o6 g1 g2 |-;have RX:=hA.mono o6;have cB:RS.length=rs.length:=kR hA;refine⟨_,rf,!RS.isEmpty,.inl ⟨RS,.of g2,rf⟩,?_⟩;by_cases cZ:rs=[]
  ·subst cZ;have e0:RS=[]:=List.length_eq_zero_iff.mp cB;subst e0;refine dB ?_;refine⟨_,rf,0,rf,by decide,by decide,Dn (n:=0) (λi σ H'=>H'=H1/\σ=[some (.int p),some (.ref a),some (.ref ld),some (.ref lr),some (.int 0),none,none,none]) ⟨rf,rf⟩ (λi σ H' hi=>absurd hi (by lia)) ?_⟩;rintro σ H' ⟨rfl,rfl⟩;exact⟨_,rf,ld,_,rf,.inl ⟨.of g1,λt ht=>k t _ [] (o6.trans (.upd ht)) (.of bb) .nil⟩⟩
  ·have e1:sR rs=n:=D6 hR cZ;have agj:0<rs.length:=List.length_pos_iff.mpr cZ;have hb:(!RS.isEmpty)=true:=by
    cases RS with
    |nil=>rw[List.length_nil]at cB;lia
    |cons _ _=>rfl
   rw[hb];refine eC ?_;have RY:RS[0]?=some (RS[0]'(by lia)):=cP _;obtain⟨r0,a0,hr0,ea0,ha0⟩:=uW RX RY;have Bs:(r0.map V.int).length=n:=by rw[bu];exact(hR r0 (dP hr0)).1
   refine⟨_,rf,lr,RS,0,_,rf,rf,.of g2,bX (j:=0) (RY.trans (aj some ea0)),a0,_,rf,.inr ha0,?_⟩;rw[Bs];refine⟨_,rf,(n:Int),rf,by lia,by lia,Dn (n:=n) (λi σ H'=>aW H H'/\∃dn wO DS XS s5 s6 s7,σ=[some (.int p),some (.ref a),some (.ref dn),some (.ref wO),some (.int (n:Int)),s5,s6,s7]/\H' dn=some (.lst DS)/\cW K H' DS ((jg p n rs i).1.map gY)/\H' wO=some (.lst XS)/\cW K H' XS ((jg p n rs i).2.map gY)) ⟨o6,ld,lr,[],RS,none,none,none,rf,g1,.nil,g2,RX⟩ ?_ ?_⟩
   ·rintro i σ H2 hi ⟨sm,dn,wO,DS,XS,s5,s6,s7,rfl,gd,hD,gr,hX⟩;have IO:=Ji pp hR i (Nat.le_of_lt hi);have IL:=Ka (p:=p) (n:=n) (L:=rs) i;have aco:jg p n rs (i+1)=yG p n (jg p n rs i) i:=rfl;rw[aco];generalize jg p n rs i=st at hD hX IO IL |-;refine⟨_,rf,wO,rf,⟨_,.of gr⟩,uS (cp:=[some (.int (0+(i:Int)))]) (λj H' zs=>cW K H' zs (((st.2.take j).filter λr=>r.getD i 0≠0).map gY)) (.of gr) (by rw[kR hX,IL.2];exact Nat.le_of_lt (Ip hz)) .nil (λj H' zs h=>by rw[kR h];exact gn (vW _ _) (by rw[gy];lia)) ?_ ?_⟩
    ·rintro j x H' zs gW iG h;obtain⟨r,ra,Kh,rfl,i0⟩:=uW hX gW;have kX:=IO.r r (dP Kh);have qV:i<r.length:=by rw[kX.1];exact hi
     refine⟨_,rf,_,rf,ra,_,(i:Int),_,rf,aj V.int (qD _),iG.bc i0,bX (pY qV),rf,_,rf,Et (λKg=>?_) (λheq=>?_)⟩
     ·have wQ:r.getD i 0≠0:=λz=>Kg (aj V.int z);refine⟨_,rf,⟨[_],rf,rf⟩,iG,?_⟩;rw[gO,Kh];show cW K H' _ (((st.2.take j++[r]).filter _).map gY);rw[qE,C0 (by simpa using wQ),qF,du];exact h.append (.cons (sP (iG.bc i0)) .nil)
     ·have wR:r.getD i 0=0:=V.int.inj heq;refine⟨⟨[_],rf,rf⟩,iG,?_⟩;rw[gO,Kh];show cW K H' _ (((st.2.take j++[r]).filter _).map gY);rw[qE,C1 (by simpa using wR),qF,iT];exact h
    rintro H3 zs gZ h3 lh RZ;rw[kR hX,iU]at h3;have j9:aW H2 (upd H3 lh (.lst zs)):=gZ.trans (.upd RZ);have g4:(upd H3 lh (.lst zs)) lh=some (.lst zs):=bb;have h4:=h3.mono (aW.upd RZ (o:=.lst zs));generalize upd H3 lh (.lst zs)=H4 at j9 g4 h4 |-;refine⟨_,rf,!zs.isEmpty,.inl ⟨zs,.of g4,rf⟩,?_⟩;unfold yG;generalize hf:(st.2.filter λr=>r.getD i 0≠0)=hs at h4 |-;cases hs with
    |nil=>
     have:zs=[]:=List.length_eq_zero_iff.mp (kR h4)
     subst this;refine dB ?_;exact⟨sm.trans j9,dn,wO,DS,XS,_,_,_,rf,j9 _ _ gd,hD.mono j9,j9 _ _ gr,hX.mono j9⟩
    |cons hd tl=>
     cases zs with
     |nil=>exact absurd (kR h4) (by simp)
     |cons z zs'=>
      obtain⟨r',ha,pT,rfl,hha⟩:=uW (i:=0) (x:=z) h4 rfl;have er:hd=r':=dq pT;subst er;refine eC ?_;have R1:hd∈st.2/\hd.getD i 0≠0:=by
       have:hd∈st.2.filter λr=>r.getD i 0≠0:=by rw[hf];exact cQ
       simpa using jV.mp this
      have Bt:=IO.r hd R1.1;have qV:i<hd.length:=by rw[Bt.1];exact hi
      refine⟨_,rf,_,rf,lh,_,0,.ref ha,rf,rf,.of g4,bX (j:=0) rf,_,rf,p,ha,hd,0+(i:Int),i,rf,qD _,pp,hha,qV,by rw[Bt.1];exact hn,Bt.2,R1.2,λt H6 iy ht=>?_⟩;have tF:aW H2 H6:=j9.trans iy;rw[Bt.1]at ht;have ni:bq K H6 t ((iZ p n hd i).map V.int):=ht;have Ki:=Q0 (place:=i) (show 0<p by lia) Bt;dsimp only;generalize iZ p n hd i=R3 at ni Ki |-;refine⟨_,rf,dn,rf,⟨_,.of (tF _ _ gd)⟩,RU p2 dX (.of (tF _ _ gd)) (hD.mono tF) IO.d (by lia) hn hi Ki.1 ni (λx H1 R h=>⟨_,rf,_,rf,_,rf,_,rf,h⟩) λH8 ma yY h8 q8 hq8=>?_⟩;refine⟨_,rf,(by show 1<=sizeLine;decide),λl9 h9=>⟨q8,l9,_,_,rfl,rfl,by rw[bR (fj bb h9)];exact bb,bb,?_,λq9 hq9=>?_⟩⟩
      ·show ma.length+1<=sizeLine;rw[kR h8,bu]
       have:(1000:Nat)<sizeLine:=by decide
       lia
      have uY:aW H8 (upd (upd (upd H8 q8 (.lst ma)) l9 (.lst [.ref t])) q9 (.lst (ma++[.ref t]))):=((aW.upd hq8).trans (.upd h9)).trans (.upd hq9);have g9:(upd (upd (upd H8 q8 (.lst ma)) l9 (.lst [.ref t])) q9 (.lst (ma++[.ref t]))) q9=some (.lst (ma++[.ref t])):=bb;generalize upd (upd (upd H8 q8 (.lst ma)) l9 (.lst [.ref t])) q9 (.lst (ma++[.ref t]))=H9 at uY g9 |-;have Ey:aW H2 H9:=(tF.trans yY).trans uY;have R4:=(yY.trans uY).bc ni;refine⟨_,rf,wO,rf,⟨_,.of (Ey _ _ gr)⟩,RU p2 dX (.of (Ey _ _ gr)) (hX.mono Ey) IO.r (by lia) hn hi Ki.1 R4 (λx H1 R h=>⟨_,rf,_,rf,_,rf,_,rf,h⟩) λHb R5 smb hb qb R6=>?_⟩;have q4:=smb.trans (aW.upd R6 (o:=.lst R5));refine⟨(sm.trans Ey).trans q4,q9,qb,_,R5,_,_,_,rf,q4 _ _ g9,?_,bb,hb.mono (.upd R6)⟩;show cW K _ _ ((st.1.map (iY p R3 i)++[R3]).map gY);rw[du];exact(h8.mono (uY.trans q4)).append (.cons (sP (q4.bc R4)) .nil)
   ·rintro σ H' ⟨sm,dn,wO,DS,XS,s5,s6,s7,rfl,gd,hD,gr,hX⟩;refine⟨_,rf,dn,_,rf,.inl ⟨.of gd,λt ht=>k t _ DS (sm.trans (.upd ht)) (.of bb) ?_⟩⟩;unfold ng;rw[e1];exact hD.mono (.upd ht)
theorem R7:(["place","number"]:List Str).Nodup:=by decide +kernel
def R8(K:Frag):Sp:=λvs H Q _=>∃(a:Addr)(r:List Int)(l:Nat)(tl:List Nat),vs=[.ref a]/\bq K H a (r.map V.int)/\r.length<=2000/\sS r=l::tl/\∀H',aW H H'->Q (.int (l:Int)) H'
theorem acp:dy ["row"] ["row"] (cu Ef):=dI rfl rfl rfl (by decide +kernel) rfl
theorem R9(F:cJ K "first_place" "first_place" Ef f fd)(T:Txt mg):cc P w K mg base cb 1 f fd ["row"] (R8 K):=by
 refine F.ok acp (λvs H Q E h=>?_) (λcz A outer s H vs Q E hr h=>?_)
 ·obtain⟨a,r,l,tl,rfl,_⟩:=h;rfl
 ·obtain⟨a,r,l,tl,rfl,hq,hz,kq,k⟩:=h;refine⟨_,bY (cC (br (eY K rf) (je (N:=["place","number"]) (own:=2) (caps:=[]) rf (D0 K rf false rf T.enumerate (aV (pv 0) aZ)) (show e8 ["row"] (cu Ef) ["place","number"] 2 [] _ from .mk' (by decide +kernel)) (λ_ _ _ _ _=>nZ (n:=2) K rf rf (eZ (cH (i:=0) R7 rf (.inl rf)) (eZ (cH (i:=1) R7 rf (.inl rf)) ko))) (λ_ _ _ _ _=>sJ (cS nP (pv 1) ba (cM _))) (λ_ _ _ _ _=>pv 0)) ba)),?_⟩
  have ex:(r.map V.int).length=r.length:=bu _;have z2:=i5;refine⟨_,rf,a,rf,⟨_,hq⟩,IW (b:=false) (cp:=[]) (λi H' zs=>zs=((List.range i).filter λu=>r.getD u 0≠0).map λ(u:Nat)=>V.int u) hq (by rw[ex];lia) rfl (λj H' zs e=>by rw[e,bu];exact gn (vW _ _) (by rw[r6];exact cn _)) (λi H1 H2 zs _ e=>e) ?_ ?_⟩
  ·rintro j x H1 zs hx sm rfl;have hj:j<r.length:=by rw[<- ex];exact(dC.mp hx).1
   have gW:x=.int (r.getD j 0):=by
    rw[pY hj]at hx;exact(dq hx).symm
   subst gW;refine⟨_,rf,rf,_,rf,Et (λcZ=>?_) (λheq=>?_)⟩
   ·have wQ:r.getD j 0≠0:=λz=>cZ (aj V.int z);refine⟨_,rf,⟨[_,_],rf,rf⟩,sm,?_⟩;rw[r9,qE,C0 (by simpa using wQ),qF,du];rfl
   ·have wR:r.getD j 0=0:=V.int.inj heq;refine⟨⟨[_,_],rf,rf⟩,sm,?_⟩;rw[r9,qE,C1 (by simpa using wR),qF,iT]
  ·rintro H1 zs sm ez lp jh;rw[ex]at ez;have ez:zs=(sS r).map λ(u:Nat)=>V.int u:=ez;rw[kq]at ez;subst ez;exact⟨lp,_,0,.int (l:Int),rf,rf,.of bb,bX (j:=0) rf,k _ (sm.trans (.upd jh))⟩
noncomputable def Ez:List (Str×V):=[("times",.int 1),("back",.int 1),("beside",.int 2),("then",.int 2)]
noncomputable def kY(x:Str):Nat:=if x="times"\/x="back" then 1 else if x="beside"\/x="then" then 2 else 0
theorem acq(x:Str):(PyProof.Rows.KTD.datumAt x Ez).getD (.int 0)=.int (kY x):=by
 unfold Ez kY;simp only[PyProof.Rows.KTD.datumAt,aJ];by_cases h1:x="times"
 ·simp[h1]
 ·by_cases h2:x="back"
  ·simp[h2]
  ·by_cases h3:x="beside"
   ·subst h3;rfl
   ·by_cases h4:x="then"
    ·subst h4;rfl
    ·simp[h1,h2,h3,h4]
theorem OO(x:Str):kY x<=2:=by
 unfold kY;split
 ·lia
 ·split<;>lia
structure Parts(K:Frag)(mg:Str->Option Value)(aP:Addr):Prop where
 nm:mg "PARTS"=some (.ref aP)
 tab:∀h,K.In h->j8 h aP Ez
theorem npt:(["part","values"]:List Str).Nodup:=by decide +kernel
structure uZ(k:Nat)(P:Program)(w:World)(K:Frag)(mg:Str->Option Value)(base:Heap)(s:Shared)(H:Hp)(Q:VK)(aw f:Addr)(ws:List V)(R:List V->Hp->VK->Prop)(G:Nat->List V->Hp->Prop):Prop where
 wU:bq K H aw ws
 len:ws.length<=900000
 fn:oj P w K mg base k s H f R
 g0:G ws.length [] H
 mono:∀i vs H1 H2,G i vs H1->dF H1 H2->G i vs H2
 ij:∀i vs H1,G i vs H1->vs.length<=900000
 kind:∀i,i<ws.length->(∃x,ws[i]?=some (.str x))\/∃n,ws[i]?=some (.int n)
 num:∀i n vs H1,ws[i]?=some (.int n)->G (i+1) vs H1->G i (vs++[.int n]) H1
 word:∀i x vs H1,ws[i]?=some (.str x)->G (i+1) vs H1->∃eW ps,vs=eW++ps.reverse/\ps.length=kY x/\
  ∀pa H2 Q',dF H1 H2->H2 pa=some (.lst ps)->(∀v H3,aW H2 H3->G i (eW++[v]) H3->Q' v H3)->R [.int i,.str x,.ref pa] H2 Q'
 first:∃x,ws[0]?=some (.str x)
 fin:∀td kvs vs v H',aW H H'->H' td=some (.dK kvs)->da kvs (Sum.inl 0)=some v->G 0 (vs++[v]) H'->Q (.ref td) H'
noncomputable abbrev nAf:List Str:=["words","made","told","values","place","word","parts"]
theorem yZ:dy ["words","made","told","values","place","word","parts"] ["words","made"] (cu Eh):=dI rfl rfl rfl (by decide +kernel) rfl
noncomputable def u7:Option V->Bool
 |some (.str _)=>true
 |_=>false
noncomputable def jQ(ws:List V):Nat->List Nat
 |0=>[]
 |j+1=>if u7 ws[ws.length-(j+1)]? then jQ ws j++[ws.length-(j+1)]else jQ ws j
theorem Kj(ws:List V)(j:Nat):jQ ws (j+1)=if u7 ws[ws.length-(j+1)]? then jQ ws j++[ws.length-(j+1)]else jQ ws j:=rfl
theorem EA(ws:List V):∀j,(jQ ws j).length<=j
 |0=>cn _
 |j+1=>by
  have:=EA ws j
  unfold jQ;split
  ·rw[cm];exact Nat.add_le_add_right this 1
  ·lia
theorem Kk(ws:List V):∀j,j<=ws.length->∀i∈jQ ws j,ws.length-j<=i
 |0,_,i,h=>by cases h
 |j+1,hj,i,h=>by
  unfold jQ at h;split at h
  ·rcases(cN.mp h)with(z|z)
   ·have:=Kk ws j (by lia) i z;lia
   ·rw[cA.mp z];exact cn _
  ·have:=Kk ws j (by lia) i h;lia
structure y6(k:Nat)(P:Program)(w:World)(K:Frag)(mg:Str->Option Value)(base:Heap)(s:Shared)(H:Hp)(Q:VK)(aw f:Addr)(ws:List V)(R:List V->Hp->VK->Prop)(G:Nat->List V->Hp->Prop)(U:Nat->V->Hp->Prop):Prop where
 wU:bq K H aw ws
 len:ws.length<=900000
 fn:oj P w K mg base k s H f R
 g0:G ws.length [] H
 mono:∀i vs H1 H2,G i vs H1->dF H1 H2->G i vs H2
 EB:∀i v H1 H2,U i v H1->dF H1 H2->U i v H2
 ij:∀i vs H1,G i vs H1->vs.length<=900000
 kind:∀i,i<ws.length->(∃x,ws[i]?=some (.str x))\/∃n,ws[i]?=some (.int n)
 num:∀i n vs H1,ws[i]?=some (.int n)->G (i+1) vs H1->G i (vs++[.int n]) H1
 word:∀i x vs H1,ws[i]?=some (.str x)->G (i+1) vs H1->∃eW ps,vs=eW++ps.reverse/\ps.length=kY x/\
  ∀pa H2 Q',dF H1 H2->H2 pa=some (.lst ps)->(∀v H3,aW H2 H3->G i (eW++[v]) H3->U i v H3->Q' v H3)->R [.int i,.str x,.ref pa] H2 Q'
 fin:∀td kvs vs H',aW H H'->H' td=some (.dK kvs)->kvs.map Prod.fst=(jQ ws ws.length).map (λ(n:Nat)=>(Sum.inl (n:Int):Key))->(∀(i:Nat)(x:Str),ws[i]?=some (.str x)->∃v,da kvs (Sum.inl (i:Int))=some v/\U i v H')->G 0 vs H'->Q (.ref td) H'
theorem uZ.all{k:Nat}{s:Shared}{H:Hp}{Q:VK}{aw:Addr}{ws:List V}{R:List V->Hp->VK->Prop}{G:Nat->List V->Hp->Prop}(D:uZ k P w K mg base s H Q aw f ws R G):y6 k P w K mg base s H Q aw f ws R G (λi v H=>∃vs,G i (vs++[v]) H):=by
 refine⟨D.wU,D.len,D.fn,D.g0,D.mono,λi v H1 H2 ⟨vs,h⟩ tp=>⟨vs,D.mono _ _ _ _ h tp⟩,D.ij,D.kind,D.num,λi x vs H1 h g=>?_,λtd kvs vs H' s' h1 h2 h3 _=>?_⟩
 ·obtain⟨eW,ps,e1,e2,hm⟩:=D.word i x vs H1 h g;exact⟨eW,ps,e1,e2,λpa H2 Q' tp hp hq=>hm pa H2 Q' tp hp λv H3 s3 g3=>hq v H3 s3 g3 ⟨eW,g3⟩⟩
 ·obtain⟨x,hx⟩:=D.first;obtain⟨v,hv,vs',hg⟩:=h3 0 x hx;exact D.fin td kvs vs' v H' s' h1 hv hg
def u9(k:Nat)(P:Program)(w:World)(K:Frag)(mg:Str->Option Value)(base:Heap)(s:Shared):Sp:=λvs H Q _=>∃(aw f:Addr)(ws:List V)(R:List V->Hp->VK->Prop)(G:Nat->List V->Hp->Prop)(U:Nat->V->Hp->Prop),vs=[.ref aw,.ref f]/\y6 k P w K mg base s H Q aw f ws R G U
def acr(K:Frag)(aw f td vl:Addr)(ws:List V)(G:Nat->List V->Hp->Prop)(U:Nat->V->Hp->Prop)(H:Hp)(j:Nat)(σ:St)(H':Hp):Prop:=aW H H'/\∃(s4 s5 s6:Option V)(kvs:List (Key×V))(vs:List V),
 σ=[some (.ref aw),some (.ref f),some (.ref td),some (.ref vl),s4,s5,s6]/\H' td=some (.dK kvs)/\H' vl=some (.lst vs)/\kvs.map Prod.fst=(jQ ws j).map (λ(n:Nat)=>(Sum.inl (n:Int):Key))/\G (ws.length-j) vs H'/\
 (∀(i:Nat)(x:Str),ws.length-j<=i->ws[i]?=some (.str x)->∃v,da kvs (Sum.inl (i:Int))=some v/\U i v H')
theorem Sa{A:List (Key×V)}{k:Key}{v:V}(h:da A k=some v):k∈A.map Prod.fst:=by
 unfold da at h;cases e:A.find? λkv=>decide (kv.1=k) with
 |none=>rw[e]at h;cases h
 |some kv=>
  have:=List.find?_some e
  have e2:kv.1=k:=by simpa using this
  rw[<- e2];exact oI (Hv e)
theorem tG{k:Nat}{aP:Addr}(F:cJ K "all_folded" "all_folded" Eh f fd)(T:Txt mg)(PT:Parts K mg aP):pX P w K mg base (k+1) f fd ["words","made"] (u9 k P w K mg base):=by
 refine F.Jw yZ (λs vs H Q E h=>?_) (λcz A outer s H vs Q E hr h=>?_)
 ·obtain⟨aw,f,ws,R,G,U,rfl,_⟩:=h;rfl
 ·obtain⟨aw,fm,ws,R,G,U,rfl,D⟩:=h;have hu:=hr.units;have kc:=oS hr;refine⟨_,bo (cv (i:=2) yZ.nd rf (.inl rf) Be) (bo (cv (i:=3) yZ.nd rf (Or.inr rf) (gT aZ)) (bo (jd jw rf (RE rf T.range (aV (bQ sr (eX (iM K rf) rf T.len iN (aV (pv 0) aZ)) ba) (aV (nN nO ba) (aV (nN nO ba) aZ)))) (cH (i:=4) yZ.nd rf (.inl rf)) (bo (cv (i:=5) yZ.nd rf (.inl rf) (br (cj K rf) (pv 0) (pv 4))) (bY (dj (pK (eX (DV (T := "int")) rf T.isinstance AX (aV (pv 5) (aV (AQ rf T.int wD) aZ)))) (bY (oJ (qQ oH uy uz qR (pv 3) (aV (pv 5) aZ)))) (bo (wA (N:=["part","values"]) (own:=1) (caps:=[3]) (i:=6) rf yZ.nd rf rf (wk rf T.range (aV (ab4 PT.tab (pJ (v:=.ref _) rf PT.nm rf) (pv 5) ba ⟨rf,rf,rf,rf⟩) aZ)) (show e8 nAf (cu Eh) ["part","values"] 1 [3] _ from .mk' (by decide +kernel)) (λ_ _ _ _ _=>cH (i:=0) npt rf (.inl rf)) (λ_ _ _ _ _=>jz) (λ_ _ _ _ _=>RH K rf (pv 1))) (bo (pV kc (pv 2) (pv 4) (by exact ab8 (i:=1) D.fn hr rf rf (.inl rf) (aV (pv 4) (aV (pv 5) (aV (pv 6) aZ)))) rf) (bY (oJ (qQ oH uy uz qR (pv 3) (aV (gJ kc (pv 2) (pv 4)) aZ)))))))))) (bY (cC (pv 2))))),?_⟩
  have hz:(1000000:Nat)<=sizeLine:=by decide
  have hl:=D.len;intro td Kl;refine⟨(by show 0<=sizeLine;lia),λvl tH=>?_⟩;have Bu:vl≠td:=λz=>by rw[z,bb]at tH;cases tH
  have Km:H vl=none:=by rw[bR Bu]at tH;exact tH
  have s2:aW H (upd (upd H td (.dK [])) vl (.lst [])):=(aW.upd Kl).trans (.upd tH);refine⟨_,rf,aw,ws,rf,.inr (s2.bc D.wU),_,_,rf,rf,_,rf,_,rf,_,rf,⟨by lia,by lia⟩,?_⟩;have en:((ws.length:Int)-1+1).toNat=ws.length:=by lia
  rw[en];refine RF (acr K aw fm td vl ws G U H) ⟨s2,none,none,none,[],[],rf,?_,bb,rf,D.mono _ _ _ _ D.g0 s2.tup,λi x hi hx=>?_⟩ ?_ ?_
  ·rw[bR (Ne.symm Bu)];exact bb
  ·rw[jJ (by lia)]at hx;cases hx
  ·rintro j σ H' hj ⟨sm,s4,s5,s6,kvs,vs,rfl,ED,wV,y8,hG,hU⟩;have hk:kvs.length<=j:=by have:=aj List.length y8;rw[bu,bu]at this;have:=EA ws j;lia
   obtain⟨i,hi⟩:∃i,ws.length=i+1+j:=⟨ws.length-1-j,by lia⟩;have e1:(ws.length:Int)-1-(j:Nat)=((i:Nat):Int):=by lia
   have e2:ws.length-j=i+1:=by lia
   have e3:ws.length-(j+1)=i:=by lia
   rw[e1];rw[e2]at hG;have Ii:=D.ij _ _ _ hG;rcases D.kind i (by lia)with⟨x,hx⟩|⟨n,hx⟩
   ·obtain⟨eW,ps,rfl,q5,acs⟩:=D.word i x vs H' hx hG;refine⟨_,rf,_,rf,aw,_,((i:Nat):Int),_,rf,rf,sm.bc D.wU,bX (j:=i) hx,?_⟩;refine⟨_,rf,.str x,.type "str",false,rf,.str x,QI K,false,rf,dB ?_⟩;have hpc:=OO x;refine⟨rf,_,rf,x,rf,((kY x:Nat):Int),by rw[acq],by lia,by lia,?_⟩;refine ab7 (cp:=[some (.ref vl)]) (n:=kY x) (lo:=0) (λk Hx zs=>zs=ps.take k/\Hx vl=some (.lst (eW++(ps.drop k).reverse))/\∀b,b≠vl->Hx b=H' b) (by lia) ⟨rf,wV,λ_ _=>rf⟩ (λk Hx zs h=>by rw[h.1];exact List.length_take_le _ _) ?_ ?_
    ·rintro k Hx zs iL ⟨rfl,h1,h2⟩;have cE:k<ps.length:=by lia
     have ex:eW++(ps.drop k).reverse=(eW++(ps.drop (k+1)).reverse)++[ps[k]]:=by rw[C2 cE,C3,i4]
     rw[ex]at h1;refine⟨_,rf,.inl ⟨rf,_,.of h1⟩,vl,_,ps[k],rf,rf,h1,by simp,tf.mk ⟨?_,?_,λb hb=>?_⟩⟩
     ·rw[gO,cP cE];rfl
     ·rw[bb,List.dropLast_concat]
     ·rw[bR hb];exact h2 b hb
    ·rintro Hx zs ⟨rfl,h1,h2⟩ pa EE;rw[pz (by lia)];rw[List.drop_eq_nil_of_le (by lia),List.reverse_nil,iT]at h1;have EF:td≠vl:=Ne.symm Bu;have keep:∀b o,b≠vl->H' b=some o->(upd Hx pa (.lst ps)) b=some o:=λb o nb e=>by
      have h3:Hx b=some o:=by rw[h2 b nb];exact e
      rw[bR (fj h3 EE)];exact h3
     have EG:aW H (upd Hx pa (.lst ps)):=λb o e=>keep b o (fj e Km) (sm b o e);have tp:dF H' (upd Hx pa (.lst ps)):=λb o e k=>keep b o (λz=>by
      subst z;rw[wV]at e;cases e;rcases k with⟨_,z⟩|⟨_,_,z⟩<;>cases z) e
     have g1:(upd Hx pa (.lst ps)) pa=some (.lst ps):=bb;have g2:(upd Hx pa (.lst ps)) vl=some (.lst eW):=by rw[bR (fj h1 EE)];exact h1
     have g3:(upd Hx pa (.lst ps)) td=some (.dK kvs):=keep _ _ EF ED;generalize upd Hx pa (.lst ps)=H2 at EG tp g1 g2 g3;refine⟨rf,EG,_,rf,_,rf,_,rf,EG,acs pa H2 _ tp g1 λv H3 s3 Kn hU3=>?_⟩;have Kc:eW.length<=900000:=by rw[cm]at Ii;lia
     refine⟨_,rf,_,rf,td,_,rf,l6.k (k:=Sum.inl ((i:Nat):Int)) (s3 _ _ g3) (by lia),?_⟩;have Ko:(upd H3 td (.dK (eS kvs (Sum.inl ((i:Nat):Int)) v))) vl=some (.lst eW):=by rw[bR Bu];exact s3 _ _ g2
     have Sb:(upd H3 td (.dK (eS kvs (Sum.inl ((i:Nat):Int)) v))) td=some (.dK (eS kvs (Sum.inl ((i:Nat):Int)) v)):=bb;have Kq:da (eS kvs (Sum.inl ((i:Nat):Int)) v) (Sum.inl ((i:Nat):Int))=some v:=by rw[Bb,af rfl]
     refine⟨_,rf,.inl ⟨rf,_,.of Ko⟩,_,rf,_,rf,td,v,rf,Kq▸eI.k (k:=Sum.inl ((i:Nat):Int)) Sb,vl,eW,_,rf,rf,Ko,by lia,?_⟩;have Kr:=(dF.uU (o:=.dK (eS kvs (Sum.inl ((i:Nat):Int)) v)) (s3 _ _ g3)).trans (dF.lst (o:=.lst (eW++[v])) Ko);have kr:da kvs (Sum.inl ((i:Nat):Int))=none:=by
      cases ev:da kvs (Sum.inl ((i:Nat):Int)) with
      |none=>rfl
      |some u=>
       have hm:=Sa ev;rw[y8]at hm;obtain⟨i',jq,e'⟩:=dD.mp hm
       have:=Kk ws j (by lia) i' jq
       have:=Sum.inl.inj e'
       lia
     refine⟨((EG.trans s3).put Kl).put Km,_,_,_,_,_,rf,by rw[bR EF];exact Sb,bb,?_,?_,λi' x' jq gW=>?_⟩
     ·rw[Eb _ kr,du,y8];rw[Kj,e3,hx,af (show u7 (some (V.str x))=true from rfl),du];rfl
     ·rw[e3];exact D.mono _ _ _ _ Kn Kr
     ·rw[Bb];by_cases ei:i'=i
      ·rw[af (by rw[ei]),ei];exact⟨v,rf,D.EB _ _ _ _ hU3 Kr⟩
      ·rw[ag λz=>ei (by have:=Sum.inl.inj z;lia)];obtain⟨u,Ks,Kt⟩:=hU i' x' (by lia) gW;exact⟨u,Ks,D.EB _ _ _ _ Kt (tp.trans (s3.tup.trans Kr))⟩
   ·refine⟨_,rf,_,rf,aw,_,((i:Nat):Int),_,rf,rf,sm.bc D.wU,bX (j:=i) hx,?_⟩;refine⟨_,rf,.int n,.type "int",true,rf,.int n,IX K,true,rf,eC ?_⟩;refine⟨_,rf,.inl ⟨rf,_,.of wV⟩,_,rf,vl,vs,_,rf,rf,wV,by lia,?_⟩;have EF:td≠vl:=Ne.symm Bu;refine⟨sm.put Km,_,_,_,kvs,_,rf,by rw[bR EF];exact ED,bb,?_,?_,λi' x' jq gW=>?_⟩
    ·rw[y8];rw[Kj,e3,hx,ag (show ¬u7 (some (V.int n))=true from λz=>nomatch z)]
    ·rw[e3];exact D.mono _ _ _ _ (D.num i n vs H' hx hG) (dF.lst wV)
    ·by_cases ei:i'=i
     ·rw[ei,hx]at gW;cases gW
     ·obtain⟨u,Ks,Kt⟩:=hU i' x' (by lia) gW;exact⟨u,Ks,D.EB _ _ _ _ Kt (dF.lst wV)⟩
  ·rintro σ H' ⟨sm,s4,s5,s6,kvs,vs,rfl,ED,wV,y8,hG,hU⟩;rw[Nat.sub_self]at hG hU;exact⟨_,rf,D.fin td kvs vs H' sm ED y8 (λi x hx=>hU i x (jv _) hx) hG⟩
end S21
namespace L2
open PySem PySem.Spec PyProof.Rows
section
variable{P:Program}{w:World}{K:Frag}{mg:Str->Option Value}{base:Heap}
end
end L2
namespace S21
open PySem L2 Bw
variable{A B:Prop}{aB aS f:Addr}{fd:FuncData}{i l l' m r r' x:Nat}{p:Int}{row:List Int}{rows':LL}{ts:List Itm}
noncomputable def Bv:List Value->List Int->Bool
 | [],[]=>true
 | .int i _::vs,n::ns=>i==n&&Bv vs ns
 |_,_=>false
theorem Ku:∀(vs:List Value)(ns:List Int),Bv vs ns=true->Vals (ns.map V.int) vs
 | [],[],_=>.nil
 | .int i t::vs,n::ns,h=>by
  have h':(i==n&&Bv vs ns)=true:=h;rw[gM]at h';have e:i=n:=beq_iff_eq.mp h'.1;exact .cons ⟨t,by rw[e]⟩ (Ku vs ns h'.2)
 | [],_::_,h=>nomatch h
 | .none::_,[],h=>nomatch h
 |v::vs,[],h=>by cases v<;>exact nomatch h
 |v::vs,n::ns,h=>by
  cases v with
  |int i t=>
   have h':(i==n&&Bv vs ns)=true:=h;rw[gM]at h';have e:i=n:=beq_iff_eq.mp h'.1;exact .cons ⟨t,by rw[e]⟩ (Ku vs ns h'.2)
  |_=>exact nomatch h
noncomputable def y9(K:Frag)(t:Addr)(ns:List Int):Bool:=match K.lookup t with
 |some ⟨.type "tuple",_,.seq its _,_⟩=>decide (its.size<=1000)&&Bv its.toList ns
 |_=>false
theorem Kv{K:Frag}{t:Addr}{ns:List Int}(h:y9 K t ns=true)(H:Hp):bq K H t (ns.map V.int):=by
 unfold y9 at h;split at h
 case h_2=>exact nomatch h
 case h_1 d its n sl ho=>
  rw[gM]at h;exact .inr ⟨_,its,n,ho,rf,rf,gn (aL h.1) (by decide),Ku _ _ h.2⟩
noncomputable def EH(K:Frag):List Value->LL->Bool
 | [],[]=>true
 | .ref t::vs,r::rs=>y9 K t r&&EH K vs rs
 |_,_=>false
theorem Sd{K:Frag}(H:Hp):∀(vs:List Value)(rs:LL),EH K vs rs=true->∃RS,Vals RS vs/\cW K H RS (rs.map gY)
 | [],[],_=>⟨[],.nil,.nil⟩
 | [],_::_,h=>nomatch h
 |v::vs,[],h=>by cases v<;>exact nomatch h
 |v::vs,r::rs,h=>by
  cases v with
  |ref t=>
   have h':(y9 K t r&&EH K vs rs)=true:=h;rw[gM]at h';obtain⟨RS,h1,h2⟩:=Sd H vs rs h'.2;exact⟨.ref t::RS,.cons rf h1,.cons (sP (Kv h'.1 H)) h2⟩
  |_=>exact nomatch h
noncomputable def Kw(K:Frag)(t:Addr)(rs:LL):Bool:=match K.lookup t with
 |some ⟨.type "tuple",_,.seq its _,_⟩=>decide (its.size<=1000)&&EH K its.toList rs
 |_=>false
theorem acu{K:Frag}{t:Addr}{rs:LL}(h:Kw K t rs=true)(H:Hp):∃RS,bq K H t RS/\cW K H RS (rs.map gY):=by
 unfold Kw at h;split at h
 case h_2=>exact nomatch h
 case h_1 d its n sl ho=>
  rw[gM]at h;obtain⟨RS,h1,h2⟩:=Sd H _ _ h.2;exact⟨RS,.inr ⟨_,its,n,ho,rf,rf,gn (aL h.1) (by decide),h1⟩,h2⟩
noncomputable def ip:List (Str×Nat×Nat×LL):=[("id",1,1,[[1,1]]),("swap",2,2,[[1,0,0,1],[0,1,1,0]]),("copy",1,2,[[1,1,1]]),("end",1,0,[[1]]),("add",2,1,[[1,0,1],[0,1,1]]),("none",0,1,[]),("cup",0,2,[[1,1]]),("empty",0,0,[])]
noncomputable def By(K:Frag)(aS aB:Addr):Bool:=Bi K aS&&Bi K aB&&ip.all λe=>
 (match PyProof.Rows.KTD.datumAt e.1 (kQ K aS)with|some (.ref t)=>y9 K t [(e.2.1:Int),(e.2.2.1:Int)] | _=>false) &&
 (match PyProof.Rows.KTD.datumAt e.1 (kQ K aB)with|some (.ref t)=>Kw K t e.2.2.2|_=>false)
structure tI(K:Frag)(mg:Str->Option Value)(aS aB:Addr):Prop where
 Se:mg "SIDES"=some (.ref aS)
 nmB:mg "BOX_ROWS"=some (.ref aB)
 ok:By K aS aB=true
theorem tI.tabS{K:Frag}{mg:Str->Option Value}(B:tI K mg aS aB):∀h,K.In h->j8 h aS (kQ K aS):=λh X=>by
 have z:=B.ok;unfold By at z;rw[gM,gM]at z;exact Ec X z.1.1
theorem tI.acv{K:Frag}{mg:Str->Option Value}(B:tI K mg aS aB):∀h,K.In h->j8 h aB (kQ K aB):=λh X=>by
 have z:=B.ok;unfold By at z;rw[gM,gM]at z;exact Ec X z.1.2
theorem tI.at_{K:Frag}{mg:Str->Option Value}(B:tI K mg aS aB){x:Str}{aY:LL}(h:(x,l,r,aY)∈ip) :
  (∃t,PyProof.Rows.KTD.datumAt x (kQ K aS)=some (.ref t)/\∀H,bq K H t [.int (l:Int),.int (r:Int)])/\∃t,PyProof.Rows.KTD.datumAt x (kQ K aB)=some (.ref t)/\∀H,∃RS,bq K H t RS/\cW K H RS (aY.map gY):=by
 have z:=B.ok;unfold By at z;rw[gM]at z;have z2:=vV.mp z.2 _ h;rw[gM]at z2;obtain⟨z3,z4⟩:=z2;constructor
 ·split at z3
  ·rename_i t e
   exact⟨t,e,λH=>Kv z3 H⟩
  ·exact nomatch z3
 ·split at z4
  ·rename_i t e
   exact⟨t,e,λH=>acu z4 H⟩
  ·exact nomatch z4
def Kx(K:Frag):Sp:=λvs H Q _=>∃(i:Int)(x:Str)(pa:Addr)(l r:Nat)(aY:LL),vs=[.int i,.str x,.ref pa]/\(x,l,r,aY)∈ip/\jn K H [.int (l:Int),.int (r:Int),.df] Q
theorem acw:dy ["place","word","parts","unmet"] ["place","word","parts"] (cu Ei):=dI rfl rfl rfl (by decide +kernel) rfl
theorem Sf(F:cJ K "measure" "measure" Ei f fd)(B:tI K mg aS aB):cc P w K mg base cb 1 f fd ["place","word","parts"] (Kx K):=by
 refine F.ok acw (λvs H Q E h=>?_) (λcz A outer s H vs Q E hr h=>?_)
 ·obtain⟨i,x,pa,l,r,aY,rfl,_⟩:=h;rfl
 ·obtain⟨i,x,pa,l,r,aY,rfl,hx,q⟩:=h;obtain⟨⟨t,e,ht⟩,_⟩:=B.at_ hx;refine⟨_,bo (dj (wc (Jz B.tabS (pv 1) (pJ (v:=.ref _) rf B.Se rf)) rf) (bY (cC (bQ (eN K rf) (Jy B.tabS (pJ (v:=.ref _) rf B.Se rf) (pv 1) (λ_ _=>rf)) (cU (aV Dh aZ))))) dz) Dj,?_⟩;refine⟨_,rf,x,rf,rf,_,rf,?_⟩;rw[e];refine eC ⟨_,rf,x,_,rf,rf,e,(by show 1<=sizeLine;decide),λt1 g1=>?_⟩;exact⟨t,t1,_,_,rf,rf,ht _,.of bb,(by show 2+1<=sizeLine;decide),λa' H' s' h'=>q a' H' ((aW.upd g1).trans s') h'⟩
theorem oj.on{X:Cx}{aU:List (Addr×Obj)}{σ:St}{H1:Hp}{s1:Shared}{k:Nat}{R:List V->Hp->VK->Prop}(I:Inv X aU σ H1 s1)(hex:X.ex=[])(sm:aW X.H₀ H1)(L:oj P w K mg base k X.s₀ X.H₀ f R):oj P w K mg base k s1 H1 f R:=by
 refine⟨?_,λA outer s' H' vs us Q hr e0 iG hk rv hQ=>L.run A outer s' H' vs us Q hr e0 (sm.trans iG) (λc o hc hn=>?_) rv hQ⟩
 ·rcases L.here with⟨φ,h1,h2⟩|h
  ·exact .inl ⟨φ,sm _ _ h1,h2⟩
  ·exact .inr h
 ·have Bj:c ∉ X.ex:=by rw[hex];simp
  obtain⟨sl,h3⟩:=I.base.any hc hn Bj;obtain⟨h4,HB,h5⟩:=hk c _ h3 (I.base.free c o hc hn Bj);exact⟨h4,HB,h5⟩
theorem uZ.on{k:Nat}{X:Cx}{aU:List (Addr×Obj)}{σ:St}{H1:Hp}{s1:Shared}{Q Q1:VK}{aw f:Addr}{ws:List V}{R:List V->Hp->VK->Prop}{G:Nat->List V->Hp->Prop}(I:Inv X aU σ H1 s1)(hex:X.ex=[])(sm:aW X.H₀ H1)
  (D:uZ k P w K mg base X.s₀ X.H₀ Q aw f ws R G) (q:∀u H',aW H1 H'->Q u H'->Q1 u H'):uZ k P w K mg base s1 H1 Q1 aw f ws R G:=
 ⟨sm.bc D.wU,D.len,oj.on I hex sm D.fn,D.mono _ _ _ _ D.g0 sm.tup,D.mono,D.ij,D.kind,D.num,D.word,D.first,λtd kvs vs v H' s' h1 h2 h3=>q _ _ s' (D.fin td kvs vs v H' (sm.trans s') h1 h2 h3)⟩
def Sh(Q:VK):VK:=λu H'=>∃td kvs v,u=.ref td/\H' td=some (.dK kvs)/\da kvs (Sum.inl 0)=some v/\Q v H'
def Si(k:Nat)(P:Program)(w:World)(K:Frag)(mg:Str->Option Value)(base:Heap)(s:Shared):Sp:=λvs H Q _=>∃(aw f:Addr)(ws:List V)(R:List V->Hp->VK->Prop)(G:Nat->List V->Hp->Prop),vs=[.ref aw,.ref f]/\uZ k P w K mg base s H (Sh Q) aw f ws R G
theorem Sj:dy ["words","made"] ["words","made"] (cu Eg):=dI rfl rfl rfl (by decide +kernel) rfl
theorem Sk{k:Nat}{fA:Addr}{iO:FuncData}(F:cJ K "folded" "folded" Eg f fd)
  (GA:pX P w K mg base (k+1) fA iO ["words","made"] (u9 k P w K mg base)) (kA:Kp K fA) (bA:Binds K iO ["words","made"] []) (mA:Mg mg "all_folded" fA):pX P w K mg base (k+2) f fd ["words","made"] (Si k P w K mg base):=by
 refine F.Jw Sj (λs vs H Q E h=>?_) (λcz A outer s H vs Q E hr h=>?_)
 ·obtain⟨aw,f,ws,R,G,rfl,_⟩:=h;rfl
 ·obtain⟨aw,fm,ws,R,G,rfl,D⟩:=h;refine⟨_,bY (cC (gJ (oS hr) (yT GA hr rf mA kA bA (aV (pv 0) (aV (pv 1) aZ))) ba)),?_⟩;refine⟨_,rf,_,rf,λaU s1 I=>⟨aw,fm,ws,R,G,_,rf,uZ.all (uZ.on I rf (.refl _) D λu H' _ ⟨td,kvs,v,e,h1,h2,h3⟩=>?_)⟩⟩;exact⟨td,v,e,h2▸eI.k (k:=Sum.inl 0) h1,h3⟩
def Sl(K:Frag):Sp:=λvs H Q _=>∃(aw:Addr)(x:Str)(l r:Nat)(aY:LL),vs=[.ref aw]/\bq K H aw [.str x]/\(x,l,r,aY)∈ip/\∀v H',aW H H'->bq K H' v [.int (l:Int),.int (r:Int),.df]->Q (.ref v) H'
theorem Sm:∀e∈ip,kY e.1=0:=by decide +kernel
theorem acx:dy ["words"] ["words"] (cu JG):=dI rfl rfl rfl (by decide +kernel) rfl
theorem Sn{fF fM:Addr}{nj ff:FuncData}(F:cJ K "measured" "measured" JG f fd)
  (GF:pX P w K mg base 3 fF nj ["words","made"] (Si 1 P w K mg base)) (kF:Kp K fF) (bF:Binds K nj ["words","made"] []) (mF:Mg mg "folded" fF)
  (GM:cc P w K mg base cb 1 fM ff ["place","word","parts"] (Kx K)) (FM:cJ K "measure" "measure" Ei fM ff) (bM:Binds K ff ["place","word","parts"] []) (mM:Mg mg "measure" fM):cc P w K mg base cb 4 f fd ["words"] (Sl K):=by
 refine F.ok acx (λvs H Q E h=>?_) (λcz A outer s H vs Q E hr h=>?_)
 ·obtain⟨aw,x,l,r,aY,rfl,_⟩:=h;rfl
 ·obtain⟨aw,x,l,r,aY,rfl,hw,hx,q⟩:=h;refine⟨_,bY (cC (yT GF hr rf mF kF bF (aV (pv 0) (aV (pJ (v:=.ref _) rf mM rf) aZ)))),?_⟩;refine⟨_,rf,λaU s1 I=>⟨aw,fM,[.str x],λvs H' Q=>Kx K vs H' Q E0,λi vs H'=>(i=1/\vs=[])\/(i=0/\∃v,vs=[.ref v]/\bq K H' v [.int (l:Int),.int (r:Int),.df]),rf,?_⟩⟩;refine⟨hw,by simp,oj.JA GM FM bM,.inl ⟨rf,rf⟩,λi vs H1 H2 h tp=>?_,λi vs H1 h=>?_,λi hi=>?_,λi n vs H1 h=>?_,λi y vs H1 h g=>?_,⟨x,rf⟩,λtd kvs vs v H' s' h1 h2 h3=>?_⟩
  ·rcases h with h|⟨h1,v,h2,h3⟩
   ·exact .inl h
   ·exact .inr ⟨h1,v,h2,tp.bc h3⟩
  ·rcases h with⟨_,h⟩|⟨_,v,h,_⟩<;>(rw[h];simp)
  ·have:i=0:=by simpa using hi
   subst this;exact .inl ⟨x,rf⟩
  ·match i,h with
   |0,h=>cases h
   |_+1,h=>cases h
  ·match i,h with
   |0,h=>
    cases h;rcases g with⟨_,g⟩|⟨g,_⟩
    ·refine⟨[],[],by rw[g];rfl,(Sm _ hx).symm,λpa H2 Q' tp hp hq=>⟨_,x,pa,l,r,aY,rfl,hx,λv H3 s3 hv=>hq (.ref v) H3 s3 (.inr ⟨rfl,v,rfl,hv⟩)⟩⟩
    ·exact absurd g (by decide)
   |_+1,h=>cases h
  ·rcases h3 with⟨z,_⟩|⟨_,v',z,hv⟩
   ·exact absurd z (by decide)
   ·have e:vs=[]/\v=.ref v':=by
     cases vs with
     |nil=>exact⟨rf,by simpa using z⟩
     |cons a vs=>simp at z
    obtain⟨rfl,rfl⟩:=e;exact⟨td,kvs,_,rf,h1,h2,q v' H' s' hv⟩
def So(K:Frag):Sp:=λvs H Q _=>∃(aw:Addr)(x:Str)(l r:Nat)(aY:LL),vs=[.ref aw]/\bq K H aw [.str x]/\(x,l,r,aY)∈ip/\∀v H',aW H H'->bq K H' v [.int (l:Int),.int (r:Int)]->Q (.ref v) H'
theorem acy:dy ["words"] ["words"] (cu JE):=dI rfl rfl rfl (by decide +kernel) rfl
theorem Sr{fM:Addr}{ff:FuncData}(F:cJ K "wires" "wires" JE f fd)
  (GM:cc P w K mg base cb 4 fM ff ["words"] (Sl K)) (kM:Kp K fM) (bM:Binds K ff ["words"] []) (mM:Mg mg "measured" fM):cc P w K mg base cb 5 f fd ["words"] (So K):=by
 refine F.ok acy (λvs H Q E h=>?_) (λcz A outer s H vs Q E hr h=>?_)
 ·obtain⟨aw,x,l,r,aY,rfl,_⟩:=h;rfl
 ·obtain⟨aw,x,l,r,aY,rfl,hw,hx,q⟩:=h;refine⟨_,bY (cC (nT (sZ K rf) (cK GM hr rf mM kM bM .nil cL (aV (pv 0) aZ)) mQ (lT ba))),?_⟩;refine⟨_,rf,aw,x,l,r,aY,rf,hw,hx,λv H1 s1 hv=>?_⟩;exact⟨_,rf,v,_,rf,hv,λt H2 s2 ht=>q t H2 (s1.trans s2) ht⟩
def Ss(K:Frag)(H:Hp)(a:Addr)(l r:Nat)(aY:LL):Prop:=∃(t:Addr)(RS:List V),bq K H a [.int (l:Int),.int (r:Int),.ref t]/\bq K H t RS/\cW K H RS (aY.map gY)
noncomputable def za(l r:Nat)(row:List Int):List Int:=(row.drop l).take r++(row.take l++row.drop (l+r))
theorem acz(h:row.length=l+r+x):(za l r row).length=r+l+x:=by
 unfold za;simp only[cm,gy,jW];lia
theorem acA(h:Rw p (l+r+x) row):Rw p (r+l+x) (za l r row):=by
 refine⟨acz h.1,λx hx=>h.2 x ?_⟩;unfold za at hx;rcases(cN.mp hx)with z|z
 ·exact pC (pB z)
 ·rcases(cN.mp z)with z|z
  ·exact pB z
  ·exact pC z
theorem Su:∀e∈ip,e.1 ≠ "back"/\e.1 ≠ "beside"/\e.1 ≠ "then"/\e.1 ≠ "times":=by decide +kernel
theorem tJ{x y:Str}(h:x≠y)(b:B):if decide (V.str x=V.str y)=true then A else B:=by
 rw[ae (λz=>h (V.str.inj z))];exact dB b
theorem Ky{x:V}(a:A):if decide (x=x)=true then A else B:=by
 rw[aD rfl];exact eC a
theorem Kz{b:Bool}(h:b=false)(q:B):if(if false=true then !b else b)=true then A else B:=by
 subst h;simpa using q
theorem Sv{ts es:List Expr}{k:Nat}{pos:Pos}{env:Env}:starEach (.Tuple ts k pos::es) env=(false,eval (.Tuple ts k pos) env)::starEach es env:=by rfl
theorem KA{c:Const}{k:Nat}{es:List Expr}{pos:Pos}{env:Env}:starEach (.Constant c k pos::es) env=(false,eval (.Constant c k pos) env)::starEach es env:=by rfl
theorem ts1:("times":Str) ≠ "back":=by decide +kernel
theorem ts2:("times":Str) ≠ "beside":=by decide +kernel
theorem ts3:("times":Str) ≠ "then":=by decide +kernel
theorem acB:dy ["p","word","parts"] ["p","word","parts"] (cu JJ):=dI rfl rfl rfl (by decide +kernel) rfl
def Sw(K:Frag):Sp:=λvs H Q _=>∃(aw:Addr)(ws:List V),vs=[.ref aw]/\bq K H aw ws/\ws.all qO=true/\qP (.str "late") ws=false/\Q .df H
theorem acC:dy ["words"] ["words"] (cu JI):=dI rfl rfl rfl (by decide +kernel) rfl
theorem Sx(F:cJ K "refuse_late" "refuse_late" JI f fd):cc P w K mg base cb 1 f fd ["words"] (Sw K):=by
 refine F.ok acC (λvs H Q E h=>?_) (λcz A outer s H vs Q E hr h=>?_)
 ·obtain⟨aw,ws,rfl,_⟩:=h;rfl
 ·obtain⟨aw,ws,rfl,hw,hf,hn,q⟩:=h;refine⟨_,bY (dj (cS (QL K rf) dh (pv 0) rf) (bY Zt) dz),?_⟩;exact⟨_,rf,aw,ws,rf,.inr hw,rf,hf,_,rf,Kz hn q⟩
noncomputable def del(Pt:Addr)(H:Hp):Hp:=λb=>if b=Pt then none else H b
section
variable{K:Frag}{H H':Hp}{Pt a b:Addr}{ps:Array Value}{xs:List V}{o:HO}
theorem om(h:b≠Pt):del Pt H b=H b:=ag h
theorem lg(e:del Pt H b=some o):b≠Pt/\H b=some o:=by
 by_cases hb:b=Pt
 ·rw[del,af hb]at e;cases e
 ·exact⟨hb,(om hb).symm.trans e⟩
theorem aW.del(h:aW H H'):aW (del Pt H) (del Pt H'):=λb o e=>by rw[om (lg e).1];exact h b o (lg e).2
end
theorem Sy:kY "back"=1:=by decide +kernel
theorem KC:kY "times"=1:=by decide +kernel
def fe(te:TE)(σ:St)(H:Hp)(k:Int):Prop:=∀H',aW H H'->∀R:VK,R (.int k) H'->te σ H' R
section
variable{K:Frag}{σ:St}{H:Hp}
theorem jR{k:Int}:fe (tC (.int k)) σ H k:=λ_ _ _ q=>q
theorem eE{k:Int}(h:σ[i]?=some (some (.int k))):fe (bg i) σ H k:=λ_ _ _ q=>⟨_,h,q⟩
theorem o7{a:Addr}{xs:List V}{j:Nat}{k:Int}(h:σ[i]?=some (some (.ref a)))(ha:bq K H a xs)(hj:xs[j]?=some (.int k)):fe (cO (sH K) (bg i) (tC (.int (j:Int)))) σ H k:=
 λ_ s _ q=>⟨_,h,a,xs,(j:Int),_,rfl,rfl,s.bc ha,bX hj,q⟩
theorem ke{ta tb:TE}{i j:Int}(h1:fe ta σ H i)(h2:fe tb σ H j):fe (cO (jx λi j=>.int (i+j)) ta tb) σ H (i+j):=λH' s _ q=>h1 H' s _ (h2 H' s _ ⟨i,j,rfl,rfl,q⟩)
end
noncomputable def EJ(l r l' r':Nat)(row:List Int):List Int:=row.take l++List.replicate l' 0++(row.drop l).take r++List.replicate r' 0++row.drop (l+r)
noncomputable def EK(l r l':Nat)(row:List Int):List Int:=List.replicate l 0++row.take l'++List.replicate r 0++row.drop l'
noncomputable def Sz(l r l' r':Nat)(aY rows':LL):LL:=aY.map (EJ l r l' r')++rows'.map (EK l r l')
theorem acD(p0:0<p)(h:Rw p (l+r+x) row):Rw p (l+l'+(r+r')+x) (EJ l r l' r' row):=by
 refine⟨?_,λy hx=>?_⟩
 ·unfold EJ
  have:=h.1
  simp only[cm,gy,jW,zV];lia
 ·unfold EJ at hx;simp only[cN,List.mem_replicate]at hx;rcases hx with(((z|⟨_,rfl⟩)|z)|⟨_,rfl⟩)|z
  ·exact h.2 y (pB z)
  ·lia
  ·exact h.2 y (pC (pB z))
  ·lia
  ·exact h.2 y (pC z)
theorem acE(p0:0<p)(h:Rw p (l'+r'+x) row):Rw p (l+l'+(r+r')+x) (EK l r l' row):=by
 refine⟨?_,λy hx=>?_⟩
 ·unfold EK
  have:=h.1
  simp only[cm,gy,jW,zV];lia
 ·unfold EK at hx;simp only[cN,List.mem_replicate]at hx;rcases hx with((⟨_,rfl⟩|z)|⟨_,rfl⟩)|z
  ·lia
  ·exact h.2 y (pB z)
  ·lia
  ·exact h.2 y (pC z)
theorem acF{aY:LL}(p0:0<p)(h:fY p (l+r+x) aY)(h':fY p (l'+r'+x) rows'):fY p (l+l'+(r+r')+x) (Sz l r l' r' aY rows'):=λw hx=>by
 rcases(cN.mp hx)with z|z
 ·obtain⟨y,hy,e⟩:=dD.mp z;rw[<- e];exact acD p0 (h y hy)
 ·obtain⟨y,hy,e⟩:=dD.mp z;rw[<- e];exact acE p0 (h' y hy)
abbrev eJ(K:Frag)(i:Nat)(j:Int):TE:=cO (sH K) (bg i) (tC (.int j))
abbrev g8(K:Frag)(ta tb:TE):TE:=cO (Jc K) ta tb
abbrev kf(ta tb:TE):TE:=cO (jx λi j=>.int (i+j)) ta tb
noncomputable def EL(l m r':Nat)(row:List Int):List Int:=(row.drop l).take m++row.take l++List.replicate r' 0++row.drop (l+m)
noncomputable def EN(p:Int)(l m:Nat)(row:List Int):List Int:=(row.take m).map (λn=>(-n)%p)++List.replicate l 0++row.drop m
noncomputable def SA(p:Int)(l m r':Nat)(aY rows':LL):LL:=aY.map (EL l m r')++rows'.map (EN p l m)
noncomputable def acG(m:Nat)(row:List Int):Bool:=!((row.take m).any λn=>n != 0)
noncomputable def EO(p:Int)(l m r':Nat)(aY rows':LL):LL:=((ng p (SA p l m r' aY rows')).filter (acG m)).map (λrow=>row.drop m)
theorem acH(p0:0<p)(h:Rw p (l+m+x) row):Rw p (m+(l+r')+x) (EL l m r' row):=by
 refine⟨?_,λy hx=>?_⟩
 ·unfold EL
  have:=h.1
  simp only[cm,gy,jW,zV];lia
 ·unfold EL at hx;simp only[cN,List.mem_replicate]at hx;rcases hx with((z|z)|⟨_,rfl⟩)|z
  ·exact h.2 y (pC (pB z))
  ·exact h.2 y (pB z)
  ·lia
  ·exact h.2 y (pC z)
theorem acI(p0:0<p)(h:Rw p (m+r'+x) row):Rw p (m+(l+r')+x) (EN p l m row):=by
 refine⟨?_,λy hx=>?_⟩
 ·unfold EN
  have:=h.1
  simp only[cm,bu,gy,jW,zV];lia
 ·unfold EN at hx;simp only[cN,List.mem_replicate,dD]at hx;rcases hx with(⟨w,_,rfl⟩|⟨_,rfl⟩)|z
  ·exact⟨qB _ (by lia),qC _ p0⟩
  ·lia
  ·exact h.2 y (pC z)
theorem SD{aY:LL}(p0:0<p)(h:fY p (l+m+x) aY)(h':fY p (m+r'+x) rows'):fY p (m+(l+r')+x) (SA p l m r' aY rows'):=λw hx=>by
 rcases(cN.mp hx)with z|z
 ·obtain⟨y,hy,e⟩:=dD.mp z;rw[<- e];exact acH p0 (h y hy)
 ·obtain⟨y,hy,e⟩:=dD.mp z;rw[<- e];exact acI p0 (h' y hy)
theorem acJ(pp:p∈ig){aY:LL}(h:fY p (l+m+x) aY)(h':fY p (m+r'+x) rows'):fY p (l+r'+x) (EO p l m r' aY rows'):=λw hx=>by
 have p0:0<p:=by have:=jf p pp;lia
 obtain⟨y,hy,e⟩:=dD.mp hx;have DE:=(A0 pp (SD p0 h h')).rws y (jV.mp hy).1;rw[<- e];refine⟨by rw[jW,DE.1];lia,λz hz=>DE.2 z (pC hz)⟩
theorem acK(pp:p∈ig){aY:LL}(h:fY p (l+m+x) aY)(h':fY p (m+r'+x) rows'):(EO p l m r' aY rows').length<=m+(l+r')+x:=by
 have p0:0<p:=by have:=jf p pp;lia
 have:=Kb (SD p0 h h')
 unfold EO;rw[bu];exact gn (vW _ _) this
theorem KD:("beside":Str) ≠ "back":=by decide +kernel
inductive Drw where
 |box (x:Str) (l r:Nat) (aY:LL)
 |times (n:Int)
 |back (d:Drw)
 |cD (a b:Drw)
 |bj (a b:Drw)
namespace Drw
noncomputable def aX:Drw->List V
 |box x _ _ _=>[.str x]
 |times n=>[.str "times",.int n]
 |back d=>.str "back"::d.aX
 |cD a b=>.str "beside"::(a.aX++b.aX)
 |bj a b=>.str "then"::(a.aX++b.aX)
noncomputable def dN:Drw->Nat×Nat
 |box _ l r _=>(l,r)
 |times _=>(1,1)
 |back d=>(d.dN.2,d.dN.1)
 |cD a b=>(a.dN.1+b.dN.1,a.dN.2+b.dN.2)
 |bj a b=>(a.dN.1,b.dN.2)
noncomputable abbrev bh(d:Drw):Nat:=d.dN.1
noncomputable abbrev bf(d:Drw):Nat:=d.dN.2
def wf(p:Int):Drw->Prop
 |box x l r aY=>(x,l,r,aY)∈ip
 |times n=>0<=n/\n<p
 |back d=>d.wf p
 |cD a b=>a.wf p/\b.wf p
 |bj a b=>a.wf p/\b.wf p/\a.bf=b.bh
noncomputable def aY(p:Int):Drw->LL
 |box _ _ _ aY=>aY
 |times n=>[[1,n]]
 |back d=>ng p ((d.aY p).map (za d.bh d.bf))
 |cD a b=>ng p (Sz a.bh a.bf b.bh b.bf (a.aY p) (b.aY p))
 |bj a b=>EO p a.bh a.bf b.bf (a.aY p) (b.aY p)
theorem pos(d:Drw):1<=d.aX.length:=by cases d<;>simp[aX]
end Drw
theorem ER:∀e∈ip,e.2.1<=2/\e.2.2.1<=2/\e.2.2.2.length<=2/\∀r∈e.2.2.2,r.length=e.2.1+e.2.2.1/\∀x∈r,0<=x/\x<2:=by decide +kernel
namespace Drw
theorem ij{p:Int}:∀{d:Drw},d.wf p->d.bh<=d.aX.length+1/\d.bf<=d.aX.length+1
 |box x l r aY,h=>by
  obtain⟨h1,h2,_⟩:=ER _ h;exact⟨h1,h2⟩
 |times n,_=>by simp[bh,bf,dN,aX]
 |back d,h=>by
  have:=ij (d:=d) h
  simp only[bh,bf,dN,aX,dW]at this |-;lia
 |cD a b,h=>by
  have h1:=ij (d:=a) h.1;have h2:=ij (d:=b) h.2;simp only[bh,bf,dN,aX,dW,cm]at h1 h2 |-;lia
 |bj a b,h=>by
  have h1:=ij (d:=a) h.1;have h2:=ij (d:=b) h.2.1;simp only[bh,bf,dN,aX,dW,cm]at h1 h2 |-;lia
def sm:Drw->Prop
 |back d=>d.sm
 |cD a b=>a.sm/\b.sm/\a.bh+b.bh<=100/\a.bf+b.bf<=100
 |bj a b=>a.sm/\b.sm
 |_=>True
theorem zb{p:Int}:∀{d:Drw},d.wf p->d.aX.length<=99->d.sm
 |box ..,_,_=>trivial
 |times _,_,_=>trivial
 |back d,h,hl=>zb (d:=d) h (by simp only[aX,dW]at hl;lia)
 |cD a b,h,hl=>by
  have hf:=ij (d:=cD a b) h;simp only[bh,bf,dN]at hf;have nY:=hl;simp only[aX,dW,cm]at nY;exact⟨zb h.1 (by lia),zb h.2 (by lia),by simp only[bh];lia,by simp only[bf];lia⟩
 |bj a b,h,hl=>by
  simp only[aX,dW,cm]at hl;exact⟨zb h.1 (by lia),zb h.2.1 (by lia)⟩
theorem good{p:Int}(pp:p∈ig):∀{d:Drw},d.wf p->d.sm->d.bh<=100/\d.bf<=100/\(d.aY p).length<=400/\fY p (d.bh+d.bf) (d.aY p)
 |box x l r aY,h,_=>by
  obtain⟨p2,_⟩:=jf p pp;obtain⟨h1,h2,h3,h4⟩:=ER _ h;refine⟨gn h1 (by decide),gn h2 (by decide),gn h3 (by decide),λr hr=>⟨(h4 r hr).1,λx hx=>?_⟩⟩
  have:=(h4 r hr).2 x hx
  lia
 |times n,h,_=>by
  obtain⟨p2,_⟩:=jf p pp;refine⟨by show 1<=100;decide,by show 1<=100;decide,by show 1<=400;decide,λr hr=>?_⟩;rw[cA.mp hr];refine⟨rf,λx hx=>?_⟩;rcases(cV.mp hx)with z|z
  ·subst z;lia
  ·rw[cA.mp z];exact h
 |back d,h,hl=>by
  obtain⟨a1,a2,a3,a4⟩:=good pp (d:=d) h hl;have hS:fY p (d.bf+d.bh) ((d.aY p).map (za d.bh d.bf)):=λx hx=>by
   obtain⟨y,hy,e⟩:=dD.mp hx;rw[<- e];exact acA (x:=0) (a4 y hy)
  have:=Kb hS
  exact⟨a2,a1,gn this (by lia),(A0 pp hS).rws⟩
 |cD a b,h,hl=>by
  obtain⟨p2,_⟩:=jf p pp;obtain⟨a1,a2,a3,a4⟩:=good pp (d:=a) h.1 hl.1;obtain⟨b1,b2,b3,b4⟩:=good pp (d:=b) h.2 hl.2.1;have hS:=acF (x:=0) (by lia) a4 b4;have hz:=Kb hS;have h3:=hl.2.2.1;have h4:=hl.2.2.2;exact⟨h3,h4,gn hz (by lia),(A0 pp hS).rws⟩
 |bj a b,h,hl=>by
  obtain⟨a1,a2,a3,a4⟩:=good pp (d:=a) h.1 hl.1;obtain⟨b1,b2,b3,b4⟩:=good pp (d:=b) h.2.1 hl.2;have b4:fY p (a.bf+b.bf) (b.aY p):=by rw[h.2.2];exact b4
  have hz:=acK (x:=0) pp a4 b4;exact⟨a1,b2,gn hz (by lia),acJ (x:=0) pp a4 b4⟩
end Drw
inductive Itm where
 |num (n:Int)
 |bK (d:Drw)
namespace Itm
noncomputable def aX:Itm->List V
 |num n=>[.int n]
 |bK d=>d.aX
noncomputable def head:Itm->V
 |num n=>.int n
 |bK (.box x _ _ _)=>.str x
 |bK (.times _)=>.str "times"
 |bK (.back _)=>.str "back"
 |bK (.cD _ _)=>.str "beside"
 |bK (.bj _ _)=>.str "then"
noncomputable def kids:Itm->List Itm
 |num _=>[]
 |bK (.box _ _ _ _)=>[]
 |bK (.times n)=>[num n]
 |bK (.back d)=>[bK d]
 |bK (.cD a b)=>[bK a,bK b]
 |bK (.bj a b)=>[bK a,bK b]
theorem zc(t:Itm):t.aX=t.head::t.kids.flatMap aX:=by
 cases t with
 |num n=>rfl
 |bK d=>cases d<;>simp[aX,head,kids,Drw.aX]
theorem pos(t:Itm):1<=t.aX.length:=by rw[zc];simp
def wf(p:Int):Itm->Prop
 |num _=>True
 |bK d=>d.wf p/\d.sm
theorem acL{t:Itm}(h:t.wf p):∀u∈t.kids,u.wf p:=by
 cases t with
 |num n=>intro u hu;cases hu
 |bK d=>
  obtain⟨h1,h2⟩:=h;cases d with
  |box=>intro u hu;cases hu
  |times n=>intro u hu;rw[cA.mp hu];exact True.intro
  |back d=>
   intro u hu;rw[cA.mp hu];exact⟨h1,h2⟩
  |cD a b=>
   intro u hu;rcases(cV.mp hu)with z|z
   ·rw[z];exact⟨h1.1,h2.1⟩
   ·rw[cA.mp z];exact⟨h1.2,h2.2.1⟩
  |bj a b=>
   intro u hu;rcases(cV.mp hu)with z|z
   ·rw[z];exact⟨h1.1,h2.1⟩
   ·rw[cA.mp z];exact⟨h1.2.1,h2.2⟩
end Itm
noncomputable def dm:List Itm->Nat->List Itm
 |ts,0=>ts
 | [],_+1=>[]
 |t::ts,i+1=>dm (t.kids++ts) i
theorem Bz(i:Nat):dm [] i=[]:=by cases i<;>rfl
theorem wW:∀(i:Nat)(ts:List Itm),(dm ts i).flatMap Itm.aX=(ts.flatMap Itm.aX).drop i
 |0,ts=>rfl
 |i+1,[]=>rfl
 |i+1,t::ts=>by
  show(dm (t.kids++ts) i).flatMap Itm.aX=_;rw[wW i,List.flatMap_append,zY,Itm.zc,uv,List.drop_succ_cons]
theorem va:∀(i:Nat)(ts:List Itm),dm ts (i+1)=dm (dm ts i) 1
 |0,ts=>rfl
 |i+1,[]=>by rw[Bz,Bz];rfl
 |i+1,t::ts=>by
  show dm (t.kids++ts) (i+1)=dm (dm (t.kids++ts) i) 1;exact va i _
theorem SE{p:Int}:∀(i:Nat){ts:List Itm},(∀t∈ts,t.wf p)->∀t∈dm ts i,t.wf p
 |0,ts,h=>h
 |i+1,[],h=>by intro t ht;rw[Bz]at ht;cases ht
 |i+1,t::ts,h=>SE i (ts:=t.kids++ts) λu hu=>by
  rcases(cN.mp hu)with z|z
  ·exact Itm.acL (h t cQ) u z
  ·exact h u (dU _ z)
theorem vb(h:i<(ts.flatMap Itm.aX).length):∃t r,dm ts i=t::r/\(ts.flatMap Itm.aX)[i]?=some t.head/\dm ts (i+1)=t.kids++r:=by
 have e:=wW i ts;cases hs:dm ts i with
 |nil=>
  rw[hs]at e
  have:=aj List.length e
  simp only[List.flatMap_nil,List.length_nil,jW]at this;lia
 |cons t r=>
  refine⟨t,r,rf,?_,by rw[va,hs];rfl⟩;rw[hs,zY,Itm.zc,uv]at e;have z:((ts.flatMap Itm.aX).drop i)[0]?=some t.head:=by rw[<- e];rfl
  rwa[List.getElem?_drop,Nat.add_zero]at z
theorem ES:∀ts:List Itm,ts.length<=(ts.flatMap Itm.aX).length
 | []=>jv _
 |t::ts=>by
  have:=ES ts
  have:=t.pos
  rw[zY,cm,dW];lia
theorem ET:dm ts (ts.flatMap Itm.aX).length=[]:=by
 have e:=ES (dm ts (ts.flatMap Itm.aX).length);rw[wW,List.drop_length]at e;exact List.eq_nil_of_length_eq_zero (Nat.le_zero.mp e)
theorem SF:(dm ts i).length<=(ts.flatMap Itm.aX).length:=by
 have e:=ES (dm ts i);rw[wW,jW]at e;lia
end S21
namespace S21
open PySem L2 Bw
variable{L:LL}{a b:Int}{f:Fn}{n:Nat}{r:List Int}
theorem SG:∀e∈ip,kY e.1=0:=Sm
theorem SH:kY "beside"=2:=by decide +kernel
theorem SI:kY "then"=2:=by decide +kernel
theorem acM:∀e∈ip,lU (.str e.1) (.str "late")=false:=by decide +kernel
theorem EU:lU (.str "back") (.str "late")=false/\lU (.str "beside") (.str "late")=false/\lU (.str "then") (.str "late")=false/\lU (.str "times") (.str "late")=false:=by decide +kernel
theorem acN(n:Int):lU (.int n) (.str "late")=false:=rfl
theorem Drw.zd{p:Int}:∀{d:Drw},d.wf p->∀v∈d.aX,qO v=true/\lU v (.str "late")=false
 | .box x l r aY,h=>λv hv=>by
  rw[cA.mp hv];exact⟨rf,acM _ h⟩
 | .times n,_=>λv hv=>by
  rcases(cV.mp hv)with z|z
  ·rw[z];exact⟨rf,EU.2.2.2⟩
  ·rw[cA.mp z];exact⟨rf,acN n⟩
 | .back d,h=>λv hv=>by
  rcases(cV.mp hv)with z|z
  ·rw[z];exact⟨rf,EU.1⟩
  ·exact Drw.zd (d:=d) h v z
 | .cD a b,h=>λv hv=>by
  rcases(cV.mp hv)with z|z
  ·rw[z];exact⟨rf,EU.2.1⟩
  ·rcases(cN.mp z)with z|z
   ·exact Drw.zd (d:=a) h.1 v z
   ·exact Drw.zd (d:=b) h.2 v z
 | .bj a b,h=>λv hv=>by
  rcases(cV.mp hv)with z|z
  ·rw[z];exact⟨rf,EU.2.2.1⟩
  ·rcases(cN.mp z)with z|z
   ·exact Drw.zd (d:=a) h.1 v z
   ·exact Drw.zd (d:=b) h.2.1 v z
section
variable{K:Frag}{p:Int}{H H':Hp}
end
theorem acO{p:Int}{L':LL}:Sp p (RS (L++L')) f↔∃u v,Sp p (RS L) u/\Sp p (RS L') v/\o3 p (λj=>u j+v j) f:=by
 constructor
 ·intro h;induction h with
  |zero=>exact⟨_,_,.zero,.zero,λj=>⟨0,by simp⟩⟩
  | @add v r c _ hr ih=>
   obtain⟨u,v',hu,hv,e⟩:=ih;obtain⟨q,hq,rfl⟩:=hr;rcases(cN.mp hq)with z|z
   ·refine⟨_,v',hu.add c ⟨q,z,rf⟩,hv,λj=>?_⟩
    have:=e j
    dsimp only at this |-;rwa[show u j+c*fn q j+v' j-(v j+c*fn q j)=u j+v' j-v j by lia]
   ·refine⟨u,_,hu,hv.add c ⟨q,z,rf⟩,λj=>?_⟩
    have:=e j
    dsimp only at this |-;rwa[show u j+(v' j+c*fn q j)-(v j+c*fn q j)=u j+v' j-v j by lia]
  |eQ _ e ih=>
   obtain⟨u,v',hu,hv,e'⟩:=ih;exact⟨u,v',hu,hv,e'.trans e⟩
 ·rintro⟨u,v,hu,hv,e⟩;have h1:Sp p (RS (L++L')) u:=JC (λr hr=>JD (eV _ hr)) hu;have h2:Sp p (RS (L++L')) v:=JC (λr hr=>JD (dZ _ hr)) hv;exact .eQ ((h1.plus 1 h2).of_eq λj=>by rw[Int.one_mul]) e
section
variable{p:Int}{f:Fn}
theorem acP{w:Fn}{j:Nat}(hL:∀r∈L,r.getD j 0=0)(h:Sp p (RS L) w):p∣w j:=by
 induction h with
 |zero=>exact⟨0,by simp⟩
 | @add v r c _ hr ih=>
  obtain⟨q,hq,rfl⟩:=hr;show p∣v j+c*q.getD j 0;rw[hL q hq];simpa using ih
 |eQ _ e ih=>
  have:=pA ih (e j)
  rename_i u v _
  rwa[show v j-(v j-u j)=u j by lia]at this
end
section
variable{p:Int}{f:Fn}
theorem l5:Sp p (RS []) f↔∀j,p∣f j:=by
 constructor
 ·intro h j;exact acP (λr hr=>absurd hr (by simp)) h
 ·intro h;refine .eQ .zero λj=>?_
  have:=Int.dvd_neg.mpr (h j)
  show p∣0-f j;rwa[show(0:Int)-f j=-f j by lia]
theorem pU:Sp p (RS (r::L)) f↔∃c:Int,Sp p (RS L) (λj=>f j-c*fn r j):=by
 constructor
 ·intro h;obtain⟨u,v,hu,hv,e⟩:=(acO (L:=[r]) (L':=L)).mp h;have h1:∃c:Int,o3 p (λj=>c*fn r j) u:=by
   clear e hv h;induction hu with
   |zero=>exact⟨0,λj=>⟨0,by simp⟩⟩
   | @add v q c _ hq ih=>
    obtain⟨c0,h0⟩:=ih;obtain⟨q,hq,rfl⟩:=hq;rw[cA.mp hq];refine⟨c0+c,λj=>?_⟩
    have:=h0 j
    dsimp only at this |-;rwa[show(c0+c)*fn r j-(v j+c*fn r j)=c0*fn r j-v j by rw[Int.add_mul];lia]
   |eQ _ e ih=>
    obtain⟨c0,h0⟩:=ih;exact⟨c0,h0.trans e⟩
  obtain⟨c,hc⟩:=h1;refine⟨c,.eQ hv λj=>?_⟩
  have:=Int.dvd_add (e j) (hc j)
  dsimp only at this |-;rwa[show u j+v j-f j+(c*fn r j-u j)=v j-(f j-c*fn r j) by lia]at this
 ·rintro⟨c,h⟩;have h1:Sp p (RS (r::L)) (λj=>f j-c*fn r j):=JC (λq hq=>JD (dU _ hq)) h;exact(h1.add c ⟨r,cQ,rf⟩).of_eq λj=>by lia
def Nil(p:Int)(f:Fn)(n:Nat):Prop:=∀j,n<=j->p∣f j
theorem SJ:Sp p (RS [[1,1]]) f↔p∣f 1-f 0/\Nil p f 2:=by
 rw[pU];constructor
 ·rintro⟨c,h⟩;have h:=l5.mp h;have h0:=h 0;have h1:=h 1;simp only[fn,C4,C5]at h0 h1;refine⟨?_,λj hj=>?_⟩
  ·have:=pA h1 h0
   rwa[show f 1-c*1-(f 0-c*1)=f 1-f 0 by lia]at this
  ·have:=h j
   have e:fn [1,1] j=0:=by unfold fn;rw[eG,jJ (by simpa using hj)];rfl
   rw[e]at this;simpa using this
 ·rintro⟨h,hn⟩;refine⟨f 0,l5.mpr λj=>?_⟩
  match j with
  |0=>simp[fn]
  |1=>simpa[fn]using h
  |j+2=>simpa[fn]using hn (j+2) (by lia)
theorem acQ{n:Int}:Sp p (RS [[1,n]]) f↔p∣f 1-n*f 0/\Nil p f 2:=by
 rw[pU];constructor
 ·rintro⟨c,h⟩;have h:=l5.mp h;have h0:=h 0;have h1:=h 1;simp only[fn,C4,C5]at h0 h1;refine⟨?_,λj hj=>?_⟩
  ·have:=pA h1 (oG (b:=n) h0)
   rwa[show f 1-c*n-n*(f 0-c*1)=f 1-n*f 0 by rw[Int.mul_sub,Int.mul_one,Int.mul_comm n c];lia]at this
  ·have:=h j
   have e:fn [1,n] j=0:=by unfold fn;rw[eG,jJ (by simpa using hj)];rfl
   rw[e]at this;simpa using this
 ·rintro⟨h,hn⟩;refine⟨f 0,l5.mpr λj=>?_⟩
  match j with
  |0=>simp[fn]
  |1=>simpa[fn,Int.mul_comm]using h
  |j+2=>simpa[fn]using hn (j+2) (by lia)
theorem acR:Sp p (RS [[1]]) f↔Nil p f 1:=by
 rw[pU];constructor
 ·rintro⟨c,h⟩ j hj
  have:=l5.mp h j
  have e:fn [1] j=0:=by unfold fn;rw[eG,jJ (by simpa using hj)];rfl
  rw[e]at this;simpa using this
 ·intro hn;refine⟨f 0,l5.mpr λj=>?_⟩
  match j with
  |0=>simp[fn]
  |j+1=>simpa[fn]using hn (j+1) (by lia)
theorem acS:Sp p (RS [[1,1,1]]) f↔p∣f 1-f 0/\p∣f 2-f 0/\Nil p f 3:=by
 rw[pU];constructor
 ·rintro⟨c,h⟩;have h:=l5.mp h;have h0:=h 0;have h1:=h 1;have h2:=h 2;simp only[fn,C4,C5]at h0 h1 h2;refine⟨?_,?_,λj hj=>?_⟩
  ·have:=pA h1 h0
   rwa[show f 1-c*1-(f 0-c*1)=f 1-f 0 by lia]at this
  ·have:=pA h2 h0
   rwa[show f 2-c*1-(f 0-c*1)=f 2-f 0 by lia]at this
  ·have:=h j
   have e:fn [1,1,1] j=0:=by unfold fn;rw[eG,jJ (by simpa using hj)];rfl
   rw[e]at this;simpa using this
 ·rintro⟨h1,h2,hn⟩;refine⟨f 0,l5.mpr λj=>?_⟩
  match j with
  |0=>simp[fn]
  |1=>simpa[fn]using h1
  |2=>simpa[fn]using h2
  |j+3=>simpa[fn]using hn (j+3) (by lia)
theorem acT:Sp p (RS [[1,0,1],[0,1,1]]) f↔p∣f 2-(f 0+f 1)/\Nil p f 3:=by
 rw[pU];constructor
 ·rintro⟨c,h⟩;obtain⟨d,h⟩:=pU.mp h;have h:=l5.mp h;have h0:=h 0;have h1:=h 1;have h2:=h 2;simp only[fn,C4,C5]at h0 h1 h2;refine⟨?_,λj hj=>?_⟩
  ·have:=pA (pA h2 h0) h1
   rwa[show f 2-c*1-d*1-(f 0-c*1-d*0)-(f 1-c*0-d*1)=f 2-(f 0+f 1) by lia]at this
  ·have:=h j
   have e1:fn [1,0,1] j=0:=by unfold fn;rw[eG,jJ (by simpa using hj)];rfl
   have e2:fn [0,1,1] j=0:=by unfold fn;rw[eG,jJ (by simpa using hj)];rfl
   rw[e1,e2]at this;simpa using this
 ·rintro⟨h,hn⟩;refine⟨f 0,pU.mpr ⟨f 1,l5.mpr λj=>?_⟩⟩
  match j with
  |0=>simp[fn]
  |1=>simp[fn]
  |2=>
   simp only[fn,C4,C5];rwa[show f 2-f 0*1-f 1*1=f 2-(f 0+f 1) by lia]
  |j+3=>simpa[fn]using hn (j+3) (by lia)
theorem acU:Sp p (RS [[1,0,0,1],[0,1,1,0]]) f↔p∣f 3-f 0/\p∣f 2-f 1/\Nil p f 4:=by
 rw[pU];constructor
 ·rintro⟨c,h⟩;obtain⟨d,h⟩:=pU.mp h;have h:=l5.mp h;have h0:=h 0;have h1:=h 1;have h2:=h 2;have h3:=h 3;simp only[fn,C4,C5]at h0 h1 h2 h3;refine⟨?_,?_,λj hj=>?_⟩
  ·have:=pA h3 h0
   rwa[show f 3-c*1-d*0-(f 0-c*1-d*0)=f 3-f 0 by lia]at this
  ·have:=pA h2 h1
   rwa[show f 2-c*0-d*1-(f 1-c*0-d*1)=f 2-f 1 by lia]at this
  ·have:=h j
   have e1:fn [1,0,0,1] j=0:=by unfold fn;rw[eG,jJ (by simpa using hj)];rfl
   have e2:fn [0,1,1,0] j=0:=by unfold fn;rw[eG,jJ (by simpa using hj)];rfl
   rw[e1,e2]at this;simpa using this
 ·rintro⟨h3,h2,hn⟩;refine⟨f 0,pU.mpr ⟨f 1,l5.mpr λj=>?_⟩⟩
  match j with
  |0=>simp[fn]
  |1=>simp[fn]
  |2=>simpa[fn]using h2
  |3=>simpa[fn]using h3
  |j+4=>simpa[fn]using hn (j+4) (by lia)
end
noncomputable def sh(n:Nat)(f:Fn):Fn:=λj=>f (n+j)
section
variable{p:Int}
theorem tK{e:Int}(h:p∣a)(k:p∣b)(E:e=a+b):p∣e:=by rw[E];exact Int.dvd_add h k
theorem jM{e:Int}(h:p∣a)(k:p∣b)(E:e=a-b):p∣e:=by rw[E];exact pA h k
theorem pZ(E:a=b):p∣a-b:=⟨0,by rw[E];lia⟩
theorem dvn(h:p∣a-b):p∣b-a:=by
 have:=Int.dvd_neg.mpr h
 rwa[show -(a-b)=b-a by lia]at this
def Cg(p:Int)(n:Nat)(f g:Fn):Prop:=∀j,j<n->p∣f j-g j
theorem Cg.refl(n:Nat)(f:Fn):Cg p n f f:=λj _=>pZ rfl
theorem Cg.symm{g:Fn}(h:Cg p n f g):Cg p n g f:=λj hj=>dvn (h j hj)
theorem Cg.sh{n m:Nat}{f g:Fn}(h:Cg p (n+m) f g):Cg p m (S21.sh n f) (S21.sh n g):=λj hj=>h (n+j) (by lia)
theorem Cg.le{m:Nat}{g:Fn}(h:Cg p n f g)(hm:m<=n):Cg p m f g:=λj hj=>h j (by lia)
end
section
variable{p:Int}
def KG(w c n s:Nat):Prop:=(c<=s/\s<c+n)\/(w+c<=s/\s<w+c+n)
instance (w c n s:Nat):Decidable (KG w c n s):=by unfold KG;infer_instance
end
section
variable{p:Int}
noncomputable def part(bp b w c n:Nat)(g f:Fn):Fn:=λj=>if j<bp then g j else if KG w c n (j-bp)then f (b+(j-bp))else 0
end
section
variable{p:Int}
abbrev acV:=List Int->List Int->List Int×List Int
theorem acW{s:List Int}{j:Nat}(h:j<r.length):fn (r++s) j=fn r j:=by
 unfold fn;rw[eG,eG,iK h]
theorem acX{s:List Int}(h:r.length=n):sh n (fn (r++s))=fn s:=by
 funext j
 unfold sh fn;rw[eG,eG,jb (by lia),show n+j-r.length=j by lia]
end
inductive Bx where
 |add|swap|SK|times (n:Int)|p6|id|none|fin
namespace Bx
noncomputable def bK:Bx->Drw
 |add=>.box "add" 2 1 [[1,0,1],[0,1,1]]
 |swap=>.box "swap" 2 2 [[1,0,0,1],[0,1,1,0]]
 |SK=>.box "copy" 1 2 [[1,1,1]]
 |times n=>.times n
 |p6=>.box "late" 1 1 []
 |id=>.box "id" 1 1 [[1,1]]
 |none=>.box "none" 0 1 []
 |fin=>.box "end" 1 0 [[1]]
noncomputable def run(p:Int):Bx->acV
 |add=>λg _=>([(fn g 0+fn g 1)%p],[])
 |swap=>λg _=>([fn g 1,fn g 0],[])
 |SK=>λg _=>([fn g 0,fn g 0],[])
 |times n=>λg _=>([fn g 0*n%p],[])
 |p6=>λg k=>([fn k 0],[fn g 0])
 |id=>λg _=>([fn g 0],[])
 |none=>λ_ _=>([0],[])
 |fin=>λ_ _=>([],[])
def wf(p:Int):Bx->Prop
 |times n=>0<=n/\n<p
 |_=>True
end Bx
section
variable{p:Int}
theorem wX(h:∀j,n<=j->f j=0):Nil p f n:=λj hj=>by rw[h j hj];exact⟨0,by lia⟩
end
end S21
namespace S21
open PySem L2 Bw
variable{D:List (Nat×Fn)}{L L':List Nat}{M N a b s x:Nat}{R0:List Fn}{al:List (Nat×Nat)}{c e:Int}{f g v:Fn}
section
variable{p:Int}
end
section
variable{p:Int}
end
section
variable{p:Int}
end
abbrev dO:=List (Nat×Int)
noncomputable def rv(v:Fn)(r:dO):Int:=(r.map λt=>t.2*v t.1).sum
def Sat(p:Int)(v:Fn)(rs:List dO):Prop:=∀r∈rs,p∣rv v r
section
variable{p:Int}
theorem SM{x:Str}{l r:Nat}{aY:LL}{C:Str->Nat->Nat->LL->Prop}(h:(x,l,r,aY)∈ip)(c1:C "id" 1 1 [[1,1]])(c2:C "swap" 2 2 [[1,0,0,1],[0,1,1,0]])(c3:C "copy" 1 2 [[1,1,1]])(c4:C "end" 1 0 [[1]])(c5:C "add" 2 1 [[1,0,1],[0,1,1]])(c6:C "none" 0 1 [])(c7:C "cup" 0 2 [[1,1]])(c8:C "empty" 0 0 []):C x l r aY:=by
 simp only[ip,cV,qz,aF,Prod.mk.injEq]at h;rcases h with⟨rfl,rfl,rfl,rfl⟩|⟨rfl,rfl,rfl,rfl⟩|⟨rfl,rfl,rfl,rfl⟩|⟨rfl,rfl,rfl,rfl⟩|⟨rfl,rfl,rfl,rfl⟩|⟨rfl,rfl,rfl,rfl⟩|⟨rfl,rfl,rfl,rfl⟩|⟨rfl,rfl,rfl,rfl⟩<;>assumption
noncomputable def atS(v:Fn)(L:List Nat):Fn:=fn (L.map v)
theorem wY{j:Nat}(h:j<L.length):atS v (L++L') j=atS v L j:=by
 unfold atS;rw[du];exact acW (by rw[bu];exact h)
theorem vc{n:Nat}(h:L.length=n):sh n (atS v (L++L'))=atS v L':=by
 unfold atS;rw[du];exact acX (by rw[bu];exact h)
theorem KH{i:Nat}(h:L[i]?=some s):atS v L i=v s:=by
 unfold atS fn;rw[eG,dG,h];rfl
theorem acY{v':Fn}(h:∀s∈L,v s=v' s):atS v L=atS v' L:=by
 unfold atS;rw[uw h]
end
section
variable{p:Int}
end
section
variable{p:Int}
end
structure iP where
 l:List Nat
 r:List Nat
 cg:List Nat
 aY:List dO
 al:List (Nat×Nat)
noncomputable def dR(x:Str)(n:Int):List dO:=
 if x="id"\/x="cup" then[[(0,1),(1,-1)]]else if x="swap" then[[(0,1),(3,-1)],[(1,1),(2,-1)]]else if x="copy" then[[(0,1),(1,-1)],[(0,1),(2,-1)]]else if x="add" then[[(0,1),(1,1),(2,-1)]]else if x="none" then[[(0,1)]]else if x="times" then[[(0,n),(1,-1)]] else[]
noncomputable def iz(N:Nat)(q:dO):dO:=q.map λt=>(N+t.1,t.2)
noncomputable def aT:Drw->Nat->iP×Nat
 | .box x l r _,N=>(⟨List.range' N l,List.range' (N+l) r,[],(dR x 0).map (iz N),[]⟩,N+l+r)
 | .times n,N=>(⟨List.range' N 1,List.range' (N+1) 1,[],(dR "times" n).map (iz N),[]⟩,N+1+1)
 | .back d,N=>(⟨(aT d N).1.r,(aT d N).1.l,(aT d N).1.cg,(aT d N).1.aY,(aT d N).1.al⟩,(aT d N).2)
 | .cD a b,N=>(⟨(aT a (aT b N).2).1.l++(aT b N).1.l,(aT a (aT b N).2).1.r++(aT b N).1.r,(aT a (aT b N).2).1.cg++(aT b N).1.cg,(aT b N).1.aY++(aT a (aT b N).2).1.aY,(aT b N).1.al++(aT a (aT b N).2).1.al⟩,(aT a (aT b N).2).2)
 | .bj a b,N=>(⟨(aT a (aT b N).2).1.l,(aT b N).1.r,(aT a (aT b N).2).1.cg++(aT a (aT b N).2).1.r++(aT b N).1.cg,(aT b N).1.aY++(aT a (aT b N).2).1.aY,(aT b N).1.al++(aT a (aT b N).2).1.al++(aT b N).1.l.zip (aT a (aT b N).2).1.r⟩,(aT a (aT b N).2).2)
noncomputable def iP.all(A:iP):List Nat:=A.l++A.r++A.cg++A.al.map Prod.fst
section
variable{p:Int}
theorem jD:∀{d:Drw}{N:Nat},d.wf p->(aT d N).1.l.length=d.bh/\(aT d N).1.r.length=d.bf
 | .box x l r aY,N,_=>⟨nJ,nJ⟩
 | .times n,N,_=>⟨rfl,rfl⟩
 | .back d,N,hd=>let ⟨a,b⟩:=jD (d:=d) (N:=N) hd;⟨b,a⟩
 | .cD a b,N,hd=>by
  obtain⟨b1,b2⟩:=jD (d:=b) (N:=N) hd.2;obtain⟨a1,a2⟩:=jD (d:=a) (N:=(aT b N).2) hd.1;refine⟨?_,?_⟩
  ·show(_++_:List Nat).length=_;rw[cm,a1,b1];rfl
  ·show(_++_:List Nat).length=_;rw[cm,a2,b2];rfl
 | .bj a b,N,hd=>by
  obtain⟨b1,b2⟩:=jD (d:=b) (N:=N) hd.2.1;obtain⟨a1,a2⟩:=jD (d:=a) (N:=(aT b N).2) hd.1;exact⟨a1,b2⟩
theorem oo:∀(d:Drw)(N:Nat),N<=(aT d N).2
 | .box x l r aY,N=>by show N<=N+l+r;lia
 | .times n,N=>by show N<=N+1+1;lia
 | .back d,N=>oo d N
 | .cD a b,N=>gn (oo b N) (oo a _)
 | .bj a b,N=>gn (oo b N) (oo a _)
theorem EV(x s n:Nat):(List.range' s n).count x=if s<=x/\x<s+n then 1 else 0:=by
 by_cases h:s<=x/\x<s+n
 ·rw[af h];have h1:=List.nodup_iff_count.mp (List.nodup_range' (s:=s) (n:=n)) x;have h2:=List.count_pos_iff.mpr (zZ.mpr h);lia
 ·rw[ag h];exact List.count_eq_zero.mpr λz=>h (zZ.mp z)
theorem ve:∀{d:Drw}{N:Nat}(x:Nat),d.wf p->(aT d N).1.all.count x=if N<=x/\x<(aT d N).2 then 1 else 0
 | .box w l r aY,N,x,_=>by
  show(List.range' N l++List.range' (N+l) r++[]++[]).count x=if N<=x/\x<N+l+r then 1 else 0
  rw[iT,iT,C6,EV,EV]
  repeat' split
  all_goals lia
 | .times n,N,x,_=>by
  show(List.range' N 1++List.range' (N+1) 1++[]++[]).count x=if N<=x/\x<N+1+1 then 1 else 0
  rw[iT,iT,C6,EV,EV]
  repeat' split
  all_goals lia
 | .back d,N,x,hd=>by
  have h:=ve (d:=d) (N:=N) x hd;unfold iP.all at h;show((aT d N).1.r++(aT d N).1.l++(aT d N).1.cg++(aT d N).1.al.map Prod.fst).count x=if N<=x/\x<(aT d N).2 then 1 else 0
  rw[<- h];simp only[C6];lia
 | .cD a b,N,x,hd=>by
  have hb:=ve (d:=b) (N:=N) x hd.2;have ha:=ve (d:=a) (N:=(aT b N).2) x hd.1;have l1:=oo b N;have l2:=oo a (aT b N).2;unfold iP.all at ha hb;show(((aT a (aT b N).2).1.l++(aT b N).1.l)++((aT a (aT b N).2).1.r++(aT b N).1.r)++((aT a (aT b N).2).1.cg++(aT b N).1.cg)++((aT b N).1.al++(aT a (aT b N).2).1.al).map Prod.fst).count x=if N<=x/\x<(aT a (aT b N).2).2 then 1 else 0
  rw[du];simp only[C6]at ha hb |-
  revert ha hb
  repeat' split
  all_goals lia
 | .bj a b,N,x,hd=>by
  have hb:=ve (d:=b) (N:=N) x hd.2.1;have ha:=ve (d:=a) (N:=(aT b N).2) x hd.1;have l1:=oo b N;have l2:=oo a (aT b N).2;obtain⟨b1,b2⟩:=jD (d:=b) (N:=N) hd.2.1;obtain⟨a1,a2⟩:=jD (d:=a) (N:=(aT b N).2) hd.1;have hz:((aT b N).1.l.zip (aT a (aT b N).2).1.r).map Prod.fst=(aT b N).1.l:=List.map_fst_zip (by rw[b1,a2,hd.2.2];exact cn _);unfold iP.all at ha hb;show((aT a (aT b N).2).1.l++(aT b N).1.r++((aT a (aT b N).2).1.cg++(aT a (aT b N).2).1.r++(aT b N).1.cg)++((aT b N).1.al++(aT a (aT b N).2).1.al++(aT b N).1.l.zip (aT a (aT b N).2).1.r).map Prod.fst).count x=if N<=x/\x<(aT a (aT b N).2).2 then 1 else 0
  rw[du,du,hz];simp only[C6]at ha hb |-
  revert ha hb
  repeat' split
  all_goals lia
theorem wZ:∀{d:Drw}{N:Nat},d.wf p->∀t∈(aT d N).1.al,t.2∈(aT d N).1.cg
 | .box ..,N,_,t,ht=>by cases ht
 | .times n,N,_,t,ht=>by cases ht
 | .back d,N,hd,t,ht=>wZ (d:=d) (N:=N) hd t ht
 | .cD a b,N,hd,t,ht=>by
  rcases(cN.mp ht)with(ht|ht)
  ·exact dZ _ (wZ (d:=b) hd.2 t ht)
  ·exact eV _ (wZ (d:=a) hd.1 t ht)
 | .bj a b,N,hd,t,ht=>by
  rcases(cN.mp ht)with(ht|ht)
  ·rcases(cN.mp ht)with(ht|ht)
   ·exact dZ _ (wZ (d:=b) hd.2.1 t ht)
   ·exact eV _ (eV _ (wZ (d:=a) hd.1 t ht))
  ·exact eV _ (dZ _ (zU ht).2)
theorem SN(n:Int):dR "id" n=[[(0,1),(1,-1)]]:=af (.inl rfl)
theorem SO(n:Int):dR "cup" n=[[(0,1),(1,-1)]]:=af (.inr rfl)
theorem KI(n:Int):dR "swap" n=[[(0,1),(3,-1)],[(1,1),(2,-1)]]:=by unfold dR;rw[ag (by decide +kernel),af rfl]
theorem KJ(n:Int):dR "copy" n=[[(0,1),(1,-1)],[(0,1),(2,-1)]]:=by unfold dR;rw[ag (by decide +kernel),ag (by decide +kernel),af rfl]
theorem KL(n:Int):dR "add" n=[[(0,1),(1,1),(2,-1)]]:=by unfold dR;rw[ag (by decide +kernel),ag (by decide +kernel),ag (by decide +kernel),af rfl]
theorem KN(n:Int):dR "none" n=[[(0,1)]]:=by unfold dR;rw[ag (by decide +kernel),ag (by decide +kernel),ag (by decide +kernel),ag (by decide +kernel),af rfl]
theorem KO(n:Int):dR "times" n=[[(0,n),(1,-1)]]:=by unfold dR;rw[ag (by decide +kernel),ag (by decide +kernel),ag (by decide +kernel),ag (by decide +kernel),ag (by decide +kernel),af rfl]
theorem SQ(n:Int):dR "end" n=[]:=by unfold dR;rw[ag (by decide +kernel),ag (by decide +kernel),ag (by decide +kernel),ag (by decide +kernel),ag (by decide +kernel),ag (by decide +kernel)]
theorem SR(n:Int):dR "empty" n=[]:=by unfold dR;rw[ag (by decide +kernel),ag (by decide +kernel),ag (by decide +kernel),ag (by decide +kernel),ag (by decide +kernel),ag (by decide +kernel)]
end
section
variable{p:Int}
theorem r2:rv v [(a,c),(b,e)]=c*v a+e*v b:=by show c*v a+(e*v b+0)=_;lia
theorem r1:rv v [(a,c)]=c*v a:=by show c*v a+0=_;lia
theorem r3{d:Nat}{f:Int}:rv v [(a,c),(b,e),(d,f)]=c*v a+e*v b+f*v d:=by show c*v a+(e*v b+(f*v d+0))=_;lia
theorem w6:iz N [(a,c),(b,e)]=[(N+a,c),(N+b,e)]:=rfl
theorem up1:iz N [(a,c)]=[(N+a,c)]:=rfl
theorem DN{d:Nat}{f:Int}:iz N [(a,c),(b,e),(d,f)]=[(N+a,c),(N+b,e),(N+d,f)]:=rfl
theorem SS{a b:Int}(h:p∣a)(e:b=-a):p∣b:=by rw[e];exact Int.dvd_neg.mpr h
end
section
variable{p:Int}
theorem SU{d:Drw}(hd:d.wf p)(h:s∈(aT d N).1.all):N<=s/\s<(aT d N).2:=by
 have h1:=ve (d:=d) (N:=N) s hd;have h2:=List.count_pos_iff.mpr h;by_cases c:N<=s/\s<(aT d N).2
 ·exact c
 ·rw[ag c]at h1;lia
theorem acZ{x:Str}{l r:Nat}{aY:LL}(h:(x,l,r,aY)∈ip):∀q∈dR x 0,∀t∈q,t.1<l+r:=by
 refine SM (C:=λx l r _=>∀q∈dR x 0,∀t∈q,t.1<l+r) h ?_ ?_ ?_ ?_ ?_ ?_ ?_ ?_
 ·rw[SN];decide
 ·rw[KI];decide
 ·rw[KJ];decide
 ·rw[SQ];decide
 ·rw[KL];decide
 ·rw[KN];decide
 ·rw[SO];decide
 ·rw[SR];decide
theorem vg:∀{d:Drw}{N:Nat},d.wf p->∀q∈(aT d N).1.aY,∀t∈q,N<=t.1/\t.1<(aT d N).2
 | .box x l r aY,N,hd,q,hq,t,ht=>by
  obtain⟨q0,h0,rfl⟩:=dD.mp hq;obtain⟨t0,h1,rfl⟩:=dD.mp ht
  have:=acZ hd q0 h0 t0 h1
  show N<=N+t0.1/\N+t0.1<N+l+r;lia
 | .times n,N,_,q,hq,t,ht=>by
  obtain⟨q0,h0,rfl⟩:=dD.mp hq;obtain⟨t0,h1,rfl⟩:=dD.mp ht;rw[KO]at h0;rw[cA.mp h0]at h1
  have:t0.1<=1:=by
   rcases(cV.mp h1)with(rfl|h1)
   ·show 0<=1;decide
   ·rw[cA.mp h1];exact cn 1
  show N<=N+t0.1/\N+t0.1<N+1+1;lia
 | .back d,N,hd,q,hq,t,ht=>vg (d:=d) (N:=N) hd q hq t ht
 | .cD a b,N,hd,q,hq,t,ht=>by
  have l1:=oo b N;have l2:=oo a (aT b N).2;show N<=t.1/\t.1<(aT a (aT b N).2).2;rcases(cN.mp hq)with(hq|hq)
  ·have:=vg (d:=b) (N:=N) hd.2 q hq t ht;lia
  ·have:=vg (d:=a) (N:=(aT b N).2) hd.1 q hq t ht;lia
 | .bj a b,N,hd,q,hq,t,ht=>by
  have l1:=oo b N;have l2:=oo a (aT b N).2;show N<=t.1/\t.1<(aT a (aT b N).2).2;rcases(cN.mp hq)with(hq|hq)
  ·have:=vg (d:=b) (N:=N) hd.2.1 q hq t ht;lia
  ·have:=vg (d:=a) (N:=(aT b N).2) hd.1 q hq t ht;lia
theorem ac0{n:Nat}{j:Nat}(hj:j<n):atS v (List.range' N n) j=v (N+j):=KH (by rw[List.getElem?_range' hj];simp)
end
section
variable{p:Int}
def js(p:Int)(M:Nat)(f:Fn):Prop:=∀s,0<=f s/\f s<p/\(M<=s->f s=0)
noncomputable def gg(p:Int)(f g:Fn)(c:Int):Fn:=λs=>(f s-c*g s)%p
noncomputable def iH(p:Int)(f:Fn)(c:Int):Fn:=λs=>f s*c%p
theorem ze(p0:0<p)(a:Int):0<=a%p/\a%p<p:=⟨qB _ (by lia),qC _ p0⟩
theorem SV(p0:0<p)(hf:js p M f)(hg:js p M g):js p M (gg p f g c):=λs=>⟨(ze p0 _).1,(ze p0 _).2,λh=>by
 unfold gg;rw[(hf s).2.2 h,(hg s).2.2 h,Int.mul_zero];simp⟩
theorem SW(p0:0<p)(hf:js p M f):js p M (iH p f c):=λs=>⟨(ze p0 _).1,(ze p0 _).2,λh=>by
 unfold iH;rw[(hf s).2.2 h];simp⟩
theorem KP(hf:f s=0)(hg:g s=0):gg p f g c s=0:=by
 unfold gg;rw[hf,hg,Int.mul_zero];simp
theorem SX(p0:0<p)(hf:js p M f)(hg:g s=0):gg p f g c s=f s:=by
 unfold gg;rw[hg,Int.mul_zero,Int.sub_zero];exact Int.emod_eq_of_lt (hf s).1 (hf s).2.1
theorem SY(p0:0<p)(hf:js p M f):gg p f g 0=f:=by
 funext s
 unfold gg;rw[Int.zero_mul,Int.sub_zero];exact Int.emod_eq_of_lt (hf s).1 (hf s).2.1
theorem EW(h:∀s,s<M->p∣f s-g s):p∣dot f v M-dot g v M:=by
 have e:dot f v M-dot g v M=Sg (λi=>(f i-g i)*v i) M:=by
  have:=aca v f g M
  rw[<- this];rfl
 rw[e];exact Q9 λi hi=>Int.dvd_mul_of_dvd_left (h i hi)
theorem EX(f g v:Fn)(c:Int)(M:Nat):dot (λs=>f s-c*g s) v M=dot f v M-c*dot g v M:=by
 have h:=Rg v f g (-c) M;rw[JB,show(λs=>f s-c*g s)=λj=>f j + -c*g j from funext λs=>by rw[Int.neg_mul];lia,h,JB v f,JB v g,Int.neg_mul]
 lia
theorem EY:p∣dot (gg p f g c) v M-(dot f v M-c*dot g v M):=by
 rw[<- EX];exact EW λs _=>sQ _ _
structure EI(p:Int)(M:Nat)(R0:List Fn)(dn:List Nat)(aY:List Fn)(D:List (Nat×Fn)):Prop where
 rr:∀f∈aY,js p M f
 dr:∀t∈D,js p M t.2
 sat:∀v:Fn,((∀f∈aY,p∣dot f v M)/\∀t∈D,p∣dot t.2 v M)↔∀f∈R0,p∣dot f v M
 clear:∀f∈aY,∀s∈dn,f s=0
 one:∀t∈D,t.2 t.1=1
 alone:∀(i j:Nat)(t u:Nat×Fn),D[i]?=some t->D[j]?=some u->i≠j->t.2 u.1=0
 keys:∀t∈D,t.1∈dn
 sup:∀t∈D,∀s∈dn.takeWhile (λx=>decide (x≠t.1)),t.2 s=0
theorem S0(h:x∈L):(L++[s]).takeWhile (λy=>decide (y≠x))=L.takeWhile (λy=>decide (y≠x)):=by
 induction L with
 |nil=>cases h
 |cons a L ih=>
  rw[uv,List.takeWhile_cons,List.takeWhile_cons];by_cases e:a=x
  ·rw[ag (by simp[e]),ag (by simp[e])]
  ·rw[af (by simp[e]),af (by simp[e]),ih ((cV.mp h).resolve_left λz=>e z.symm)]
theorem ac1(h:s ∉ L):(L++[s]).takeWhile (λy=>decide (y≠s))=L:=by
 induction L with
 |nil=>rw[jX,List.takeWhile_cons,ag (by simp)]
 |cons a L ih=>
  rw[uv,List.takeWhile_cons,af (by simp;intro e;exact h (by rw[e];exact cQ)),ih λz=>h (dU _ z)]
theorem ac2(h:s∈L.takeWhile (λy=>decide (y≠x))):s∈L:=(List.takeWhile_prefix _).subset h
theorem EI.start(h:∀f∈R0,js p M f):EI p M R0 [] R0 [] where
 rr:=h
 dr:=λt ht=>nomatch ht
 sat:=λv=>⟨λz=>z.1,λz=>⟨z,λt ht=>nomatch ht⟩⟩
 clear:=λf _ s hs=>nomatch hs
 one:=λt ht=>nomatch ht
 alone:=λi j t u e=>nomatch e
 keys:=λt ht=>nomatch ht
 sup:=λt ht=>nomatch ht
variable{M:Nat}{R0 aY:List Fn}{dn:List Nat}{D:List (Nat×Fn)}
theorem EI.skip(h:EI p M R0 dn aY D)(hs:∀f∈aY,f s=0):EI p M R0 (dn++[s]) aY D:=
 ⟨h.rr,h.dr,h.sat,λf hf x hx=>(cN.mp hx).elim (h.clear f hf x) λz=>by rw[cA.mp z];exact hs f hf,h.one,h.alone,λt ht=>eV _ (h.keys t ht),λt ht x hx=>h.sup t ht x (by rwa[S0 (h.keys t ht)]at hx)⟩
theorem EI.step(pp:p∈ig)(h:EI p M R0 dn aY D){k:Nat}{f0:Fn}{tn:Int}(hs:s ∉ dn)(h0:aY[k]?=some f0)(t3:tn*f0 s%p=1){rows':List Fn}(m1:∀f'∈rows',∃f∈aY,f'=gg p f (iH p f0 tn) (f s))(m2:∀(i:Nat)(f:Fn),i≠k->aY[i]?=some f->gg p f (iH p f0 tn) (f s)∈rows') :
  EI p M R0 (dn++[s]) rows' (D.map (λt=>(t.1,gg p t.2 (iH p f0 tn) (t.2 s)))++[(s,iH p f0 (tn))]):=by
 obtain⟨p2,_⟩:=jf p pp;have p0:0<p:=by lia
 have m0:=dP h0;have r0:=h.rr f0 m0;have gs:iH p f0 (tn) s=1:=by unfold iH;rw[Int.mul_comm];exact t3
 have gr:=SW p0 (c:=tn) r0;have gd:∀x∈dn,iH p f0 (tn) x=0:=λx hx=>by unfold iH;rw[h.clear f0 m0 x hx];simp
 have back:∀v:Fn,p∣dot f0 v M-f0 s*dot (iH p f0 tn) v M:=λv=>by
  have e:f0 s*dot (iH p f0 tn) v M=dot (λi=>0 - -(f0 s)*iH p f0 (tn) i) v M:=by
   rw[EX (λ_=>0)]
   have:dot (λ_=>(0:Int)) v M=0:=qU λi _=>by lia
   rw[this,Int.neg_mul];lia
  rw[e];refine EW λi _=>?_;unfold iH;have d1:=sQ p (f0 i*tn);have d2:=sQ p (tn*f0 s);rw[t3]at d2;have d3:p∣f0 s*(f0 i*tn%p-f0 i*tn):=oG d1;have d4:p∣f0 i*(1-tn*f0 s):=oG d2
  have:=pA d4 d3
  refine(show(f0 i*(1-tn*f0 s)-f0 s*(f0 i*tn%p-f0 i*tn))=f0 i-(0 - -(f0 s)*(f0 i*tn%p)) from ?_)▸this
  grind
 have S3:∀v:Fn,p∣dot f0 v M->p∣dot (iH p f0 tn) v M:=λv hv=>by
  have e:p∣dot (iH p f0 tn) v M-tn*dot f0 v M:=by
   have e:tn*dot f0 v M=dot (λi=>0 - -(tn)*f0 i) v M:=by
    rw[EX (λ_=>0)]
    have:dot (λ_=>(0:Int)) v M=0:=qU λi _=>by lia
    rw[this,Int.neg_mul];lia
   rw[e];refine EW λi _=>?_;have d1:=sQ p (f0 i*tn);refine(show f0 i*tn%p-f0 i*tn=iH p f0 (tn) i-(0 - -(tn)*f0 i) from ?_)▸d1
   unfold iH
   grind
  exact tK e (oG (b:=tn) hv) (by lia)
 generalize iH p f0 (tn)=g at gs gr gd back S3 m1 m2 |-;refine⟨λf hf=>?_,λt ht=>?_,λv=>⟨λz=>(h.sat v).mp ⟨λf hf=>?_,λt ht=>?_⟩,λz=>?_⟩,λf hf x hx=>?_,λt ht=>?_,λi j t u e1 e2 cZ=>?_,λt ht=>?_,λt ht x hx=>?_⟩
 ·obtain⟨f1,h1,rfl⟩:=m1 _ hf;exact SV p0 (h.rr f1 h1) gr
 ·rcases(cN.mp ht)with(ht|ht)
  ·obtain⟨t1,h1,rfl⟩:=dD.mp ht;exact SV p0 (h.dr t1 h1) gr
  ·rw[cA.mp ht];exact gr
 ·have hg:p∣dot g v M:=z.2 (s,g) (dZ _ cQ);obtain⟨i,hi⟩:=nK.mp hf;by_cases ei:i=k
  ·subst ei;rw[h0]at hi;cases hi;exact tK (back v) (oG (b:=f0 s) hg) (by lia)
  ·have h1:=z.1 _ (m2 i f ei hi);have h2:=EY (p:=p) (f:=f) (g:=g) (v:=v) (c:=f s) (M:=M);have h3:p∣f s*dot g v M:=oG hg;exact tK (jM h1 h2 rf) h3 (by lia)
 ·have hg:p∣dot g v M:=z.2 (s,g) (dZ _ cQ);have h1:=z.2 (t.1,gg p t.2 g (t.2 s)) (eV _ (dD.mpr ⟨t,ht,rfl⟩));have h2:=EY (p:=p) (f:=t.2) (g:=g) (v:=v) (c:=t.2 s) (M:=M);have h3:p∣t.2 s*dot g v M:=oG hg;exact tK (jM h1 h2 rf) h3 (by lia)
 ·obtain⟨z1,z2⟩:=(h.sat v).mpr z;have hg:=S3 v (z1 f0 m0);refine⟨λf hf=>?_,λt ht=>?_⟩
  ·obtain⟨f1,h1,rfl⟩:=m1 _ hf;have h2:=EY (p:=p) (f:=f1) (g:=g) (v:=v) (c:=f1 s) (M:=M);have h3:p∣f1 s*dot g v M:=oG hg;exact tK h2 (jM (z1 f1 h1) h3 rf) (by lia)
  ·rcases(cN.mp ht)with(ht|ht)
   ·obtain⟨t1,h1,rfl⟩:=dD.mp ht;have h2:=EY (p:=p) (f:=t1.2) (g:=g) (v:=v) (c:=t1.2 s) (M:=M);have h3:p∣t1.2 s*dot g v M:=oG hg;exact tK h2 (jM (z2 t1 h1) h3 rf) (by show dot (gg p t1.2 g (t1.2 s)) v M=_;lia)
   ·rw[cA.mp ht];exact hg
 ·obtain⟨f1,h1,rfl⟩:=m1 _ hf;rcases(cN.mp hx)with(hx|hx)
  ·exact KP (h.clear f1 h1 x hx) (gd x hx)
  ·rw[cA.mp hx];unfold gg;rw[gs,Int.mul_one,Int.sub_self];simp
 ·rcases(cN.mp ht)with(ht|ht)
  ·obtain⟨t1,h1,rfl⟩:=dD.mp ht;show gg p t1.2 g (t1.2 s) t1.1=1;rw[SX p0 (h.dr t1 h1) (gd t1.1 (h.keys t1 h1))];exact h.one t1 h1
  ·rw[cA.mp ht];exact gs
 ·have hD:(D.map λt=>(t.1,gg p t.2 g (t.2 s))).length=D.length:=bu _;by_cases i1:i<D.length
  ·rw[iK (by lia),dG]at e1;rw[cP i1]at e1;cases e1;have q1:D[i]?=some D[i]:=cP i1;by_cases j1:j<D.length
   ·rw[iK (by lia),dG]at e2;rw[cP j1]at e2;cases e2;have q2:D[j]?=some D[j]:=cP j1;show gg p D[i].2 g (D[i].2 s) D[j].1=0;exact KP (h.alone i j _ _ q1 q2 cZ) (gd _ (h.keys _ (r8 j1)))
   ·rw[jb (by lia),hD]at e2
    have:j-D.length=0:=by
     have:=(dC.mp e2).1
     simpa using this
    rw[this]at e2;cases e2;show gg p D[i].2 g (D[i].2 s) s=0;unfold gg;rw[gs,Int.mul_one,Int.sub_self];simp
  ·rw[jb (by lia),hD]at e1
   have:i-D.length=0:=by
    have:=(dC.mp e1).1
    simpa using this
   rw[this]at e1;cases e1;have j1:j<D.length:=by
    have:=(dC.mp e2).1
    rw[cm,hD]at this;simp at this;lia
   rw[iK (by lia),dG,cP j1]at e2;cases e2;show g D[j].1=0;exact gd _ (h.keys _ (r8 j1))
 ·rcases(cN.mp ht)with(ht|ht)
  ·obtain⟨t1,h1,rfl⟩:=dD.mp ht;exact eV _ (h.keys t1 h1)
  ·rw[cA.mp ht];exact dZ _ cQ
 ·rcases(cN.mp ht)with(ht|ht)
  ·obtain⟨t1,h1,rfl⟩:=dD.mp ht;have hx:x∈dn.takeWhile (λy=>decide (y≠t1.1)):=by rwa[S0 (h.keys t1 h1)]at hx
   exact KP (h.sup t1 h1 x hx) (gd x (ac2 hx))
  ·rw[cA.mp ht]at hx |-;have hx:x∈dn:=by rwa[ac1 hs]at hx
   exact gd x hx
end
section
variable{p:Int}
end
def Ok(p:Int)(d:Drw):Prop:=d.wf p/\d.sm
section
variable{p:Int}
noncomputable def look(al:List (Nat×Nat))(s:Nat):Nat:=((al.find? λt=>decide (t.1=s)).map (·.2)).getD s
theorem KQ(h:s ∉ al.map Prod.fst):look al s=s:=by
 unfold look;rw[xP.mpr λt ht=>by simp;intro e;exact h (by rw[<- e];exact oI ht)];rfl
theorem S4(h:s∈al.map Prod.fst):∃t∈al,t.1=s/\look al s=t.2:=by
 unfold look;cases e:al.find? λt=>decide (t.1=s) with
 |none=>
  obtain⟨t,ht,rfl⟩:=dD.mp h
  have:=xP.mp e t ht
  simp at this
 |some t=>
  have:=List.find?_some e
  exact⟨t,Hv e,by simpa using this,rf⟩
noncomputable def p7(p:Int)(al:List (Nat×Nat))(q:dO):Fn:=q.foldl (λf t=>λs=>if s=look al t.1 then(f s+t.2)%p else f s) λ_=>0
theorem S5(p0:0<p){M:Nat}{al:List (Nat×Nat)}(v:Fn):∀(q:dO){f:Fn},js p M f->(∀t∈q,look al t.1<M)->
  js p M (q.foldl (λf t=>λs=>if s=look al t.1 then(f s+t.2)%p else f s) f)/\p∣dot (q.foldl (λf t=>λs=>if s=look al t.1 then(f s+t.2)%p else f s) f) v M-(dot f v M+rv (λs=>v (look al s)) q)/\
  ∀s,(∀t∈q,look al t.1≠s)->q.foldl (λf t=>λs=>if s=look al t.1 then(f s+t.2)%p else f s) f s=f s
 | [],f,hf,_=>⟨hf,⟨0,by show dot f v M-(dot f v M+0)=_;lia⟩,λs _=>rfl⟩
 |t::q,f,hf,h=>by
  have hl:=h t cQ;have h1:js p M (λs=>if s=look al t.1 then(f s+t.2)%p else f s):=λs=>by
   show 0<=(if s=look al t.1 then(f s+t.2)%p else f s)/\(if s=look al t.1 then(f s+t.2)%p else f s)<p/\(M<=s->(if s=look al t.1 then(f s+t.2)%p else f s)=0)
   by_cases e:s=look al t.1
   ·rw[af e];exact⟨(ze p0 _).1,(ze p0 _).2,λz=>by lia⟩
   ·rw[ag e];exact hf s
  obtain⟨i1,i2,i3⟩:=S5 p0 v q h1 λu hu=>h u (dU _ hu);refine⟨i1,?_,λs hs=>?_⟩
  ·have d1:p∣dot (λs=>if s=look al t.1 then(f s+t.2)%p else f s) v M-dot (λs=>f s - -(t.2)*(if s=look al t.1 then 1 else 0)) v M:=EW λs _=>by
    by_cases e:s=look al t.1
    ·rw[af e,af e]
     have:=sQ p (f s+t.2)
     rwa[show(f s+t.2)%p-(f s+t.2)=(f s+t.2)%p-(f s - -t.2*1) by lia]at this
    ·rw[ag e,ag e];exact⟨0,by lia⟩
   rw[EX]at d1;have d2:dot (λs=>if s=look al t.1 then(1:Int)else 0) v M=v (look al t.1):=Rm hl v
   rw[d2]at d1;have e:rv (λs=>v (look al s)) (t::q)=t.2*v (look al t.1)+rv (λs=>v (look al s)) q:=rfl;rw[List.foldl_cons,e];refine tK i2 d1 ?_;rw[Int.neg_mul];lia
  ·rw[List.foldl_cons,i3 s λu hu=>hs u (dU _ hu),ag λe=>hs t cQ e.symm]
theorem KR(p0:0<p){q:dO}(h:∀t∈q,look al t.1<M)(v:Fn):js p M (p7 p al q)/\p∣dot (p7 p al q) v M-rv (λs=>v (look al s)) q/\∀s,(∀t∈q,look al t.1≠s)->p7 p al q s=0:=by
 have z:js p M (λ_=>0):=λs=>⟨Int.le_refl 0,p0,λ_=>rfl⟩;obtain⟨h1,h2,h3⟩:=S5 p0 v q z h;refine⟨h1,?_,h3⟩;have e:dot (λ_=>(0:Int)) v M=0:=qU λi _=>by lia
 rw[e,qD]at h2;exact h2
end
section
variable{p:Int}
noncomputable def o8(D:List (Nat×Fn))(s:Nat):Option Fn:=(D.find? λt=>decide (t.1=s)).map (·.2)
theorem KS(h:o8 D s=some g):∃t∈D,t.1=s/\t.2=g:=by
 unfold o8 at h;cases e:D.find? λt=>decide (t.1=s) with
 |none=>rw[e]at h;cases h
 |some t=>
  rw[e]at h;cases h
  have:=List.find?_some e
  exact⟨t,Hv e,by simpa using this,rf⟩
theorem ac3(h:o8 D s=none):∀t∈D,t.1≠s:=λt ht e=>by
 unfold o8 at h;rw[Option.map_eq_none_iff]at h
 have:=xP.mp h t ht
 simp[e]at this
theorem EI.uniq{aY:List Fn}{dn:List Nat}(h:EI p M R0 dn aY D){t u:Nat×Fn}(ht:t∈D)(hu:u∈D):t=u\/t.2 u.1=0:=by
 obtain⟨i,hi⟩:=nK.mp ht;obtain⟨j,hj⟩:=nK.mp hu;by_cases e:i=j
 ·subst e;rw[hi]at hj;exact .inl (dq hj)
 ·exact .inr (h.alone i j t u hi hj e)
theorem EI.ac4{Z:List Nat}(h:∀f∈R0,js p M f)(hz:∀f∈R0,∀s∈Z,f s=0):EI p M R0 Z R0 []:=
 { EI.start h with clear:=hz,keys:=λt ht=>(nomatch ht),sup:=λt ht=>nomatch ht }
end
section
variable{p:Int}{d:Drw}
theorem S6(hd:d.wf p)(h:s<(aT d 0).2):s∈(aT d 0).1.all:=by
 have h1:=ve (d:=d) (N:=0) s hd;rw[af ⟨jv _,h⟩]at h1;exact List.count_pos_iff.mp (by lia)
theorem w8(hd:d.wf p):(aT d 0).1.all.Nodup:=List.nodup_iff_count.mpr λs=>by
 rw[ve (d:=d) (N:=0) s hd];split<;>lia
theorem EZ(hd:d.wf p)(h:s∈(aT d 0).1.l++(aT d 0).1.r++(aT d 0).1.cg):s ∉ (aT d 0).1.al.map Prod.fst:=λz=>by
 have:=w8 hd
 unfold iP.all at this;exact(qG.mp this).2.2 s h s z rf
theorem KU(hd:d.wf p)(h:s<(aT d 0).2):look (aT d 0).1.al s∈(aT d 0).1.l++(aT d 0).1.r++(aT d 0).1.cg:=by
 rcases cN.mp (S6 hd h)with z|z
 ·rw[KQ (EZ hd z)];exact z
 ·obtain⟨t,ht,_,e⟩:=S4 z;rw[e];exact dZ _ (wZ hd t ht)
theorem KW(hd:d.wf p)(h:s∈(aT d 0).1.l++(aT d 0).1.r++(aT d 0).1.cg):s<(aT d 0).2:=(SU hd (eV _ h)).2
theorem ac5(hd:d.wf p){t u:Nat×Nat}(ht:t∈(aT d 0).1.al)(hu:u∈(aT d 0).1.al)(e:t.1=u.1):t=u:=by
 have:=w8 hd
 unfold iP.all at this;have nd:=(qG.mp this).2.1;obtain⟨i,hi⟩:=nK.mp ht;obtain⟨j,hj⟩:=nK.mp hu;have k1:((aT d 0).1.al.map Prod.fst)[i]?=some t.1:=by rw[dG,hi];rfl
 have k2:((aT d 0).1.al.map Prod.fst)[j]?=some t.1:=by rw[dG,hj,e];rfl
 have il:=(dC.mp k1).1
 have:i=j:=(List.getElem?_inj il nd).mp (by rw[k1,k2])
 subst this;rw[hi]at hj;exact dq hj
noncomputable def zf(p:Int)(A:iP):List Fn:=A.aY.map (p7 p A.al)
theorem ac6(pp:p∈ig)(hd:d.wf p):EI p (aT d 0).2 (zf p (aT d 0).1) ((aT d 0).1.al.map Prod.fst) (zf p (aT d 0).1) []:=by
 obtain⟨p2,_⟩:=jf p pp;have p0:0<p:=by lia
 have hl:∀q∈(aT d 0).1.aY,∀t∈q,look (aT d 0).1.al t.1<(aT d 0).2:=λq hq t ht=>KW hd (KU hd (vg hd q hq t ht).2);refine .ac4 (λf hf=>?_) λf hf s hs=>?_
 ·obtain⟨q,hq,rfl⟩:=dD.mp hf;exact(KR p0 (hl q hq) λ_=>0).1
 ·obtain⟨q,hq,rfl⟩:=dD.mp hf;refine(KR p0 (hl q hq) λ_=>0).2.2 s λt ht e=>?_;exact EZ hd (KU hd (vg hd q hq t ht).2) (e▸hs)
end
section
variable{p:Int}{d:Drw}
theorem S7(h:x ∉ L):(L++L').takeWhile (λy=>decide (y≠x))=L++L'.takeWhile (λy=>decide (y≠x)):=by
 induction L with
 |nil=>rfl
 |cons a L ih=>
  rw[uv,List.takeWhile_cons,af (by simp;intro e;exact h (by rw[e];exact cQ)),ih λz=>h (dU _ z),uv]
end
end S21
namespace L2
open PySem PySem.Spec PyProof.Rows
section
variable{prog:Program}{w:World}{κ:Type} [DecidableEq κ] {kd:KeyKind prog w κ}
variable{s:Shared}{A:Around}{E:QV}
end
end L2
namespace L2
open PySem PySem.Spec PyProof.Rows PySem.W
variable{H:Hp}{Q:Option Value->Shared->Prop}{d:Addr}{ep:Nat}{es:Array DictEntry}{xs:Array Value}
section
variable{w:World}{prog:Program}
def oq(h:Heap)(d:Addr)(es:Array DictEntry)(ep:Nat):Prop:=∃ob,h.get? d=some ob/\ob.ExactDict/\ob.data=.dict es ep
theorem oq.typeIs{s:Shared}(x:oq s.heap d es ep):s.TypeIs (.ref d) "dict":=let ⟨ob,e,c,_⟩:=x;⟨ob,e,c.1⟩
theorem oq.up{h h':Heap}(x:oq h d es ep)(k:∀o,h.get? d=some o->h'.get? d=some o):oq h' d es ep:=let ⟨ob,e,r⟩:=x;⟨ob,k _ e,r⟩
theorem oq.lt{h:Heap}(x:oq h d es ep):d<h.objs.size:=let ⟨_,e,_⟩:=x;cX e
variable{A:Around}{E:QV}{s:Shared}{it d:Addr}{es:Array DictEntry}{i ep:Nat}
theorem S8{Q:QV}(lo:(d==sysModules)=false)(hm:oq s.heap d es ep)
  (q:Q (.ref s.heap.objs.size) { s with heap:=s.heap.push { cls:=.type "dict_keyiterator",data:=.fields #[.ref d,.int 0 0,.int es.size 0,.int ep 0] } }):wpAny (model prog w) A (pyIter (.ref d)) Q E s:=by
 have ty:=hm.typeIs;obtain⟨ob,e,c,ed⟩:=hm;refine wpAny_pyIter_slot ty PySem.F.slot_dict_iter (az PySem.F.slot_dict_iter ty PySem.F.entry_dict_iter ?_ (PySem.F.args_dict_iter_1 _));unfold Builtin.«dict.__iter__» Builtin.Dict.dictSlotNone;refine ak ?_;refine ak (wpAny_notOrdered_dict ty ?_);refine(aq (a:=Value.ref d) ?_);show wpAny _ _ ((Builtin.Dict.showsAll d) >>= _) _ _ s;unfold Builtin.Dict.showsAll;rw[ag (by rw[lo];decide)];refine ak (aq ?_);refine ak (wpAny_dictEntries e ed ?_);refine ak (wpAny_dictEpoch e ed ?_);refine ak (aC (aq ⟨_,rf,"dict_keyiterator",_,⟨_,fi _ rf,rf⟩,(Hw).lookup,?_⟩));simpa[rawInt]using q
theorem S9(p8:s.heap.IsKeyIter it d i es.size ep)(hm:oq s.heap d es ep)(cE:i<es.size)
  (q:∀h',h'.IsKeyIter it d (i+1) es.size ep->Heap.SameBut it s.heap h'->Q (some es[i].key) { s with heap:=h' }):wpAny (model prog w) A (pyNext (.ref it)) Q E s:=by
 have ty:=p8.typeIs;obtain⟨oi,ei,ci,di⟩:=id p8;obtain⟨ob,e,c,ed⟩:=id hm;unfold pyNext;refine ak (wpAny_attempt (ay (name:=Str.ofString "__next__") ty Hw (az Hw ty PySem.F.entry_dict_keyiterator_next ?_ (PySem.F.args_dict_keyiterator_next_1 _))));refine ak (aq ?_);refine ak ?_;refine ak ?_;first
  |refine ak (aM ty (aq ?_))
  |refine ak (aN ty (aq ?_))
 refine ak (wpAny_fieldsOf ei di ?_);have own:Builtin.Dict_items.ownsTuple "dict_keyiterator"=false:=by decide
 simp only[own,if_false,Bool.false_eq_true];show wpAny _ _ (if(Value.ref d == .none)=true then _ else _) _ _ s
 rw[ag (show ¬(Value.ref d == .none)=true from iJ)]
 refine ak (aq ?_);refine ak (wpAny_dictEntries e ed ?_);rw[ag (by simp)];refine ak (aq ?_);refine ak (wpAny_dictEpoch e ed ?_);rw[ag (by simp)];refine aq ?_;simp only[show ¬((i:Int)<0) from(by lia),if_false,CU,C7 cE]
 refine ak ?_;first
  |refine ak (aM ty (aq ?_))
  |refine ak (aN ty (aq ?_))
 refine ak (wpAny_isOneOf_keyiter ty ?_);show wpAny _ _ ((setField (.ref it) 1 (rawInt ((i:Int)+1))) >>= _) _ _ s;refine ak (wpAny_setField ei di (by simp) ?_);have E2:(s.heap.update it (Obj.mapFields (·.setIfInBounds 1 (rawInt ((i:Int)+1))))).IsKeyIter it d (i+1) es.size ep:=
  ⟨_,qy _ ei (Obj.isFreed_of_fields (Obj.data_mapFields di _)),((Obj.cls_mapFields ..).trans ci),(by rw[Obj.data_mapFields di];simp[rawInt])⟩
 refine ak (ao (ak ?_));refine(wpAny_isOneOf_keyiter (s:=({ s with heap:=s.heap.update it (Obj.mapFields (·.setIfInBounds 1 (rawInt ((i:Int)+1)))) }:Shared)) E2.typeIs ?_);show wpAny _ _ (pure es[i].key) _ _ (_:Shared);exact aq (aq ⟨_,rf,aq (q _ E2 (mm ..))⟩)
theorem Ta(hh:A.handled=none)(p8:s.heap.IsKeyIter it d i es.size ep)(hm:oq s.heap d es ep)(hge:es.size<=i)
  (q:∀h',Heap.ExtBut it s.heap h'->Q none { s with heap:=h' }):wpAny (model prog w) A (pyNext (.ref it)) Q E s:=by
 have ty:=p8.typeIs;obtain⟨oi,ei,ci,di⟩:=id p8;obtain⟨ob,e,c,ed⟩:=id hm;unfold pyNext;refine ak (wpAny_attempt (ay (name:=Str.ofString "__next__") ty Hw (az Hw ty PySem.F.entry_dict_keyiterator_next ?_ (PySem.F.args_dict_keyiterator_next_1 _))));refine ak (aq ?_);refine ak ?_;refine ak ?_;first
  |refine ak (aM ty (aq ?_))
  |refine ak (aN ty (aq ?_))
 refine ak (wpAny_fieldsOf ei di ?_);have own:Builtin.Dict_items.ownsTuple "dict_keyiterator"=false:=by decide
 simp only[own,if_false,Bool.false_eq_true];show wpAny _ _ (if(Value.ref d == .none)=true then _ else _) _ _ s
 rw[ag (show ¬(Value.ref d == .none)=true from iJ)]
 refine ak (aq ?_);refine ak (wpAny_dictEntries e ed ?_);rw[ag (by simp)];refine ak (aq ?_);refine ak (wpAny_dictEpoch e ed ?_);rw[ag (by simp)];refine aq ?_;simp only[show ¬((i:Int)<0) from(by lia),if_false,CU,Array.getElem?_eq_none hge]
 refine ak ?_;first
  |refine ak (aM ty (aq ?_))
  |refine ak (aN ty (aq ?_))
 show wpAny _ _ ((setField (.ref it) 0 .none) >>= _) _ _ s;refine ak (wpAny_setField ei di (by simp) ?_);show wpAny _ _ ((newExc (.type "StopIteration") []) >>= _) _ _ (_:Shared);refine ak ?_;simp only[newExc,newTuple];refine ak (aC (hd:=by size_fits) ?_);refine ak (m:=firstArgMember _ _) (wpAny_of_eq (a:=Value.none) (by first|rfl|(simp only[firstArgMember]<;>rfl)) ?_)
 refine aC (hd:=by size_fits) ?_;simp only[raiseNew];refine ak (wpAny_handled (?_:_));rw[show(A.in1).handled=none from hh]
 refine ak (aq (wpAny_throw (ak ?_)));refine(wpAny_isInstance (T := "StopIteration") (b:=true) (⟨_,fi _ rf,rf⟩) isSubtype_stop ?_);exact aq (q _ ((mm ..).extBut.push _ |>.push _))
theorem ac7(hh:A.handled=none)(I d:Addr)(cZ:d≠I)(es:Array DictEntry)(ep:Nat) :
  Walks prog w A I [I,d] [I] es.size (λi v=>∃e,es[i]?=some e/\v=e.key) (λi h=>h.IsKeyIter I d i es.size ep/\oq h d es ep) where
 sub:=λb hb=>by rw[cA.mp hb];exact cQ
 frame:=λ_ _ _ st hk=>⟨st.1.at (λo e=>hk I (by simp) o e),st.2.up (λo e=>hk d (by simp) o e)⟩
 item:=λi s Q E hi st hQ=>by
  refine S9 st.1 st.2 hi λh' E2 sb=>?_;exact hQ _ h' s.toks ⟨_,C7 hi,rf⟩ ⟨E2,st.2.up λo e=>(sb.2 d cZ).trans e⟩ λb o hb e=>sb.extBut b o (λz=>hb (by simp[z])) e
 done:=λs Q E st hQ=>(Ta hh st.1 st.2 (cn _)) λh' nk=>hQ h' s.toks λb o hb e=>nk b o (λz=>hb (by simp[z])) e
 self:=λ_ _ _ _ st hQ=>(wpAny_pyIter_keyiter st.1 hQ)
theorem ac8(lo:(d==sysModules)=false):KdlSrc prog w "dict" d d es.size (λi v=>∃e,es[i]?=some e/\v=e.key) (λh=>oq h d es ep) where
 type:=λ_ hm=>hm.typeIs
 there:=λ_ hm=>⟨hm.lt,hm.lt⟩
 keep:=λ_ _ hm hk=>hm.up λo e=>hk d (.inl rfl) o e
 notList:=by decide
 notTuple:=by decide
 hint:=λ_ _ _ _ hm hq=>kdl_hint_dict hm.typeIs hq
 iter:=λ_ _ hh hm=>⟨_,_,(λ_ _ hq=>S8 lo hm hq),ac7 hh _ d (fK hm.lt) es ep,⟨⟨_,fi _ rfl,rfl,rfl⟩,hm.up λo e=>dt _ e⟩⟩
end
section
variable{X:Cx}{aU:List (Addr×Obj)}{σ:St}{H:Hp}{s:Shared}{a:Addr}{kvs:List (Key×V)}
theorem Inv.freeze(I:Inv X aU σ H s)(e:H a=some (.dK kvs)):∃o,s.heap.get? a=some o/\Inv X aU σ (upd H a (.cT o (.dK kvs))) s:=by
 have ok:=I.cq a _ e;obtain⟨z,y,vs,r,o,es,ep,g,c⟩:=id ok;exact⟨o,g,I.write (x:=a) (e:=a) (h':=s.heap) (t':=s.toks) (by rw[e];exact True.intro) (.inl rf) (λ_ _ _ q=>q) ⟨o,g⟩ ⟨g,z,y,vs,r,o,es,ep,g,c⟩⟩
theorem Inv.Tb{o:Obj}(I:Inv X aU σ H s)(e:H a=some (.cT o (.dK kvs)))(n:∀o u,X.H₀ a≠some (.cT o u)):Inv X aU σ (upd H a (.dK kvs)) s:=by
 have ne:∀b u,H b=some u->(∀o u',u≠.cT o u')->b≠a:=λb u q hn z=>by
  rw[z,e]at q;exact hn _ _ (dq q).symm
 have nn:∀b,H b=none->b≠a:=λb q z=>by rw[z,e]at q;cases q
 refine⟨I.ok,I.os,I.bare,⟨I.base.keep,I.base.slot,λb ob q hb hx=>?_,I.base.there,λb xs q=>?_,λb ob u q=>?_,λb ps q=>?_⟩,I.loc,I.cell,?_,λx c q=>?_,λp hp=>?_,λb u q=>?_,I.len⟩
 ·have h:=I.base.free b ob q hb hx;rw[bR (nn b h)];exact h
 ·have h:=I.base.pF b xs q;rw[bR (ne b _ h λ_ _ z=>nomatch z)];exact h
 ·have h:=I.base.mv b ob u q;have hb:b≠a:=λz=>n ob u (z▸q);rw[bR hb];exact h
 ·obtain⟨ia,h⟩:=I.base.pG b ps q;exact⟨ia,by rw[bR (ne b _ h λ_ _ z=>nomatch z)];exact h⟩
 ·rw[bR (nn _ I.free)];exact I.free
 ·rw[bR (nn _ (I.mx x c q))];exact I.mx x c q
 ·obtain⟨h1,h2,h3⟩:=I.pin p hp;exact⟨h1,by rw[bR (nn _ h2)];exact h2,h3⟩
 ·by_cases hb:b=a
  ·subst hb;rw[bb]at q;cases q
   have:=(I.cq b _ e).2
   exact this
  ·rw[bR hb]at q;refine(I.cq b u q).qI (λ_ _ _ r=>r) (λc r=>?_) λc xs r=>?_
   ·rw[bR (ne c _ r λ_ _ z=>nomatch z)];exact r
   ·rw[bR (ne c _ r λ_ _ z=>nomatch z)];exact r
theorem KY{P:Program}{w:World}{k:Key}{u:Value}(h:(iu P w).is k u=true):RelV (kV k) u:=by
 rcases qH h with⟨i,t,rfl,rfl⟩|⟨x,t,rfl,rfl⟩
 ·exact⟨t,rf⟩
 ·exact⟨t,rf⟩
theorem pairs_at{P:Program}{w:World}{es:List DictEntry}{vs:List (Key×Value)}(h:Pairs (iu P w) es vs):∀{i:Nat}{e:DictEntry},es[i]?=some e->∃kv,vs[i]?=some kv/\(iu P w).is kv.1 e.key=true:=by
 induction h with
 |nil=>intro i e z;cases z
 |cons h1 _ _ ih=>
  intro i e z;cases i with
  |zero=>cases z;exact⟨_,rf,h1⟩
  |succ i=>exact ih z
noncomputable def xf(o:Obj)(a:Addr)(kvs:List (Key×V)):It:=
 ⟨λi H=>H a=some (.cT o (.dK kvs))/\i<kvs.length,λi H x H'=>H'=H/\∃kv,kvs[i]?=some kv/\x=kV kv.1,λi H=>H a=some (.cT o (.dK kvs))/\kvs.length<=i⟩
theorem Tc{o:Obj}(I:Inv X aU σ H s)(e:H a=some (.cT o (.dK kvs)))(ho:o.data=.dict es ep):oq s.heap a es ep/\es.size=kvs.length/\∀(i:Nat)(h:i<es.size),∃kv,kvs[i]?=some kv/\RelV (kV kv.1) es[i].key:=by
 obtain⟨g,z,y,vs,r,o',es',Df,g',c,d,_,hp,_⟩:=I.cq a _ e;rw[g]at g';cases g';rw[ho]at d;cases d;have hl:es.size=kvs.length:=by rw[<- vQ,hp.length,<- r.length]
 refine⟨⟨o,g,c,ho⟩,hl,λi h=>?_⟩;obtain⟨Td,h1,h2⟩:=pairs_at hp (i:=i) (e:=es[i]) (by rw[Hs,C7 h]);have hk:=r.keys;have hi:i<kvs.length:=by rw[<- hl];exact h
 refine⟨kvs[i],cP hi,?_⟩;have e2:(kvs.map (·.1))[i]?=(vs.map (·.1))[i]?:=by rw[hk]
 rw[dG,dG,cP hi,h1]at e2;have e3:kvs[i].1=Td.1:=dq e2;rw[e3];exact KY h2
theorem ac9{P:Program}{w:World}{K:Frag}{tg:Expr}(o:Obj)(es:Array DictEntry)(ep:Nat)(ho:o.data=.dict es ep)(a it:Addr)(kvs:List (Key×V))(cZ:a≠it):Turn P w K tg (xf o a kvs) [it] it (λi h=>h.IsKeyIter it a i es.size ep) where
 mem:=by simp
 obj:=λi h st b hb=>by
  have e:b=it:=by simpa using hb
  subst e;obtain⟨o,e,c,d⟩:=st;exact⟨o,e,λv z=>by rw[d]at z;cases z⟩
 keep:=λi h h' st k=>st.at λo e=>k it (by simp) o e
 item:=by
  intro X hP hw hK hc i aU s σ H E I hf st hg;subst hP hw hK;obtain⟨hg,hi⟩:=hg;obtain⟨raw,hl,hk⟩:=Tc I hg ho;have jq:i<es.size:=by rw[hl];exact hi
  obtain⟨kv,h1,h2⟩:=hk i jq;obtain⟨f0,f1,f2,f3,f4,f5⟩:=hf it (by simp);refine S9 st raw jq λh' mz sb=>?_;have I1:Inv X aU σ H { s with heap:=h' }:=I.turned (t':=s.toks) (λb o hb e=>(sb.2 b hb).trans e) f0 f1 f3 f4 f5;obtain⟨o',e,c,d⟩:=id mz;exact⟨_,rf,Am (s:={ s with heap:=h' }) e c d (by decide) ⟨kV kv.1,H,I1,h2,⟨rf,kv,h1,rf⟩,mz,λb hb=>(hf b hb).1⟩⟩
 done:=by
  intro X hP hw hK hc i aU s σ H E I hf st hg;subst hP hw hK;obtain⟨hg,hi⟩:=hg;obtain⟨raw,hl,hk⟩:=Tc I hg ho;obtain⟨f0,f1,f2,f3,f4,f5⟩:=hf it (by simp);exact Ta (I.ok.hd hc) st raw (by rw[hl];exact hi) λh' eb=>⟨rf,I.turned (t':=s.toks) (λb o hb e=>eb b o hb e) f0 f1 f3 f4 f5⟩
 self:=λ_ _ _ _ _ st h=>wpAny_pyIter_keyiter st h
def Te(td:TE):TI:=λσ H R=>td σ H λx H1=>∃a kvs,x=.ref a/\H1 a=some (.dK kvs)/\∀o,R (xf o a kvs) (upd H1 a (.cT o (.dK kvs)))
theorem tL{tg l:Expr}{tl:TE}(hl:PE X l tl):PI X tg l (Te tl):=by
 intro aU s σ H R I h;refine bj (hl aU s σ H _ I h) λv s1 ⟨x,H1,I1,r1,q1⟩=>?_;obtain⟨a,kvs,e,hq,q⟩:=q1;subst e;cases r1;obtain⟨o,g,I2⟩:=I1.freeze hq;obtain⟨z,lo,vs,r,o',es,ep,g',c,d,_⟩:=I1.cq a _ hq;rw[g]at g';cases g';have cZ:a≠s1.heap.objs.size:=fK (cX g);refine S8 lo ⟨o,g,c,d⟩ ?_;refine⟨s1.heap.objs.size,[s1.heap.objs.size],_,_,_,rf,I2.kept (t':=s1.toks) λb o e=>dt _ e,ac9 o es ep d a _ kvs cZ,⟨_,fi _ rf,rf,rf⟩,λb hb=>?_,q o⟩;have e:b=s1.heap.objs.size:=by simpa using hb
 subst e;exact I2.jZ (cn _) (I2.cq.fresh (cn _))
end
theorem ada:typeLookup (.type "list") "keys"=pure none:=by rw[typeLookup_type,aO];kernel_rfl
section
variable{prog:Program}{w:World}{A:Around}{E:QV}{s:Shared}
theorem adb{a:Addr}{k:Nat}(hx:s.heap.get? a=some { cls:=.type "list",data:=.seq xs k })(hA:A.handled=none)
  (h:∀h' tk,(∀b o,s.heap.get? b=some o->h'.get? b=some o)->Q none { s with heap:=h',toks:=tk }):wpAny (model prog w) A (getAttr? (.ref a) "keys") Q E s:=by
 obtain⟨hp,g,d,tk,os⟩:=s;have ty:∀z,(⟨hp,g,d,z,os⟩:Shared).TypeIs (.ref a) "list":=λ_=>⟨_,hx,rfl⟩;have e1:=sub_AttributeError;have e2:=F.slot_list_getattribute.lookup;have e3:=F.slot_list_getattribute.bind (.ref a);have e4:=am_list_getattr_none;unfold getAttr? getAttrBy? getAttrBy;repeat(any_goals (first|assumption|exact ty _|((with_reducible show wpAny _ _ (call (Value.builtin "list.__getattribute__") _ _) _ _ _);refine call_meets F.slot_list_getattribute (ty _) am_entry_list_getattribute (F.args_list_getattribute_2 _ _) (meets_getattribute_miss_list a xs k #[] "keys" _ ada (by decide +kernel) (by decide +kernel)) ⟨hx,hA,λh' z e hn=>?_⟩)|wp_step))
 obtain⟨t1,t2,he⟩:=hn.there;show wpAny _ _ (getattributeRaised _ _ _ _ _ _ _) _ _ _;unfold getattributeRaised;repeat(any_goals (first|assumption|wp_step))
 exact h _ _ hn.keeps
theorem E3:entryFor table "dict.update.loop"=some Builtin.«dict.update.loop»:=entryFor_of_tree (by kernel_rfl)
theorem vh:plainId "dict.update.loop"=true:=by decide +kernel
variable{κ:Type} [DecidableEq κ] {knd:KeyKind prog w κ}
def E4(knd:KeyKind prog w κ)(h:Heap)(u:Value)(kv:κ×Value):Prop:=∃t key o n,u=.ref t/\h.get? t=some o/\o.cls=.type "tuple"/\o.data=.seq #[key,kv.2] n/\knd.is kv.1 key=true
theorem ade{l I:Addr}{nn:Nat}{ps:List (κ×Value)}{R:Result->Shared->Prop}(hh:A.handled=none)(cB:xs.size=ps.length)(BA:d≠I)(ji:d≠l)(hlI:l≠I) :
  ∀(k i:Nat)(s:Shared)(kvs:List (κ×Value)),ps.length-i=k->i<=ps.length->s.heap.IsListIter I l i->s.heap.get? l=some { cls:=.type "list",data:=.seq xs nn }->
   (∀(j:Nat)(u:Value)(kv:κ×Value),xs[j]?=some u->ps[j]?=some kv->E4 knd s.heap u kv)->s.heap.DictOf knd d kvs->kvs.length+(ps.length-i)<=sizeLine->
   (∀h' tk,(∀b o,b≠d->b≠I->s.heap.get? b=some o->h'.get? b=some o)->h'.DictOf knd d (merged kvs (ps.drop i))->R (.ok (.ret .none)) { s with heap:=h',toks:=tk })->
   codeAny (model prog w) A (.builtin "dict.update.loop" ⟨[.ref d,.ref I,rawInt (i:Int),.none],[]⟩) R s:=by
 have zg:A.in1.handled=none:=by simp[hh]
 intro k;induction k with
 |zero=>
  intro i s kvs hk hi p8 hl hp hd hz hR;have e:i=ps.length:=by lia
  subst e;refine aQ E3 ?_;rw[xQ vh _];show wpAny _ A.in1 (pyNext (.ref I) >>= _) _ _ s;refine ak (wpAny_pyNext_list_end zg p8 ⟨_,hl,rf,nn,rf⟩ (by rw[Array.getElem?_eq_none (by rw[cB];exact cn _)]) λh' eb=>?_);show wpAny _ A.in1 (Builtin.Dict.addKeywords d [] >>= _) _ _ _;refine ak (aq ?_);refine aq (hR h' s.toks (λb o _ hb e=>eb b o hb e) ?_);rw[List.drop_length];exact hd.extBut eb BA
 |succ k ih=>
  intro i s kvs hk hi p8 hl hp hd hz hR;have cE:i<ps.length:=by lia
  have hx:xs[i]?=some (xs[i]'(by rw[cB];exact cE)):=C7 _;have hq:ps[i]?=some ps[i]:=cP cE;obtain⟨t,key,o,n,eu,ht,hc,adf,KZ⟩:=hp i _ _ hx hq;rw[eu]at hx;refine aQ E3 ?_;rw[xQ vh _];show wpAny _ A.in1 (pyNext (.ref I) >>= _) _ _ s;refine ak (wpAny_pyNext_list_item p8 ⟨_,hl,rf,nn,rf⟩ hx λh1 adg K0=>?_);have htI:t≠I:=λz=>by
   obtain⟨oi,gi,ci,_⟩:=p8;rw[z,gi]at ht;cases ht;rw[ci]at hc;exact absurd hc (by decide)
  have Kl:t≠d:=λz=>by
   obtain⟨od,es,ep,gd,cd,_⟩:=hd;rw[z,gd]at ht;cases ht;rw[cd.1]at hc;exact absurd hc (by decide)
  have iq:h1.get? t=some o:=(K0.2 t htI).trans ht;refine ak (ao (ak (wpAny_tryCatch ?_)));unfold Builtin.Dict.pairItems;refine ak (aA (s:={ s with heap:=h1 }) (T := "tuple") ⟨o,iq,hc⟩ ?_);rw[af (by decide)];refine ak (wpAny_seqItems (s:={ s with heap:=h1 }) iq adf (aq ?_));show wpAny _ _ (holding [key,ps[i].2] (dictSet d key ps[i].2)) _ _ _;have ot:h1.DictOf knd d kvs:=hd.sameBut K0 BA;refine ao (wpAny_dictSet_pairs (s:={ s with heap:=h1 }) (hsz:=by lia) KZ ot λh2 iD BB=>?_);have kp:∀b o,b≠d->b≠I->s.heap.get? b=some o->h2.get? b=some o:=λb o zh zi e=>(BB.2 b zh).trans ((K0.2 b zi).trans e);refine aq ⟨aR vh _,?_⟩;have jm:(stored kvs ps[i].1 ps[i].2).length<=kvs.length+1:=by
   unfold stored;split
   ·rw[bu];lia
   ·rw[cm];exact cn _
  refine ih (i+1) { s with heap:=h2,toks:=s.toks+1 } (stored kvs ps[i].1 ps[i].2) (by lia) cE (adg.at λo e=>(BB.2 I BA.symm).trans e) (kp l _ ji.symm hlI hl) (λj u kv zh zi=>?_) iD (by lia) λh' tk k' jc=>?_
  ·obtain⟨t',adh,o',n',e1,e2,e3,e4,e5⟩:=hp j u kv zh zi;refine⟨t',adh,o',n',e1,kp t' o' (λz=>?_) (λz=>?_) e2,e3,e4,e5⟩
   ·obtain⟨od,es,ep,gd,cd,_⟩:=hd;rw[z,gd]at e2;cases e2;rw[cd.1]at e3;exact absurd e3 (by decide)
   ·obtain⟨oi,gi,ci,_⟩:=p8;rw[z,gi]at e2;cases e2;rw[ci]at e3;exact absurd e3 (by decide)
  ·refine hR h' tk (λb o zh zi e=>k' b o zh zi (kp b o zh zi e)) ?_;rw[C2 cE];exact jc
end
section
variable{prog:Program}{w:World}{A:Around}{E:QV}{s:Shared}
variable{κ:Type} [DecidableEq κ] {knd:KeyKind prog w κ}
theorem adi{l:Addr}{nn:Nat}{ps:List (κ×Value)}{Q:QV}(hh:A.handled=none)(cB:xs.size=ps.length)(hl:s.heap.get? l=some { cls:=.type "list",data:=.seq xs nn })
  (hp:∀(j:Nat)(u:Value)(kv:κ×Value),xs[j]?=some u->ps[j]?=some kv->E4 knd s.heap u kv) (hz:ps.length<=sizeLine)
  (h:∀h' tk,(∀b o,s.heap.get? b=some o->h'.get? b=some o)->h'.DictOf knd s.heap.objs.size (merged [] ps)->Q (.ref s.heap.objs.size) { s with heap:=h',toks:=tk }) :
  wpAny (model prog w) A (call (.type "dict") [.ref l]) Q E s:=by
 refine callType_codes (Q₁:=λobj s₁=>obj=.ref s.heap.objs.size/\s₁={ s with heap:=s.heap.push { cls:=.type "dict",data:=.dict #[] } }) F.kt_called_dict (F.kt_typeCall_dict_1 _) F.entry_dict_init (kt_code_dict_new _ ⟨rf,rf⟩) ?_;rintro obj s₁ ⟨rfl,rfl⟩;have kr:(s.heap.push { cls:=.type "dict",data:=.dict #[] }).DictOf knd s.heap.objs.size []:=Heap.DictOf.new s.heap;refine⟨kr.typeIs,F.args_dict_init_2 _ _,?_⟩;have nq:(s.heap.push { cls:=.type "dict",data:=.dict #[] }).get? l=some { cls:=.type "list",data:=.seq xs nn }:=dt _ hl;have cE:l<s.heap.objs.size:=cX hl;have k1:∀b o,s.heap.get? b=some o->(s.heap.push { cls:=.type "dict",data:=.dict #[] }).get? b=some o:=λb o e=>dt _ e;have big:s.heap.objs.size<(s.heap.push { cls:=.type "dict",data:=.dict #[] }).objs.size:=by rw[lM];exact Nat.lt_succ_self _
 generalize s.heap.push { cls:=.type "dict",data:=.dict #[] }=g1 at kr nq k1 big |-;unfold Builtin.«dict.__init__»;refine ak ?_;unfold Builtin.Dict.selfAndRest;refine ak (wpAny_notOrdered_dict (s:={ s with heap:=g1 }) kr.typeIs ?_);show wpAny _ _ (pure (s.heap.objs.size,[Value.ref l])) _ _ _;refine aq ?_;show wpAny _ _ (Builtin.Dict.updateFrom "dict.__init__" s.heap.objs.size (.ref l) [] .none) _ _ _;unfold Builtin.Dict.updateFrom;refine ak (aA (s:={ s with heap:=g1 }) (T := "list") ⟨_,nq,rf⟩ ?_);rw[af (by decide)];have vi:A.in1.in1.handled=none:=by simp[hh]
 refine ak (adb (s:={ s with heap:=g1 }) nq vi λg2 tk k2=>?_);have iD:g2.DictOf knd s.heap.objs.size []:=by
  obtain⟨o,es,ep,e,r⟩:=kr;exact⟨o,es,ep,k2 _ _ e,r⟩
 have jm:=k2 _ _ nq;have Tf:s.heap.objs.size<g2.objs.size:=by
  obtain⟨o,es,ep,e,_⟩:=iD;exact cX e
 have ltl:l<g2.objs.size:=cX jm;rw[af (by rfl)];refine ak (wpAny_rule ?_);refine ak (wpAny_pyIter_list (s:={ s with heap:=g2,toks:=tk }) (items:=xs) ⟨_,jm,rf,nn,rf⟩ ?_);refine aq ⟨aR vh _,?_⟩;refine ade (knd:=knd) (ps:=ps) (nn:=nn) (xs:=xs) (l:=l) (by simp[hh]) cB (fK Tf) (lK cE) (fK ltl) ps.length 0 _ [] (by lia) (jv _) ⟨_,fi _ rf,rf,rf⟩ (dt _ jm) (λj u kv e1 e2=>?_) ?_ (by simpa using hz) λh' xg k3 xh=>?_
 ·obtain⟨t,key,o,n,a1,a2,a3⟩:=hp j u kv e1 e2;exact⟨t,key,o,n,a1,dt _ (k2 _ _ (k1 _ _ a2)),a3⟩
 ·obtain⟨o,es,ep,e,r⟩:=iD;exact⟨o,es,ep,dt _ e,r⟩
 ·refine⟨rf,h h' xg (λb o e=>?_) xh⟩;have hb:b<s.heap.objs.size:=cX e;exact k3 b o (fK hb) (fK (Nat.lt_trans hb Tf)) (dt _ (k2 _ _ (k1 _ _ e)))
end
section
variable{X:Cx}{K:Frag}
def md(K:Frag)(H:Hp)(zs:List V)(kvs:List (Key×V)):Prop:=zs.length=kvs.length/\∀(i:Nat)(x:V)(kv:Key×V),zs[i]?=some x->kvs[i]?=some kv->∃t,x=.ref t/\bq K H t [kV kv.1,kv.2]
theorem md.mono{H':Hp}{zs:List V}{kvs:List (Key×V)}(h:md K H zs kvs)(s:aW H H'):md K H' zs kvs:=⟨h.1,λi x kv e1 e2=>let ⟨t,e,g⟩:=h.2 i x kv e1 e2;⟨t,e,s.bc g⟩⟩
theorem md.nil:md K H [] []:=⟨rfl,λi x kv e=>by cases e⟩
theorem md.snoc{zs:List V}{kvs:List (Key×V)}{t:Addr}{kv:Key×V}(h:md K H zs kvs)(g:bq K H t [kV kv.1,kv.2]):md K H (zs++[.ref t]) (kvs++[kv]):=by
 refine⟨by rw[cm,cm,h.1];rfl,λi x q e1 e2=>?_⟩;by_cases hi:i<zs.length
 ·rw[iK hi]at e1;rw[iK (by rw[<- h.1];exact hi)]at e2;exact h.2 i x q e1 e2
 ·rw[jb (by lia)]at e1;rw[jb (by rw[<- h.1];lia),<- h.1]at e2;generalize i-zs.length=j at e1 e2;cases j with
  |zero=>cases e1;cases e2;exact⟨t,rf,g⟩
  |succ j=>cases e1
theorem Tg:∀{a:List (Key×V)}{b:List (Key×Value)}{x:Key×V}{y:Key×Value},KV a b->(x.1=y.1/\RelV x.2 y.2)->KV (a++[x]) (b++[y])
 |_,_,_,_,.nil,h=>.cons h .nil
 |_,_,_,_,.cons r t,h=>.cons r (Tg t h)
def K1(K:Frag):List V->Hp->VK->Prop:=λvs H Q=>∃l zs kvs,vs=[.ref l]/\H l=some (.lst zs)/\md K H zs kvs/\∀p,H p=none->Q (.ref p) (upd H p (.dK (iF [] kvs)))
theorem E5(hK:X.K=K)(hc:X.calm=true):ib X (.type "dict") (K1 K):=by
 subst hK;intro aU s σ H vs us Q I r h;obtain⟨l,zs,kvs,rfl,g,hP,q⟩:=h;obtain⟨u,rfl,ru⟩:=vals1 r;cases ru;obtain⟨z,its,n,rv,hl⟩:=I.cq l _ g;have cB:its.length=kvs.length:=by rw[<- rv.length,hP.1]
 have Kq:∃ps:List (Key×Value),KV kvs ps/\∀(j:Nat)(u:Value)(kv:Key×Value),its.toArray[j]?=some u->ps[j]?=some kv->E4 (iu X.prog X.w) s.heap u kv:=by
  have key:∀m,m<=kvs.length->∃ps:List (Key×Value),KV (kvs.take m) ps/\∀(j:Nat)(u:Value)(kv:Key×Value),its.toArray[j]?=some u->ps[j]?=some kv->E4 (iu X.prog X.w) s.heap u kv:=by
   intro m;induction m with
   |zero=>exact λ_=>⟨[],.nil,λj u kv _ e=>by cases e⟩
   |succ m ih=>
    intro hm;obtain⟨ps,h1,h2⟩:=ih (by lia);have hq:kvs[m]?=some kvs[m]:=cP (by lia);have hx:zs[m]?=some (zs[m]'(by rw[hP.1];lia)):=cP _;obtain⟨t,ex,ht⟩:=hP.2 m _ _ hx hq;obtain⟨u,hu,ru⟩:=rv.get hx;rw[ex]at ru;cases ru;obtain⟨ts,rt,⟨o,ho,Ti,nn,hd⟩,_⟩:=I.tuple ht
    match ts,rt with
    |_,.cons r1 (.cons r2 .nil)=>
     rename_i u1 u2
     have pl:ps.length=m:=by rw[<- h1.length,gy];lia
     refine⟨ps++[(kvs[m].1,u2)],?_,λj u kv e1 e2=>?_⟩
     ·rw[gO,hq];exact Tg h1 ⟨rf,r2⟩
     ·by_cases hj:j<ps.length
      ·rw[iK hj]at e2;exact h2 j u kv e1 e2
      ·have:j=m:=by
        have:=(dC.mp e2).1
        rw[cm]at this;simp at this;lia
       subst this;rw[jb (by lia),pl,Nat.sub_self]at e2;cases e2;have uR:its[j]?=some u:=by simpa using e1
       rw[hu]at uR;cases uR;exact⟨t,u1,o,nn,rf,ho,Ti,hd,sW r1⟩
  obtain⟨ps,h1,h2⟩:=key kvs.length (cn _);rw[iU]at h1;exact⟨ps,h1,h2⟩
 obtain⟨ps,rel,hp⟩:=Kq;have kl:kvs.length<=sizeLine:=by rw[<- hP.1];exact z
 refine adi (knd:=iu X.prog X.w) (ps:=ps) (I.ok.hd hc) (by rw[eK,cB,rel.length]) hl hp (by rw[<- rel.length];exact kl) λh' tk hk hd=>?_;have I1:Inv X aU σ H { s with heap:=h',toks:=tk }:=I.kept hk;have fp:iV X aU H s.heap.objs.size:=I.jZ (cn _) I.fresh;have ml:=Bg kvs [];have I2:=I1.wB (o:=.dK (iF [] kvs)) fp (Bd (by have:([]:List (Key×V)).length=0:=rfl;lia) (beq_eq_false_iff_ne.mpr (Ne.symm (fK I.big))) (KV.merge rel .nil) hd);exact⟨.ref _,_,I2,rf,q _ fp.1⟩
end
abbrev Tj(κ:Type):=κ×Addr×V
section
variable{P:Program}{w:World}{κ:Type} [DecidableEq κ] {kn:HeapKind P w κ} {H:Hp} {h:Heap} {a:Addr} {xs:List (Tj κ)}
end
section
variable{X:Cx}{κ:Type} [DecidableEq κ] {kn:HeapKind X.prog X.w κ} {R:Hp->κ->Addr->Prop} {aU:List (Addr×Obj)} {σ:St} {H:Hp} {s:Shared} {a b:Addr} {xs:List (Tj κ)} {k:κ} {v d:V} {u r:Value} {A:Around} {E:QV}
end
section
variable{X:Cx}{κ:Type} [DecidableEq κ] {kn:HeapKind X.prog X.w κ} {R:Hp->κ->Addr->Prop} {o i e f value:Expr} {pos oK jy iE:Pos} {td ty tv tx:TE}
end
abbrev Pr:=List Int×List Int
theorem items_int{P:Program}{w:World}:∀{ks:List Int}{us:List Value},Vals (ks.map V.int) us->ItemsAre (intKind P w) ks us
 | [],_,.nil=>.nil
 |k::ks,_,.cons r t=>by
  obtain⟨tk,rfl⟩:=r;exact .cons (by show Value.isInt k (.int k tk)=true;simp[Value.isInt]) (items_int t)
section
variable{X:Cx}{K:Frag}{P:Program}{w:World}{aU:List (Addr×Obj)}{σ:St}{H:Hp}{s:Shared}
end
section
variable{K:Frag}{H H':Hp}{VS:List V}{ps:List Pr}
end
end L2
namespace L2
open PySem PySem.Spec PyProof.Rows
end L2
namespace L2
open PySem PySem.Spec PyProof.Rows PySem.W
variable{H:Hp}{a:Addr}{kvs:List (Key×V)}{o:Obj}
section
variable{X:Cx}{K:Frag}
def adj(t:TS):TS:=λD σ H=>∃a kvs,H a=some (.dK kvs)/\t { D with nx:=λσ' H'=>(∃o,H' a=some (.cT o (.dK kvs)))/\D.nx σ' (upd H' a (.dK kvs)) } σ H
theorem Tn{aU:List (Addr×Obj)}{σ:St}{s:Shared}(I:Inv X aU σ H s)(e:H a=some (.dK kvs)):∀o u,X.H₀ a≠some (.cT o u):=λo u z=>by
 have:=I.base.mv a o u z
 rw[e]at this;cases this
theorem K2{st:Stmt}{t:TS}(h:PS X st t):PS X st (adj t):=by
 intro aU s σ H D I q;obtain⟨a,kvs,e,q⟩:=q;have n:=Tn I e;refine bj (h aU s σ H _ I q) λf s' q=>?_;cases f with
 |next=>
  obtain⟨σ',H',I',⟨o,g⟩,q⟩:=q;exact⟨σ',_,I'.Tb g n,q⟩
 |ret v=>exact q
 |brk=>exact q
 |cont=>exact q
def To(te:TE):TE:=λσ H Q=>∃a kvs,H a=some (.dK kvs)/\te σ H λv H'=>(∃o,H' a=some (.cT o (.dK kvs)))/\Q v (upd H' a (.dK kvs))
theorem zj{e:Expr}{te:TE}(h:PE X e te):PE X e (To te):=by
 intro aU s σ H Q I q;obtain⟨a,kvs,e',q⟩:=q;have n:=Tn I e';refine bj (h aU s σ H _ I q) λv s' q=>?_;obtain⟨x,H',I',r,⟨o,g⟩,q⟩:=q;exact⟨x,_,I'.Tb g n,r,q⟩
theorem vj{H':Hp}(e:H a=some (.dK kvs))(s:aW (upd H a (.cT o (.dK kvs))) H'):aW H (upd H' a (.dK kvs)):=λb u q=>by
 by_cases hb:b=a
 ·subst hb;rw[e]at q;cases q;exact bb
 ·rw[bR hb];exact s b u (by rw[bR hb];exact q)
theorem Tp{g:TG}{tb:TS}{D:Ends}{σ:St}(Pv:Nat->St->Hp->Prop)(h0:Pv 0 σ H)(hf:∀i σ H,Pv i σ H->H a=some (.cT o (.dK kvs)))
  (hs:∀i kv σ H,kvs[i]?=some kv->Pv i σ H->g (kV kv.1) σ H λσ2 H2=>tb { D with nx:=Pv (i+1),ct:=Pv (i+1),bk:=D.nx } σ2 H2) (hd:∀σ H,Pv kvs.length σ H->D.nx σ H) :
  ∃W:Nat->Nat->St->Hp->Prop,(∃m,W 0 m σ H)/\∀i m σ H,W i m σ H->
   ((xf o a kvs).stop i H/\D.nx σ H)\/((xf o a kvs).go i H/\∃N:St->Hp->Prop,(∀σ' H',N σ' H'->∃m',m'<m/\W (i+1) m' σ' H')/\∀x H',(xf o a kvs).pN i H x H'->g x σ H' λσ2 H2=>tb { D with nx:=N,ct:=N,bk:=D.nx } σ2 H2):=by
 refine⟨λi m σ H=>m=kvs.length-i/\i<=kvs.length/\Pv i σ H,⟨kvs.length,by simp,jv _,h0⟩,?_⟩;rintro i m σ H ⟨rfl,hi,p⟩;by_cases cE:i<kvs.length
 ·refine .inr ⟨⟨hf i σ H p,cE⟩,Pv (i+1),λσ' H' p'=>⟨kvs.length-(i+1),by lia,rf,cE,p'⟩,λx H' y=>?_⟩;obtain⟨rfl,kv,hk,rfl⟩:=y;exact hs i kv σ _ hk p
 ·have e:i=kvs.length:=by lia
  subst e;exact .inl ⟨⟨hf _ σ H p,cn _⟩,hd σ H p⟩
theorem zk{H1:Hp}{cp:St}{tt:TT}{te:TE}{Q:VK}(Pv:Nat->Hp->List V->Prop)(hq:H1 a=some (.cT o (.dK kvs)))(hz:kvs.length<=sizeLine)(h0:Pv 0 H1 [])(cB:∀i H zs,Pv i H zs->zs.length<=i)
  (step:∀i kv H zs,kvs[i]?=some kv->aW H1 H->Pv i H zs->tt (some (kV kv.1)::cp) H λc H4=>if c=true then te (some (kV kv.1)::cp) H4 λv H5=>ky 1 cp H1 (Pv (i+1)) (some (kV kv.1)::cp) H5 (zs++[v])else ky 1 cp H1 (Pv (i+1)) (some (kV kv.1)::cp) H4 zs)
  (done:∀H zs,aW H1 H->Pv kvs.length H zs->∀p,H p=none->Q (.ref p) (upd H p (.lst zs))) :
  ∃W:Nat->Nat->St->Hp->List V->Prop,(∃m,W 0 m (List.replicate 1 none++cp) H1 [])/\mV (xf o a kvs) (cG 0) tt te Q W:=by
 refine yy (n:=kvs.length) Pv hz h0 cB (λi H sm hi=>⟨sm _ _ hq,hi⟩) (λH sm=>⟨sm _ _ hq,cn _⟩) (λi o' H zs hi ho sm pv x H2 y=>?_) done;obtain⟨w,rfl⟩:=yB ho;obtain⟨rfl,kv,hk,rfl⟩:=y;exact step i kv _ zs hk sm pv
def adk:List V->Hp->VK->Prop:=λvs H Q=>∃a kvs,vs=[.ref a]/\Rd H a (.dK kvs)/\∀l,H l=none->Q (.ref l) (upd H l (.lst (kvs.map λkv=>kV kv.1)))
theorem Tq{P:Program}{w:World}:∀{es:List DictEntry}{vs:List (Key×Value)}{kvs:List (Key×V)},Pairs (iu P w) es vs->KV kvs vs->Vals (kvs.map λkv=>kV kv.1) (es.map λe=>e.key)
 |_,_,_,.nil,.nil=>.nil
 |_,_,_,.cons h1 _ t,.cons r rt=>.cons (by dsimp only;rw[r.1];exact KY h1) (Tq t rt)
theorem adl(hc:X.calm=true):ib X (.type "list") adk:=by
 intro aU s σ H vs us Q I r h;obtain⟨a,kvs,rfl,g,q⟩:=h;obtain⟨u,rfl,ru⟩:=vals1 r;cases ru;obtain⟨z,lo,vs,rel,ob,es,ep,hm,ed,dd,_,hp,_⟩:=qX I.cq g;have E6:es.size=kvs.length:=by rw[<- vQ,hp.length,<- rel.length]
 refine kdl_call (ac8 (prog:=X.prog) (w:=X.w) (es:=es) (ep:=ep) lo) (I.ok.hd hc) ⟨ob,hm,ed,dd⟩ (by rw[E6];exact z) λh' tk acc c hk hS hI=>?_;have ev:acc.toList=es.toList.map λe=>e.key:=by
  refine List.ext_getElem? λj=>?_;rw[dG];cases ej:acc.toList[j]? with
  |some v=>
   obtain⟨e,h1,h2⟩:=hI.2 j v (by rw[<- Hs];exact ej);rw[Hs,h1,h2];rfl
  |none=>
   have hj:acc.size<=j:=by
    have:=List.getElem?_eq_none_iff.mp ej
    rwa[vQ]at this
   rw[jJ (by rw[vQ,<- hI.1];exact hj)];rfl
 have I1:Inv X aU σ H { s with heap:=h',toks:=tk }:=I.kept hk;have fp:iV X aU H s.heap.objs.size:=I.jZ (cn _) I.fresh;have I2:=I1.wB (o:=.lst (kvs.map λkv=>kV kv.1)) fp ⟨by rw[bu];exact z,acc.toList,c,by rw[ev];exact Tq hp rel,hS⟩;exact⟨.ref _,_,I2,rf,q _ fp.1⟩
def adm:List V->Hp->VK->Prop:=λvs H Q=>∃a kvs,vs=[.ref a]/\Rd H a (.dK kvs)/\∀p,H p=none->Q (.ref p) (upd H p (.dK kvs))
theorem adn:ib X (.type "dict") adm:=by
 intro aU s σ H vs us Q I r h;obtain⟨a,kvs,rfl,g,q⟩:=h;obtain⟨u,rfl,ru⟩:=vals1 r;cases ru;exact abT I g λp s' hn I'=>⟨.ref p,_,I',rf,q p hn⟩
theorem zl:bootBuiltins "dict"=some (.type "dict"):=by decide +kernel
end
end L2
namespace S21
open PySem L2 Bw
variable{D:List (Nat×Fn)}{F:Nat×Fn->Nat×Fn}{H H':Hp}{M i j s:Nat}{R:dO}{a d:Addr}{f:Fn}{fd:FuncData}{kvs:List (Key×V)}{p:Int}{t:Nat×Int}{te:TE}{σ:St}
noncomputable def rK(t:Nat×Int):Key×V:=(Sum.inl (t.1:Int),V.int t.2)
noncomputable def lB(R:dO)(s:Nat):Int:=((R.find? λt=>decide (t.1=s)).map (·.2)).getD 0
theorem me{a b:Nat}:((Sum.inl (a:Int):Key)=Sum.inl (b:Int))↔a=b:=⟨λh=>by have:=Sum.inl.inj h;lia,λh=>by rw[h]⟩
theorem BC(R:dO)(s:Nat):da (R.map rK) (Sum.inl (s:Int))=(R.find? λt=>decide (t.1=s)).map λt=>V.int t.2:=by
 induction R with
 |nil=>rfl
 |cons t R ih=>
  rw[gN,ux];by_cases e:t.1=s
  ·rw[n6 (me.mpr e),aD e];rfl
  ·rw[og λz=>e (me.mp z),ae e,ih]
theorem BD(R:dO)(s:Nat):(da (R.map rK) (Sum.inl (s:Int))).getD (.int 0)=.int (lB R s):=by
 rw[BC];unfold lB;cases R.find? λt=>decide (t.1=s)<;>rfl
theorem E7(nd:(R.map Prod.fst).Nodup)(ht:t∈R):(R.find? λu=>decide (u.1=t.1))=some t:=by
 induction R with
 |nil=>cases ht
 |cons u R ih=>
  rw[gN]at nd;obtain⟨n1,n2⟩:=xO.mp nd;rw[ux];rcases(cV.mp ht)with(rfl|ht)
  ·rw[aD rfl]
  ·rw[ae λe=>n1 (by rw[e];exact oI ht)];exact ih n2 ht
theorem BE(nd:(R.map Prod.fst).Nodup)(ht:t∈R):lB R t.1=t.2:=by unfold lB;rw[E7 nd ht];rfl
theorem E8(h:s ∉ R.map Prod.fst):lB R s=0:=by
 unfold lB;rw[xP.mpr λt ht=>by simp;intro e;exact h (by rw[<- e];exact oI ht)];rfl
noncomputable def vk(R:dO)(s:Nat)(c:Int):dO:=if s∈R.map Prod.fst then R.map λt=>if t.1=s then(t.1,c)else t else R++[(s,c)]
theorem Tr{c:Int}(nd:(R.map Prod.fst).Nodup):((vk R s c).map Prod.fst).Nodup:=by
 unfold vk;split
 ·rename_i h
  have:(R.map λt=>if t.1=s then(t.1,c)else t).map Prod.fst=R.map Prod.fst:=by
   rw[mn];refine uw λt _=>?_;show(if t.1=s then(t.1,c)else t).1=t.1
   split<;>rfl
  rw[this];exact nd
 ·rename_i h
  rw[du];refine qG.mpr ⟨nd,xO.mpr ⟨λz=>(nomatch z),List.nodup_nil⟩,λa ha b hb e=>h ?_⟩;have hb:b=s:=cA.mp hb;rw[<- hb,<- e];exact ha
theorem Ts(R:dO)(s:Nat)(c:Int):(vk R s c).length<=R.length+1:=by
 unfold vk;split
 ·rw[bu];lia
 ·rw[cm];exact cn _
theorem ado(R:dO)(s:Nat):((R.map rK).any λkv=>decide (kv.1=Sum.inl (s:Int)))=decide (s∈R.map Prod.fst):=by
 induction R with
 |nil=>rfl
 |cons t R ih=>
  rw[gN,List.any_cons,ih,gN];by_cases e:t.1=s
  ·have:decide ((rK t).1=Sum.inl (s:Int))=true:=aD (me.mpr e)
   have h2:s∈t.1::R.map Prod.fst:=by rw[e];exact cQ
   rw[this,aD h2];rfl
  ·have:decide ((rK t).1=Sum.inl (s:Int))=false:=ae λz=>e (me.mp z)
   rw[this,Bool.false_or];exact decide_eq_decide.mpr ⟨λh=>dU _ h,λh=>(cV.mp h).resolve_left λz=>e z.symm⟩
theorem K3(R:dO)(s:Nat)(c:Int):eS (R.map rK) (Sum.inl (s:Int)) (.int c)=(vk R s c).map rK:=by
 unfold eS vk;rw[ado];by_cases h:s∈R.map Prod.fst
 ·rw[af (by simpa using h),af h,mn,mn];refine uw λt _=>?_;show(if(rK t).1=Sum.inl (s:Int)then((rK t).1,V.int c)else rK t)=rK (if t.1=s then(t.1,c)else t)
  by_cases e:t.1=s
  ·rw[af (show(rK t).1=Sum.inl (s:Int) from me.mpr e),af e];rfl
  ·rw[ag (show ¬(rK t).1=Sum.inl (s:Int) from λz=>e (me.mp z)),ag e]
 ·rw[ag (by simpa using h),ag h,du];rfl
theorem Tt(s:Nat)(c:Int)(x:Nat):lB (vk R s c) x=if x=s then c else lB R x:=by
 have h:=Bb (R.map rK) (Sum.inl (s:Int)) (Sum.inl (x:Int)) (.int c);have h1:=BD (vk R s c) x;rw[<- K3,h]at h1;by_cases e:x=s
 ·rw[af (me.mpr e)]at h1;rw[af e];exact(V.int.inj h1).symm
 ·rw[ag λz=>e (me.mp z),BD]at h1;rw[ag e];exact(V.int.inj h1).symm
theorem K4{A:List (Key×V)}{k:Key}{v:V}(h:da A k=some v):k∈A.map Prod.fst:=by
 unfold da at h;cases e:A.find? λkv=>decide (kv.1=k) with
 |none=>rw[e]at h;cases h
 |some kv=>
  have:=List.find?_some e
  have e2:kv.1=k:=by simpa using this
  rw[<- e2];exact oI (Hv e)
theorem vm:∀(L A:List (Key×V)),((A++L).map Prod.fst).Nodup->iF A L=A++L
 | [],A,_=>by rw[iT];rfl
 |kv::L,A,nd=>by
  have hn:da A kv.1=none:=by
   cases e:da A kv.1 with
   |none=>rfl
   |some v=>
    have:=K4 e
    rw[du]at nd;exact absurd rf ((qG.mp nd).2.2 kv.1 this kv.1 (by rw[gN];exact cQ))
  show iF (eS A kv.1 kv.2) L=_;rw[Eb _ hn,vm L (A++[(kv.1,kv.2)]) (by rw[i4];exact nd),i4];rfl
theorem xi(R:dO)(nd:(R.map Prod.fst).Nodup):((R.map rK).map Prod.fst).Nodup:=by
 rw[mn]
 have:(Prod.fst∘rK)=(λs:Nat=>(Sum.inl (s:Int):Key))∘(Prod.fst:Nat×Int->Nat):=rfl
 rw[this,<- mn];exact List.pairwise_map.mpr (nd.imp λh z=>h (me.mp z))
structure o9(R:dO)(f:Fn):Prop where
 nd:(R.map Prod.fst).Nodup
 cf:∀s,lB R s=f s
 nz:∀t∈R,t.2≠0
def DF(H:Hp)(a:Addr)(f:Fn):Prop:=∃R:dO,H a=some (.dK (R.map rK))/\o9 R f/\R.length<=900
theorem DF.mono(h:DF H a f)(s:aW H H'):DF H' a f:=let ⟨R,g,r⟩:=h;⟨R,s _ _ g,r⟩
theorem o9.mem(h:o9 R f)(ht:t∈R):f t.1=t.2:=by rw[<- h.cf,BE h.nd ht]
theorem o9.no(h:o9 R f)(hs:s ∉ R.map Prod.fst):f s=0:=by rw[<- h.cf,E8 hs]
theorem p9(nd:(R.map Prod.fst).Nodup)(ht:t∈R):da (R.map rK) (Sum.inl (t.1:Int))=some (.int t.2):=by rw[BC,E7 nd ht];rfl
theorem adp(nd:(R.map Prod.fst).Nodup)(cf:∀s,lB R s=f s):o9 (R.filter λt=>decide (t.2≠0)) f:=by
 have zm:((R.filter λt=>decide (t.2≠0)).map Prod.fst).Nodup:=(List.filter_sublist.map _).nodup nd;refine⟨zm,λs=>?_,λt ht=>by simpa using(jV.mp ht).2⟩;rw[<- cf s];by_cases h:s∈(R.filter λt=>decide (t.2≠0)).map Prod.fst
 ·obtain⟨t,ht,rfl⟩:=dD.mp h;rw[BE zm ht,BE nd (jV.mp ht).1]
 ·rw[E8 h];by_cases h2:s∈R.map Prod.fst
  ·obtain⟨t,ht,rfl⟩:=dD.mp h2;rw[BE nd ht];by_cases e:t.2=0
   ·exact e.symm
   ·exact absurd (oI (f:=Prod.fst) (jV.mpr ⟨ht,by simpa using e⟩)) h
  ·rw[E8 h2]
theorem rh{o:Obj}{k:Key}(e:H a=some (.cT o (.dK kvs))):eI H a (kV k) (da kvs k):=.inl ⟨kvs,k,.inr ⟨o,e⟩,rfl,rfl⟩
def Tu:Sp:=λvs H Q _=>∃(p:Int)(a b:Addr)(c:Int)(M:Nat)(f g:Fn),vs=[.int p,.ref a,.ref b,.int c]/\2<=p/\p<=97/\DF H a f/\DF H b g/\js p M f/\js p M g/\0<=c/\c<p/\M<=400/\
 ∀a' H',aW H H'->DF H' a' (gg p f g c)->(a'=a\/H a'=none)->Q (.ref a') H'
noncomputable abbrev Tv:List Str:=["p","row","other","factor","found","spot"]
theorem K5:dy Tv ["p","row","other","factor"] (cu Em):=dI rfl rfl rfl (by decide +kernel) rfl
theorem Tw:(["spot","found"]:List Str).Nodup:=by decide +kernel
theorem E9:∀(M:Nat){L:List Nat},L.Nodup->(∀x∈L,x<M)->L.length<=M
 |0,L,_,h=>by
  cases L with
  |nil=>exact cn 0
  |cons x L=>exact absurd (h x cQ) (by lia)
 |M+1,L,nd,h=>by
  have:=E9 M (nd.erase M) λx hx=>by
   have hm:=(List.Nodup.mem_erase_iff nd).mp hx
   have:=h x hm.2
   have:=hm.1
   lia
  by_cases e:M∈L
  ·rw[List.length_erase_of_mem e]at this;lia
  ·rw[List.erase_of_not_mem e]at this;lia
theorem K6(h:o9 R f)(hf:js p M f):R.length<=M:=by
 have:=E9 M h.nd λs hs=>by
  obtain⟨t,ht,rfl⟩:=dD.mp hs;by_cases e:t.1<M
  ·exact e
  ·exact absurd ((h.mem ht).symm.trans ((hf t.1).2.2 (by lia))) (h.nz t ht)
 rwa[bu]at this
theorem bq.K7{l:Addr}{ys:List V}{o:Obj}{u:HO}(h:bq K H a ys)(hl:H l=some (.cT o (.dK kvs))):bq K (upd H l u) a ys:=by
 rcases h with(h|⟨o',h⟩)|h
 ·refine .inl (.inl ?_);rw[bR λz=>by rw[z,hl]at h;cases h];exact h
 ·refine .inl (.inr ⟨o',?_⟩);rw[bR λz=>by rw[z,hl]at h;cases h];exact h
 ·exact .inr h
theorem Tx{fg:Addr}{cp:St}{tt:TT}{Q:VK}(g:H fg=some (.dK (R.map rK)))(nd:(R.map Prod.fst).Nodup)(cf:∀s,lB R s=f s)(hl:R.length<=900)
  (et:∀(o:Obj)(t:Nat×Int)(H':Hp)(T:Bool->Hp->Prop),t∈R->H' fg=some (.cT o (.dK (R.map rK)))->(if decide (t.2≠0)=true then T true H' else T false H')->tt (some (.int (t.1:Int))::cp) H' T)
  (ee:∀(o:Obj)(t:Nat×Int)(H':Hp)(T:VK),t∈R->H' fg=some (.cT o (.dK (R.map rK)))->(∀a,H' a=none->T (.ref a) (upd H' a (.tup [.int (t.1:Int),.int t.2])))->te (some (.int (t.1:Int))::cp) H' T)
  (q:∀a' H',aW H H'->DF H' a' f->H a'=none->Q (.ref a') H') :
  ∀o,∃W:Nat->Nat->St->Hp->List V->Prop,(∃m,W 0 m (List.replicate 1 none++cp) (upd H fg (.cT o (.dK (R.map rK)))) [])/\mV (xf o fg (R.map rK)) (cG 0) tt te (λv H'=>(∃o,H' fg=some (.cT o (.dK (R.map rK))))/\K1 K [v] (upd H' fg (.dK (R.map rK))) Q) W:=by
 intro o;have z:=i5;have g1:(upd H fg (.cT o (.dK (R.map rK)))) fg=some (.cT o (.dK (R.map rK))):=bb;refine zk (λi H' zs=>md K H' zs (((R.take i).filter λt=>decide (t.2≠0)).map rK)) g1 (by rw[bu];lia) .nil (λi H' zs h=>?_) ?_ ?_
 ·rw[h.1,bu];exact gn (vW _ _) (by rw[gy];exact Nat.min_le_left _ _)
 ·intro i kv H' zs hk sm hP;rw[dG]at hk;cases e:R[i]? with
  |none=>rw[e]at hk;cases hk
  |some t=>
   rw[e]at hk;cases hk;have ht:=dP e;have gf:=sm _ _ g1;refine et o t H' _ ht gf ?_;by_cases c:t.2=0
   ·rw[ag (by simpa using c)];refine dB ⟨⟨[_],rf,rf⟩,sm,?_⟩;rw[gO,e];show md K H' zs (((R.take i++[t]).filter λt=>decide (t.2≠0)).map rK);rw[qE,C1 (by simpa using c),qF,iT];exact hP
   ·rw[af (by simpa using c)];refine eC (ee o t H' _ ht gf λa hn=>⟨⟨[_],rf,rf⟩,sm.trans (.upd hn),?_⟩);rw[gO,e];show md K _ (zs++[.ref a]) (((R.take i++[t]).filter λt=>decide (t.2≠0)).map rK);rw[qE,C0 (by simpa using c),qF,du];exact(hP.mono (.upd hn)).snoc (.of bb)
 ·intro H' zs sm hP l nY;rw[bu,iU]at hP;have s1:=sm.trans (aW.upd (o:=.lst zs) nY);have gf:(upd H' l (.lst zs)) fg=some (.cT o (.dK (R.map rK))):=s1 _ _ g1;have s2:=vj g s1;have ne:l≠fg:=λe=>by rw[e,sm _ _ g1]at nY;cases nY
  have hz:=adp nd cf;refine⟨⟨o,gf⟩,l,zs,(R.filter λt=>decide (t.2≠0)).map rK,rf,by rw[bR ne];exact bb,?_,λa hn=>?_⟩
  ·have nu:=hP.mono (aW.upd (o:=.lst zs) nY);refine⟨nu.1,λi x kv e1 e2=>?_⟩;obtain⟨t,rfl,ht⟩:=nu.2 i x kv e1 e2;exact⟨t,rf,bq.K7 ht gf⟩
  ·refine q a _ (s2.trans (.upd hn)) ⟨_,?_,hz,gn (vW _ _) hl⟩ (i6 s2 hn);rw[bb,vm _ [] (by rw[jX];exact xi _ hz.nd),jX]
theorem adq{f:Addr}(F:cJ K "_law_less" "_law_less" Em f fd)(rm:mg "dict"=none):cc P w K mg base cb 1 f fd ["p","row","other","factor"] Tu:=by
 refine F.ok K5 (λvs H Q E h=>?_) (λcz A outer s H vs Q E hr h=>?_)
 ·obtain⟨p,a,b,c,M,f,g,rfl,_⟩:=h;rfl
 ·obtain⟨p,a,b,c,M,fa,fb,rfl,p2,dX,ha,hb,ra,rb,c0,c1,hM,q⟩:=h;have p0:0<p:=by lia
  have z:=i5;have hu:=oS hr;obtain⟨R,ga,hR,lR⟩:=ha;obtain⟨S,gb,hS,lS⟩:=hb;have lR:=K6 hR ra;have lS:=K6 hS rb;refine⟨_,bo (dj (cS eB (pv 3) ba (cM _)) (bY (cC (pv 1))) dz) (bo (cv (i:=4) K5.nd rf (Or.inr rf) (e9 adn rf rm zl (aV (pv 1) aZ))) (bo (K2 (jd jw rf (tL (pv 2)) (cH (i:=5) K5.nd rf (.inl rf)) (bY (pV hu (pv 4) (pv 5) (bQ j5 (bQ sr (yS hu (pv 4) (pv 5) ba ⟨rf,rf,rf,rf⟩) (bQ lQ (pv 3) (gJ hu (pv 2) (pv 5)))) (pv 0)) rf)))) (bY (cC (e9 (E5 (K:=K) rf rf) rf rm zl (aV (zj (je (N:=["spot","found"]) (own:=1) (caps:=[4]) rf (tL (pv 4)) (show e8 Tv (cu Em) ["spot","found"] 1 [4] _ from .mk' (by decide +kernel)) (λ_ _ _ _ _=>cH (i:=0) Tw rf (.inl rf)) (λ_ _ _ _ _=>sJ (cS nP (gJ hu (pv 1) (pv 0)) ba (cM _))) (λ_ _ _ _ _=>cU (aV (pv 0) (aV (gJ hu (pv 1) (pv 0)) aZ))))) aZ)))))),?_⟩
  refine⟨_,rf,rf,_,rf,uK (λhc=>⟨_,rf,?_⟩) (λhc=>?_)⟩
  ·have hc:c=0:=V.int.inj (aL hc);refine q a H (.refl _) ⟨R,ga,?_,by lia⟩ (.inl rf);rw[hc,SY p0 ra];exact hR
  refine⟨_,rf,a,_,rf,.inl ga,λfg tM=>?_⟩;have nb:fg≠b:=λe=>by rw[e,gb]at tM;cases tM
  have sf:=aW.upd (o:=.dK (R.map rK)) tM;refine⟨b,S.map rK,sf _ _ gb,_,rf,b,_,rf,sf _ _ gb,λo=>?_⟩;refine Tp (λi σ H'=>aW (upd H b (.cT o (.dK (S.map rK)))) H'/\∃s5 R',σ=[some (.int p),some (.ref a),some (.ref b),some (.int c),some (.ref fg),s5]/\H' fg=some (.dK (R'.map rK))/\(R'.map Prod.fst).Nodup/\R'.length<=R.length+i/\∀s,lB R' s=if s∈(S.take i).map Prod.fst then(fa s-c*fb s)%p else fa s)
   ⟨λx u e=>?_,none,R,rfl,?_,hR.nd,cn _,λs=>hR.cf s⟩ (λi σ H' hP=>hP.1 _ _ bb) ?_ ?_
  ·by_cases hx:x=b
   ·subst hx;rw[bb]at e;rw[bb];exact e
   ·rw[bR hx]at e;rw[bR hx];exact sf _ _ e
  ·rw[bR nb];exact bb
  ·rintro i kv σ H' hk ⟨sm,s5,R',rfl,gR,nR,BF,cR⟩;rw[dG]at hk;cases e:S[i]? with
   |none=>rw[e]at hk;cases hk
   |some t=>
    rw[e]at hk;cases hk;have ht:=dP e;have gF:H' b=some (.cT o (.dK (S.map rK))):=sm _ _ bb;have hi:i<S.length:=(dC.mp e).1;have ft:=hS.mem ht;have rt:=rb t.1;refine⟨_,rf,fg,rf,.inl ⟨_,.inl gR⟩,_,rf,_,eI.k (k:=Sum.inl (t.1:Int)) gR,_,rf,_,rf,_,rf,b,.int t.2,rf,by have:=rh (k:=Sum.inl (t.1:Int)) gF;rw[p9 hS.nd ht]at this;exact this,_,_,rf,rf,.inl ⟨by lia,by lia⟩,?_⟩;rw[BD];refine⟨_,_,rf,rf,_,rf,_,_,rf,rf,(by show(0:Int)<p;lia),_,rfl,_,rfl,fg,_,rfl,l6.k (k:=Sum.inl (t.1:Int)) gR (by rw[bu];lia),?_⟩;rw[K3];have nf:(upd H b (.cT o (.dK (S.map rK)))) fg=none:=by rw[bR nb];exact tM
    refine⟨sm.write nf,_,_,rf,bb,Tr nR,by have:=Ts R' t.1 ((lB R' t.1-c*t.2)%p);lia,λs=>?_⟩;rw[Tt,gO,e,du];show(if s=t.1 then _ else _)=if s∈(S.take i).map Prod.fst++[t.1]then _ else _
    have Ay:t.1 ∉ (S.take i).map Prod.fst:=λz=>by
     have nd:=hS.nd;obtain⟨u,hu,eu⟩:=dD.mp z;obtain⟨j,hj⟩:=nK.mp hu;have jl:j<i:=by
      have:=(dC.mp hj).1
      rw[gy]at this;lia
     rw[List.getElem?_take_of_lt jl]at hj;have k1:(S.map Prod.fst)[i]?=some t.1:=by rw[dG,e];rfl
     have k2:(S.map Prod.fst)[j]?=some t.1:=by rw[dG,hj];exact aj some eu
     have:=(List.getElem?_inj (dC.mp k1).1 nd).mp (k1.trans k2.symm)
     lia
    by_cases es:s=t.1
    ·subst es;rw[af rfl,af (dZ _ cQ),cR,ag Ay,ft]
    ·rw[ag es,cR];by_cases e2:s∈(S.take i).map Prod.fst
     ·rw[af e2,af (eV _ e2)]
     ·rw[ag e2,ag λz=>(cN.mp z).elim e2 λz=>es (cA.mp z)]
  ·rintro σ H' ⟨sm,s5,R',rfl,gR,nR,BF,cR⟩;rw[bu,iU]at cR;rw[bu]at BF;have s1:=vj gb sm;have nb':=nb;have tN:(upd H' b (.dK (S.map rK))) fg=some (.dK (R'.map rK)):=by rw[bR nb];exact gR
   have cf:∀s,lB R' s=gg p fa fb c s:=λs=>by
    rw[cR];by_cases e:s∈S.map Prod.fst
    ·rw[af e];rfl
    ·rw[ag e,SX p0 ra (hS.no e)]
   refine⟨⟨o,sm _ _ bb⟩,?_⟩;generalize upd H' b (.dK (S.map rK))=H2 at s1 tN;refine⟨fg,R'.map rK,tN,_,rf,fg,_,rf,tN,Tx (f:=gg p fa fb c) tN nR cf (by lia) (λo t H3 T ht gf hT=>?_) (λo t H3 T ht gf hT=>?_) λa' H3 s3 hd hn=>q a' H3 (s1.trans s3) hd (.inr (i6 s1 hn))⟩
   ·refine⟨_,rf,_,rf,fg,.int t.2,rf,by have:=rh (k:=Sum.inl (t.1:Int)) gf;rw[p9 nR ht]at this;exact this,rf,_,rf,?_⟩;by_cases e:t.2=0
    ·rw[ag (by simpa using e)]at hT;rw[show(!decide (V.int t.2=V.int 0))=false by rw[e];rfl];exact hT
    ·rw[af (by simpa using e)]at hT;rw[show(!decide (V.int t.2=V.int 0))=true by rw[ae λz=>e (V.int.inj z)];rfl];exact hT
   ·exact⟨_,rf,_,rf,_,rf,fg,.int t.2,rf,by have:=rh (k:=Sum.inl (t.1:Int)) gf;rw[p9 nR ht]at this;exact this,by show 2<=sizeLine;lia,hT⟩
noncomputable def rn(t:Nat×Nat):Nat×Int:=(t.1,(t.2:Int))
theorem ads(AL:List (Nat×Nat))(s:Nat):(da ((AL.map rn).map rK) (Sum.inl (s:Int))).getD (.int (s:Int))=.int (look AL s:Int):=by
 rw[BC];unfold look;induction AL with
 |nil=>rfl
 |cons t AL ih=>
  rw[gN,ux,ux];by_cases e:t.1=s
  ·rw[show decide ((rn t).1=s)=true from aD e,aD e];rfl
  ·rw[show decide ((rn t).1=s)=false from ae e,ae e];exact ih
def K8:Sp:=λvs H Q _=>∃(p:Int)(a al:Addr)(q:dO)(AL:List (Nat×Nat)),vs=[.int p,.ref a,.ref al]/\2<=p/\p<=97/\H a=some (.dK (q.map rK))/\(q.map Prod.fst).Nodup/\q.length<=900/\H al=some (.dK ((AL.map rn).map rK))/\
 ∀a' H',aW H H'->DF H' a' (p7 p AL q)->H a'=none->Q (.ref a') H'
noncomputable abbrev Tz:List Str:=["p","row","alias","found","port","spot"]
theorem Fb:dy Tz ["p","row","alias"] (cu El):=dI rfl rfl rfl (by decide +kernel) rfl
theorem TB{f:Addr}(F:cJ K "_law_merged" "_law_merged" El f fd)(rm:mg "dict"=none):cc P w K mg base cb 1 f fd ["p","row","alias"] K8:=by
 refine F.ok Fb (λvs H Q E h=>?_) (λcz A outer s H vs Q E hr h=>?_)
 ·obtain⟨p,a,al,q,AL,rfl,_⟩:=h;rfl
 ·obtain⟨p,a,al,S,AL,rfl,p2,dX,ga,nS,lS,gl,q⟩:=h;have p0:0<p:=by lia
  have z:=i5;have hu:=oS hr;refine⟨_,bo (cv (i:=3) Fb.nd rf (Or.inr rf) Be) (bo (K2 (jd jw rf (tL (pv 1)) (cH (i:=4) Fb.nd rf (.inl rf)) (bo (cv (i:=5) Fb.nd rf (.inl rf) (yS hu (pv 2) (pv 4) (pv 4) ⟨rf,rf,rf,rf⟩)) (bY (pV hu (pv 3) (pv 5) (bQ j5 (bQ eM (yS hu (pv 3) (pv 5) ba ⟨rf,rf,rf,rf⟩) (gJ hu (pv 1) (pv 4))) (pv 0)) rf))))) (bY (cC (e9 (E5 (K:=K) rf rf) rf rm zl (aV (zj (je (N:=["spot","found"]) (own:=1) (caps:=[3]) rf (tL (pv 3)) (show e8 Tz (cu El) ["spot","found"] 1 [3] _ from .mk' (by decide +kernel)) (λ_ _ _ _ _=>cH (i:=0) Tw rf (.inl rf)) (λ_ _ _ _ _=>sJ (cS nP (gJ hu (pv 1) (pv 0)) ba (cM _))) (λ_ _ _ _ _=>cU (aV (pv 0) (aV (gJ hu (pv 1) (pv 0)) aZ))))) aZ))))),?_⟩
  intro fg tM;have nb:fg≠a:=λe=>by rw[e,ga]at tM;cases tM
  have sf:=aW.upd (o:=.dK []) tM;refine⟨a,S.map rK,sf _ _ ga,_,rf,a,_,rf,sf _ _ ga,λo=>?_⟩;refine Tp (λi σ H'=>aW (upd H a (.cT o (.dK (S.map rK)))) H'/\∃s4 s5 R',σ=[some (.int p),some (.ref a),some (.ref al),some (.ref fg),s4,s5]/\H' fg=some (.dK (R'.map rK))/\(R'.map Prod.fst).Nodup/\R'.length<=i/\∀s,lB R' s=p7 p AL (S.take i) s)
   ⟨λx u e=>?_,none,none,[],rfl,?_,List.nodup_nil,cn _,λs=>rfl⟩ (λi σ H' hP=>hP.1 _ _ bb) ?_ ?_
  ·by_cases hx:x=a
   ·subst hx;rw[bb]at e;rw[bb];exact e
   ·rw[bR hx]at e;rw[bR hx];exact sf _ _ e
  ·rw[bR nb];exact bb
  ·rintro i kv σ H' hk ⟨sm,s4,s5,R',rfl,gR,nR,BF,cR⟩;rw[dG]at hk;cases e:S[i]? with
   |none=>rw[e]at hk;cases hk
   |some t=>
    rw[e]at hk;cases hk;have ht:=dP e;have gF:H' a=some (.cT o (.dK (S.map rK))):=sm _ _ bb;have hi:i<S.length:=(dC.mp e).1;have oh:Rd H' al (.dK ((AL.map rn).map rK)):=by
     by_cases ea:al=a
     ·rw[ea,ga]at gl;have e:=dq gl;refine .inr ⟨o,?_⟩;rw[ea,<- e];exact gF
     ·exact .inl (sm _ _ (by rw[bR ea];exact gl))
    refine⟨_,rf,al,rf,.inl ⟨_,oh⟩,_,rf,_,rf,_,.inl ⟨_,Sum.inl (t.1:Int),oh,rf,rf⟩,?_⟩;rw[show(rK t).1=Sum.inl (t.1:Int) from rfl]
    show cG 5 _ _ _ _;rw[show kV (Sum.inl (t.1:Int))=V.int (t.1:Int) from rfl,ads]
    refine⟨_,rf,fg,rf,.inl ⟨_,.inl gR⟩,_,rf,_,eI.k (k:=Sum.inl (look AL t.1:Int)) gR,_,rf,_,rf,a,.int t.2,rf,by have:=rh (k:=Sum.inl (t.1:Int)) gF;rw[p9 nS ht]at this;exact this,?_⟩;rw[BD];refine⟨_,_,rf,rf,_,rf,_,_,rf,rf,(by show(0:Int)<p;lia),_,rfl,_,rfl,fg,_,rfl,l6.k (k:=Sum.inl (look AL t.1:Int)) gR (by rw[bu];lia),?_⟩;rw[K3];have nf:(upd H a (.cT o (.dK (S.map rK)))) fg=none:=by rw[bR nb];exact tM
    refine⟨sm.write nf,_,_,_,rf,bb,Tr nR,by have:=Ts R' (look AL t.1) ((lB R' (look AL t.1)+t.2)%p);lia,λs=>?_⟩;rw[Tt,gO,e];unfold p7;rw[List.foldl_append];show _=if s=look AL t.1 then _ else _
    by_cases es:s=look AL t.1
    ·rw[af es,af es,es,cR];rfl
    ·rw[ag es,ag es,cR];rfl
  ·rintro σ H' ⟨sm,s4,s5,R',rfl,gR,nR,BF,cR⟩;rw[bu,iU]at cR;rw[bu]at BF;have s1:=vj ga sm;have tN:(upd H' a (.dK (S.map rK))) fg=some (.dK (R'.map rK)):=by rw[bR nb];exact gR
   refine⟨⟨o,sm _ _ bb⟩,?_⟩;generalize upd H' a (.dK (S.map rK))=H2 at s1 tN;refine⟨fg,R'.map rK,tN,_,rf,fg,_,rf,tN,Tx (f:=p7 p AL S) tN nR cR (by lia) (λo t H3 T ht gf hT=>?_) (λo t H3 T ht gf hT=>?_) λa' H3 s3 hd hn=>q a' H3 (s1.trans s3) hd (i6 s1 hn)⟩
   ·refine⟨_,rf,_,rf,fg,.int t.2,rf,by have:=rh (k:=Sum.inl (t.1:Int)) gf;rw[p9 nR ht]at this;exact this,rf,_,rf,?_⟩;by_cases e:t.2=0
    ·rw[ag (by simpa using e)]at hT;rw[show(!decide (V.int t.2=V.int 0))=false by rw[e];rfl];exact hT
    ·rw[af (by simpa using e)]at hT;rw[show(!decide (V.int t.2=V.int 0))=true by rw[ae λz=>e (V.int.inj z)];rfl];exact hT
   ·exact⟨_,rf,_,rf,_,rf,fg,.int t.2,rf,by have:=rh (k:=Sum.inl (t.1:Int)) gf;rw[p9 nR ht]at this;exact this,by show 2<=sizeLine;lia,hT⟩
theorem nk1:(["k","rows","spot"]:List Str).Nodup:=by decide +kernel
theorem nk2:(["k","p","row","spot"]:List Str).Nodup:=by decide +kernel
theorem nk3:(["one","p","row","turn"]:List Str).Nodup:=by decide +kernel
theorem nk4:(["k","p","row","rows","some","spot"]:List Str).Nodup:=by decide +kernel
theorem TC(h:o9 R f)(hz:f s≠0):da (R.map rK) (Sum.inl (s:Int))=some (.int (f s)):=by
 by_cases e:s∈R.map Prod.fst
 ·obtain⟨t,ht,rfl⟩:=dD.mp e;rw[p9 h.nd ht,h.mem ht]
 ·exact absurd (h.no e) hz
noncomputable def cx(L:List Nat):List V:=L.map λ(n:Nat)=>V.int (n:Int)
theorem TF(h:o9 R f)(s:Nat):(da (R.map rK) (Sum.inl (s:Int))).isSome=decide (f s≠0):=by
 rw[BC];by_cases e:s∈R.map Prod.fst
 ·obtain⟨t,ht,rfl⟩:=dD.mp e;rw[E7 h.nd ht,h.mem ht,aD (h.nz t ht)];rfl
 ·rw[xP.mpr λt ht=>by simp;intro z;exact e (by rw[<- z];exact oI ht),h.no e];rfl
theorem K9(hd:H d=none)(s:aW H H'):aW H (S21.del d H'):=λb u e=>by
 rw[om λz=>by rw[z,hd]at e;cases e];exact s b u e
theorem xj{o:HO}:S21.del d (upd H d o)=S21.del d H:=by
 funext b
 unfold S21.del;by_cases e:b=d
 ·rw[af e,af e]
 ·rw[ag e,ag e,bR e]
theorem rp:aW (S21.del d H) H:=λb u e=>(lg e).2
theorem adt(pp:p∈ig){tn:Int}(h:o9 R f)(hf:js p M f)(t3:tn*f s%p=1):o9 (R.map λt=>(t.1,t.2*tn%p)) (iH p f tn):=by
 obtain⟨p2,_⟩:=jf p pp;have ek:(R.map λt=>(t.1,t.2*tn%p)).map Prod.fst=R.map Prod.fst:=by rw[mn];rfl
 have nd:((R.map λt=>(t.1,t.2*tn%p)).map Prod.fst).Nodup:=by rw[ek];exact h.nd
 refine⟨nd,λx=>?_,λt ht=>?_⟩
 ·by_cases e:x∈R.map Prod.fst
  ·obtain⟨t,ht,rfl⟩:=dD.mp e
   have:=BE nd (oI (f:=λt:Nat×Int=>(t.1,t.2*tn%p)) ht)
   rw[this];unfold iH;rw[h.mem ht]
  ·rw[E8 (by rw[ek];exact e)];unfold iH;rw[h.no e];simp
 ·obtain⟨u,hu,rfl⟩:=dD.mp ht;intro z;have z:u.2*tn%p=0:=z;have d1:p∣u.2*tn:=Int.dvd_of_emod_eq_zero z;have d2:p∣u.2*tn*f s:=Int.dvd_mul_of_dvd_left d1;have d3:=sQ p (tn*f s);rw[t3]at d3;have d4:p∣u.2*(1-tn*f s):=oG d3;have d5:p∣u.2:=by
   have:=Int.dvd_add d2 d4
   rwa[show u.2*tn*f s+u.2*(1-tn*f s)=u.2 by grind]at this
  have r:=hf u.1;rw[h.mem hu]at r;have n0:=h.nz u hu
  have:=Int.le_of_dvd (by lia) d5
  lia
def qd(H:Hp)(RS:List V)(fs:List Fn):Prop:=RS.length=fs.length/\∀(i:Nat)(x:V)(f:Fn),RS[i]?=some x->fs[i]?=some f->∃a,x=.ref a/\DF H a f
def jS(H:Hp)(kvs:List (Key×V))(D:List (Nat×Fn)):Prop:=kvs.length=D.length/\∀(i:Nat)(kv:Key×V)(t:Nat×Fn),kvs[i]?=some kv->D[i]?=some t->∃a,kv=(Sum.inl (t.1:Int),.ref a)/\DF H a t.2
theorem qd.mono{H H':Hp}{RS:List V}{fs:List Fn}(h:qd H RS fs)(s:aW H H'):qd H' RS fs:=⟨h.1,λi x f e1 e2=>let ⟨a,e,g⟩:=h.2 i x f e1 e2;⟨a,e,g.mono s⟩⟩
theorem jS.mono{H H':Hp}{kvs:List (Key×V)}{D:List (Nat×Fn)}(h:jS H kvs D)(s:aW H H'):jS H' kvs D:=⟨h.1,λi x f e1 e2=>let ⟨a,e,g⟩:=h.2 i x f e1 e2;⟨a,e,g.mono s⟩⟩
theorem qd.snoc{RS:List V}{fs:List Fn}(h:qd H RS fs)(g:DF H a f):qd H (RS++[.ref a]) (fs++[f]):=by
 refine⟨by rw[cm,cm,h.1];rfl,λi x q e1 e2=>?_⟩;by_cases hi:i<RS.length
 ·rw[iK hi]at e1;rw[iK (by rw[<- h.1];exact hi)]at e2;exact h.2 i x q e1 e2
 ·rw[jb (by lia)]at e1;rw[jb (by rw[<- h.1];lia),<- h.1]at e2;generalize i-RS.length=j at e1 e2;cases j with
  |zero=>cases e1;cases e2;exact⟨a,rf,g⟩
  |succ j=>cases e1
theorem TH{R0 aY:List Fn}{dn:List Nat}(h:EI p M R0 dn aY D){t u:Nat×Fn}(hi:D[i]?=some t)(hj:D[j]?=some u)(e:t.1=u.1):i=j:=by
 by_cases c:i=j
 ·exact c
 ·have:=h.alone i j t u hi hj c
  rw[<- e,h.one t (dP hi)]at this;cases this
theorem jS.val(h:jS H kvs D)(nd:∀(i j:Nat)(t u:Nat×Fn),D[i]?=some t->D[j]?=some u->t.1=u.1->i=j){t:Nat×Fn}(hi:D[i]?=some t):∃a,kvs[i]?=some (Sum.inl (t.1:Int),.ref a)/\da kvs (Sum.inl (t.1:Int))=some (.ref a)/\DF H a t.2:=by
 have il:i<kvs.length:=by rw[h.1];exact(dC.mp hi).1
 have hk:kvs[i]?=some kvs[i]:=cP il;obtain⟨a,e,g⟩:=h.2 i _ t hk hi;rw[e]at hk;refine⟨a,hk,?_,g⟩;unfold da;cases ef:kvs.find? λkv=>decide (kv.1=Sum.inl (t.1:Int)) with
 |none=>
  have:=xP.mp ef _ (dP hk)
  simp at this
 |some kv=>
  have k1:kv.1=Sum.inl (t.1:Int):=by simpa using List.find?_some ef
  obtain⟨j,hj⟩:=nK.mp (Hv ef);have jl:j<D.length:=by rw[<- h.1];exact(dC.mp hj).1
  have hD:D[j]?=some D[j]:=cP jl;obtain⟨b,e2,_⟩:=h.2 j kv _ hj hD;rw[e2]at k1
  have:=nd i j t _ hi hD (me.mp k1).symm
  subst this;rw[hk]at hj;cases hj;rfl
theorem jS.put(h:jS H kvs D)(nd:∀(i j:Nat)(t u:Nat×Fn),D[i]?=some t->D[j]?=some u->t.1=u.1->i=j){t:Nat×Fn}(hi:D[i]?=some t)(g:DF H a f):jS H (eS kvs (Sum.inl (t.1:Int)) (.ref a)) (D.set i (t.1,f)):=by
 obtain⟨a0,hk,hv,_⟩:=h.val nd hi;have adu:(kvs.any λkv=>decide (kv.1=Sum.inl (t.1:Int)))=true:=by rw[yM,hv];rfl
 unfold eS;rw[af adu];refine⟨by rw[bu,List.length_set,h.1],λj kv u e1 e2=>?_⟩;rw[dG]at e1;have jl:j<kvs.length:=by
  by_cases c:j<kvs.length
  ·exact c
  ·rw[jJ (by lia)]at e1;cases e1
 have tO:kvs[j]?=some kvs[j]:=cP jl;have ny:D[j]?=some (D[j]'(by rw[<- h.1];exact jl)):=cP _;obtain⟨b,eb,gb⟩:=h.2 j _ _ tO ny;rw[tO]at e1;have e1:(if kvs[j].1=Sum.inl (t.1:Int)then(kvs[j].1,V.ref a)else kvs[j])=kv:=dq e1
 rw[List.getElem?_set]at e2;by_cases c:i=j
 ·subst c;rw[af rfl,af (by rw[<- h.1];exact jl)]at e2;cases e2;rw[hi]at ny;cases ny;rw[eb,af rfl]at e1;exact⟨a,e1.symm,g⟩
 ·rw[ag c,ny]at e2;cases e2;rw[eb,ag λz=>c (nd i j t _ hi ny (me.mp z).symm)]at e1;exact⟨b,e1.symm,gb⟩
theorem jS.snoc(h:jS H kvs D)(g:DF H a f)(hs:∀t∈D,t.1≠s):jS H (eS kvs (Sum.inl (s:Int)) (.ref a)) (D++[(s,f)]):=by
 have hn:da kvs (Sum.inl (s:Int))=none:=by
  cases e:da kvs (Sum.inl (s:Int)) with
  |none=>rfl
  |some v=>
   obtain⟨kv,zo,ek⟩:=dD.mp (K4 e);obtain⟨j,hj⟩:=nK.mp zo;have jl:j<D.length:=by rw[<- h.1];exact(dC.mp hj).1
   obtain⟨b,e2,_⟩:=h.2 j kv _ hj (cP jl);rw[e2]at ek;exact absurd (me.mp ek) (hs _ (r8 jl))
 rw[Eb _ hn];refine⟨by rw[cm,cm,h.1];rfl,λi kv t e1 e2=>?_⟩;by_cases hi:i<kvs.length
 ·rw[iK hi]at e1;rw[iK (by rw[<- h.1];exact hi)]at e2;exact h.2 i kv t e1 e2
 ·rw[jb (by lia)]at e1;rw[jb (by rw[<- h.1];lia),<- h.1]at e2;generalize i-kvs.length=j at e1 e2;cases j with
  |zero=>cases e1;cases e2;exact⟨a,rf,g⟩
  |succ j=>cases e1
noncomputable def mf(F:Nat×Fn->Nat×Fn)(D:List (Nat×Fn))(j:Nat):List (Nat×Fn):=(D.take j).map F++D.drop j
theorem Fc(hj:j<=D.length):(mf F D j)[i]?=if i<j then D[i]?.map F else D[i]?:=by
 unfold mf;have l:((D.take j).map F).length=j:=by rw[bu,gy];lia
 by_cases c:i<j
 ·rw[af c,iK (by lia),dG,List.getElem?_take_of_lt c]
 ·rw[ag c,jb (by lia),l,List.getElem?_drop,show j+(i-j)=i by lia]
theorem La(hj:j<=D.length):(mf F D j).length=D.length:=by
 unfold mf;rw[cm,bu,gy,jW];lia
theorem TJ{t:Nat×Fn}(h:D[j]?=some t):mf F D (j+1)=(mf F D j).set j (F t):=by
 have hj:=(dC.mp h).1;apply List.ext_getElem?;intro i;rw[Fc (by lia),List.getElem?_set,La (by lia),Fc (by lia)];by_cases e:j=i
 ·subst e;rw[af (by lia),af rfl,af hj,h];rfl
 ·rw[ag e];by_cases c:i<j
  ·rw[af (by lia),af c]
  ·rw[ag (by lia),ag c]
theorem adv:mf F D D.length=D.map F:=by unfold mf;rw[iU,List.drop_length,iT]
theorem adw{k:Nat}(hk:k<=D.length)(hF:∀t,(F t).1=t.1)(nd:∀(i j:Nat)(t u:Nat×Fn),D[i]?=some t->D[j]?=some u->t.1=u.1->i=j):∀(i j:Nat)(t u:Nat×Fn),(mf F D k)[i]?=some t->(mf F D k)[j]?=some u->t.1=u.1->i=j:=by
 have key:∀(i:Nat)(t:Nat×Fn),(mf F D k)[i]?=some t->∃t0,D[i]?=some t0/\t0.1=t.1:=λi t h=>by
  rw[Fc hk]at h;by_cases c:i<k
  ·rw[af c]at h;cases e:D[i]? with
   |none=>rw[e]at h;cases h
   |some t0=>rw[e]at h;cases h;exact⟨t0,rf,(hF t0).symm⟩
  ·rw[ag c]at h;exact⟨t,h,rf⟩
 intro i j t u hi hj e;obtain⟨t0,a1,a2⟩:=key i t hi;obtain⟨u0,b1,b2⟩:=key j u hj;exact nd i j t0 u0 a1 b1 (by rw[a2,b2,e])
def TK:Sp:=λvs H Q _=>∃(p:Int)(od lr:Addr)(ord Z:List Nat)(M:Nat)(RS:List V)(R0:List Fn),vs=[.int p,.ref od,.ref lr]/\p∈ig/\H od=some (.lst (cx ord))/\H lr=some (.lst RS)/\qd H RS R0/\R0.length<=400/\M<=400/\(Z++ord).Nodup/\(∀s∈ord,s<M)/\EI p M R0 Z R0 []/\
 ∀dn kvs aY D H',aW H H'->H' dn=some (.dK kvs)->jS H' kvs D->EI p M R0 (Z++ord) aY D->Q (.ref dn) H'
noncomputable abbrev BG:List Str:=["p","order","rows","done","spot","some","row","turn","one"]
theorem tP:dy BG ["p","order","rows"] (cu wL):=dI rfl rfl rfl (by decide +kernel) rfl
theorem adx{f fL:Addr}{l7:FuncData}(F:cJ K "_law_solved" "_law_solved" wL f fd)(T:Txt mg)(rm:mg "dict"=none)
  (GL:cc P w K mg base cb 1 fL l7 ["p","row","other","factor"] Tu) (kL:Kp K fL) (bL:Binds K l7 ["p","row","other","factor"] []) (mL:Mg mg "_law_less" fL) :
  cc P w K mg base cb 2 f fd ["p","order","rows"] TK:=by
 refine F.ok tP (λvs H Q E h=>?_) (λcz A outer s H vs Q E hr h=>?_)
 ·obtain⟨p,od,lr,ord,Z,M,RS,R0,rfl,_⟩:=h;rfl
 ·obtain⟨p,od,lr,ord,Z,M,RS,R0,rfl,pp,go,gr,hRS,lR0,hM,nd,oM,h0,q⟩:=h;obtain⟨p2,dX⟩:=jf p pp;have p0:0<p:=by lia
  have z:=i5;have hu:=oS hr;refine⟨_,bo (cv (i:=3) tP.nd rf (.inl rf) Be) (bo (jd jw rf (jo K rf (pv 1)) (cH (i:=4) tP.nd rf (Or.inr rf)) (bo (cv (i:=5) tP.nd rf (Or.inr rf) (je (N:=["k","rows","spot"]) (own:=1) (caps:=[2,4]) rf (wk rf T.range (aV (eX (iM K rf) rf T.len iN (aV (pv 2) aZ)) aZ)) (show e8 BG (cu wL) ["k","rows","spot"] 1 [2,4] _ from .mk' (by decide +kernel)) (λ_ _ _ _ _=>cH (i:=0) nk1 rf (.inl rf)) (λ_ _ _ _ _=>sJ (wc (Jt hu (pv 2) (br (eY K rf) (pv 1) (pv 0))))) (λ_ _ _ _ _=>pv 0))) (bY (dj (cS (abm K rf hr.units) (pv 5) (gT aZ) (cM _)) (bo (cv (i:=6) tP.nd rf (Or.inr rf) (br (eY K rf) (pv 2) (br (eY K rf) (pv 5) ba))) (bo (cv (i:=7) tP.nd rf (Or.inr rf) (br (eY K rf) (je (N:=["k","p","row","spot"]) (own:=1) (caps:=[0,6,4]) rf (wk rf T.range (aV (pv 0) aZ)) (show e8 BG (cu wL) ["k","p","row","spot"] 1 [0,6,4] _ from .mk' (by decide +kernel)) (λ_ _ _ _ _=>cH (i:=0) nk2 rf (.inl rf)) (λ_ _ _ _ _=>sJ (cS eB (bQ j5 (bQ lQ (pv 0) (gJ hu (pv 2) (pv 3))) (pv 1)) ba (cM _))) (λ_ _ _ _ _=>pv 0)) ba)) (bo (cv (i:=6) tP.nd rf (Or.inr rf) (e9 (E5 (K:=K) rf rf) rf rm zl (aV (zj (je (N:=["one","p","row","turn"]) (own:=1) (caps:=[0,6,7]) rf (tL (pv 6)) (show e8 BG (cu wL) ["one","p","row","turn"] 1 [0,6,7] _ from .mk' (by decide +kernel)) (λ_ _ _ _ _=>cH (i:=0) nk3 rf (.inl rf)) (λ_ _ _ _ _=>jz) (λ_ _ _ _ _=>cU (aV (pv 0) (aV (bQ j5 (bQ lQ (gJ hu (pv 2) (pv 0)) (pv 3)) (pv 1)) aZ))))) aZ))) (bo (cv (i:=2) tP.nd rf (Or.inr rf) (je (N:=["k","p","row","rows","some","spot"]) (own:=1) (caps:=[0,6,2,5,4]) rf (wk rf T.range (aV (eX (iM K rf) rf T.len iN (aV (pv 2) aZ)) aZ)) (show e8 BG (cu wL) ["k","p","row","rows","some","spot"] 1 [0,6,2,5,4] _ from .mk' (by decide +kernel)) (λ_ _ _ _ _=>cH (i:=0) nk4 rf (.inl rf)) (λ_ _ _ _ _=>sJ (cS nP (pv 0) (br (eY K rf) (pv 4) ba) (cM _))) (λ_ _ _ _ _=>cK GL hr rf mL kL bL .nil cL (aV (pv 1) (aV (br (eY K rf) (pv 3) (pv 0)) (aV (pv 2) (aV (yS hu (br (eY K rf) (pv 3) (pv 0)) (pv 5) ba ⟨rf,rf,rf,rf⟩) aZ))))))) (bo (jd jw rf (jo K rf (e9 (adl rf) rf T.list AV (aV (pv 3) aZ))) (cH (i:=8) tP.nd rf (.inl rf)) (bY (dj (wc (Jt hu (pv 4) (gJ hu (pv 3) (pv 8)))) (bY (pV hu (pv 3) (pv 8) (cK GL hr rf mL kL bL .nil cL (aV (pv 0) (aV (gJ hu (pv 3) (pv 8)) (aV (pv 6) (aV (gJ hu (gJ hu (pv 3) (pv 8)) (pv 4)) aZ))))) rf)) dz))) (bY (pV hu (pv 3) (pv 4) (pv 6) rf)))))))
     dz)))) (bY (cC (pv 3)))),?_⟩
  intro dn Fd;have s1:=aW.upd (o:=.dK []) Fd;refine⟨_,rf,od,rf,⟨_,.of (s1 _ _ go)⟩,so (xs:=cx ord) (λi σ H'=>aW H (S21.del dn H')/\∃ou hJ aY D kvs s4 s5 s6 s7 s8,σ=[some (.int p),some (.ref od),some (.ref ou),some (.ref dn),s4,s5,s6,s7,s8]/\S21.del dn H' ou=some (.lst hJ)/\qd (S21.del dn H') hJ aY/\aY.length<=400/\H' dn=some (.dK kvs)/\jS (S21.del dn H') kvs D/\D.length<=i/\EI p M R0 (Z++ord.take i) aY D) ⟨K9 Fd s1,lr,RS,R0,[],[],none,none,none,none,none,rf,K9 Fd s1 _ _ gr,hRS.mono (K9 Fd s1),lR0,bb,⟨rf,λi x f e=>by cases e⟩,cn _,by rw[List.take_zero,iT];exact h0⟩ (λi σ H' _ h=>.of (rp _ _ (h.1 _ _ go))) ?_ ?_⟩
  ·rintro i x σ H2 hx ⟨sm,ou,hJ,aY,D,kvs,s4,s5,s6,s7,s8,rfl,gL,hL,lL,gD,hD,lD,hE⟩;obtain⟨s,hs,rfl⟩:∃s:Nat,ord[i]?=some s/\x=.int (s:Int):=by
    unfold cx at hx;rw[dG]at hx;cases h:ord[i]? with
    |none=>rw[h]at hx;cases hx
    |some s=>rw[h]at hx;cases hx;exact⟨s,rf,rf⟩
   have io:i<ord.length:=(dC.mp hs).1;have oM':ord.length<=400:=gn (E9 M (qG.mp nd).2.1 oM) hM;have et:Z++ord.take (i+1)=Z++ord.take i++[s]:=by rw[gO,hs,<- i4];rfl
   have TL:s ∉ Z++ord.take i:=λzz=>by
    have e:Z++ord=(Z++ord.take i)++(s::ord.drop (i+1)):=by
     have:=List.take_append_drop i ord
     rw[C2 io,(dC.mp hs).2]at this;rw[i4,this]
    rw[e]at nd;exact(qG.mp nd).2.2 s zz s cQ rf
   have xk:=rp _ _ gL;have TM:=hL.mono rp;have rq:=hL.1;refine⟨_,rf,ou,_,rf,.inl (.of xk),(hJ.length:Int),rf,by lia,by lia,IV (n:=hJ.length) (lo:=0) (cp:=[some (.ref ou),some (.int (s:Int))]) (λj H' zs=>zs=((List.range j).filter λk=>decide ((aY.getD k λ_=>0) s≠0)).map λ(u:Nat)=>V.int u) (by lia) rf (λj H' zs e=>by rw[e,bu];exact gn (vW _ _) (by rw[r6];exact cn _)) ?_ ?_⟩
   ·rintro j H' zs hj iG rfl;rw[qD];have vn:hJ[j]?=some hJ[j]:=cP hj;have xm:aY[j]?=some (aY[j]'(by lia)):=cP _;obtain⟨a,ea,R,ga,hR,_⟩:=TM.2 j _ _ vn xm;rw[ea]at vn;have eg:(aY.getD j λ_=>0)=aY[j]'(by lia):=by rw[eG,xm];rfl
    refine⟨_,rf,_,rf,_,rf,ou,_,(j:Int),.ref a,rf,rf,.of (iG _ _ xk),bX vn,a,_,rf,eI.k (k:=Sum.inl (s:Int)) (iG _ _ ga),_,rf,?_⟩;rw[TF hR s];refine uK (λhc=>⟨_,rf,⟨[_],rf,rf⟩,iG,?_⟩) (λhc=>⟨⟨[_],rf,rf⟩,iG,?_⟩)
    ·rw[r9,qE,C0 (by rw[eg];exact hc),qF,du];rfl
    ·rw[r9,qE,C1 (by rw[eg];exact hc),qF,iT]
   rintro H3 zs gZ rfl ls Fe;have j9:=gZ.trans (aW.upd (o:=.lst (((List.range hJ.length).filter λk=>decide ((aY.getD k λ_=>0) s≠0)).map λ(u:Nat)=>V.int u)) Fe);have g4:(upd H3 ls (.lst (((List.range hJ.length).filter λk=>decide ((aY.getD k λ_=>0) s≠0)).map λ(u:Nat)=>V.int u))) ls=some (.lst (((List.range hJ.length).filter λk=>decide ((aY.getD k λ_=>0) s≠0)).map λ(u:Nat)=>V.int u)):=bb;generalize upd H3 ls (.lst (((List.range hJ.length).filter λk=>decide ((aY.getD k λ_=>0) s≠0)).map λ(u:Nat)=>V.int u))=H4 at j9 g4 |-;refine⟨_,rf,by decide,λle AO=>?_⟩;have ik:=j9.trans (aW.upd (o:=.lst []) AO);have g5:=(aW.upd (o:=.lst []) AO) _ _ g4;have ge:(upd H4 le (.lst [])) le=some (.lst []):=bb;clear j9 g4 gZ Fe AO;generalize upd H4 le (.lst [])=H5 at ik g5 ge |-;have ep:(((List.range hJ.length).filter λk=>decide ((aY.getD k λ_=>0) s≠0)).map λ(u:Nat)=>V.int u)=(((List.range hJ.length).filter λk=>decide ((aY.getD k λ_=>0) s≠0)).map λ(u:Nat)=>(u:Int)).map V.int:=by rw[mn];rfl
   refine⟨.list ((((List.range hJ.length).filter λk=>decide ((aY.getD k λ_=>0) s≠0)).map λ(u:Nat)=>(u:Int)).map .int),.list [],.list (.of g5) (by rw[ep];exact cW.ints _),.list (.of ge) .nil,RI _,RI [],_,rf,?_⟩;have dS:=aW.del (Pt:=dn) ik;have AH:=ik _ _ gD;cases Ff:(List.range hJ.length).filter λk=>decide ((aY.getD k λ_=>0) s≠0) with
   |nil=>
    rw[Ff]at g5;refine abk rf ⟨sm.trans dS,ou,hJ,aY,D,kvs,_,_,_,_,_,rf,dS _ _ gL,hL.mono dS,lL,AH,hD.mono dS,by lia,?_⟩;rw[et];refine hE.skip λf hf=>?_;obtain⟨j,hj⟩:=nK.mp hf;have jl:j<hJ.length:=by rw[rq];exact(dC.mp hj).1
    by_cases ez:f s=0
    ·exact ez
    ·have:j∈(List.range hJ.length).filter λk=>decide ((aY.getD k λ_=>0) s≠0):=jV.mpr ⟨mj.mpr jl,by rw[eG,hj];simpa using ez⟩
     rw[Ff]at this;cases this
   |cons k0 tl=>
    rw[Ff]at g5;have sO:k0∈(List.range hJ.length).filter λk=>decide ((aY.getD k λ_=>0) s≠0):=by rw[Ff];exact cQ
    have kl:=mj.mp (jV.mp sO).1;have Lb:hJ[k0]?=some hJ[k0]:=cP kl;have BH:aY[k0]?=some (aY[k0]'(by lia)):=cP _;have TN:(aY[k0]'(by lia)) s≠0:=by
     have:=(jV.mp sO).2
     rw[eG,BH]at this;simpa using this
    obtain⟨ra,ea,i0⟩:=hL.2 k0 _ _ Lb BH;rw[ea]at Lb;have rg:=hE.rr _ (dP BH);generalize (aY[k0]'(by lia))=f0 at BH TN i0 rg;obtain⟨R,BI,hR,_⟩:=i0.mono dS;have lR:=K6 hR rg;have TQ:=rp _ _ BI;refine acd (by intro e;cases e) ?_;refine⟨_,rf,_,rf,ls,_,0,.int (k0:Int),rf,rf,.of g5,bX (j:=0) rf,ou,_,(k0:Int),.ref ra,rf,rf,.of (ik _ _ xk),bX Lb,?_⟩;have n0:0<f0 s:=by have:=(rg s).1;lia
    have n1:=(rg s).2.1;obtain⟨t1,t2,t3'⟩:=Jd (n:=f0 s) pp (by lia) n1;have vf:=TC hR TN;refine⟨_,rf,p,rf,by lia,by lia,IV (n:=p.toNat) (lo:=0) (cp:=[some (.int p),some (.ref ra),some (.int (s:Int))]) (λj H' zs=>zs=((List.range j).filter λ(u:Nat)=>decide ((u:Int)*f0 s%p=1)).map λ(u:Nat)=>V.int u) (by lia) rf (λj H' zs e=>by rw[e,bu];exact gn (vW _ _) (by rw[r6];exact cn _)) ?_ ?_⟩
    ·rintro j H' zs hj iG rfl;rw[qD];refine⟨_,rf,_,rf,_,rf,ra,.int (f0 s),rf,by have:=eI.k (k:=Sum.inl (s:Int)) (iG _ _ TQ);rw[vf]at this;exact this,_,_,rf,rf,.inl ⟨by lia,by lia⟩,_,rf,_,_,rf,rf,(by show(0:Int)<p;lia),rfl,_,rfl,uK (λheq=>?_) (λcZ=>?_)⟩
     ·have wR:(j:Int)*f0 s%p=1:=V.int.inj (aL heq);refine⟨_,rf,⟨[_],rf,rf⟩,iG,?_⟩;rw[r9,qE,C0 (by simpa using wR),qF,du];rfl
     ·have wQ:¬(j:Int)*f0 s%p=1:=λz=>cZ (aD (aj V.int z));refine⟨⟨[_],rf,rf⟩,iG,?_⟩;rw[r9,qE,C1 (by simpa using wQ),qF,iT]
    rintro H6 zs iy ez lc nh;have Fg:(fX p (f0 s)).toNat∈(List.range p.toNat).filter λ(u:Nat)=>decide ((u:Int)*f0 s%p=1):=by
     refine jV.mpr ⟨mj.mpr (by lia),?_⟩
     have:((fX p (f0 s)).toNat:Int)=fX p (f0 s):=by lia
     rw[this];simpa using t3'
    cases Bq:(List.range p.toNat).filter λ(u:Nat)=>decide ((u:Int)*f0 s%p=1) with
    |nil=>rw[Bq]at Fg;cases Fg
    |cons tn us=>
     have kc:tn∈(List.range p.toNat).filter λ(u:Nat)=>decide ((u:Int)*f0 s%p=1):=by rw[Bq];exact cQ
     have t3:(tn:Int)*f0 s%p=1:=by simpa using(jV.mp kc).2
     have tl':=mj.mp (jV.mp kc).1;rw[Bq]at ez;have tF:=iy.trans (aW.upd (o:=.lst zs) nh);have g7:(upd H6 lc (.lst zs)) lc=some (.lst zs):=bb;clear nh iy;generalize upd H6 lc (.lst zs)=H7 at tF g7 |-;subst ez;refine⟨lc,_,0,.int (tn:Int),rf,rf,.of g7,bX (j:=0) rf,?_⟩;have Lc:=tF _ _ TQ;refine⟨ra,R.map rK,Lc,_,rf,ra,_,rf,Lc,λo=>zk (cp:=[some (.int p),some (.ref ra),some (.int (tn:Int))]) (λi H' zs=>md K H' zs (((R.take i).map λt=>(t.1,t.2*(tn:Int)%p)).map rK)) bb (by rw[bu];lia) .nil (λi H' zs h=>by rw[h.1,bu,bu,gy];exact Nat.min_le_left _ _) ?_ ?_⟩
     ·intro i' kv H' zs hk iG hP;rw[dG]at hk;cases e:R[i']? with
      |none=>rw[e]at hk;cases hk
      |some t=>
       rw[e]at hk;cases hk;have ht:=dP e;have gf:H' ra=some (.cT o (.dK (R.map rK))):=iG _ _ bb;have r1:=rg t.1;rw[hR.mem ht]at r1;refine l4 ⟨_,rf,_,rf,_,rf,ra,.int t.2,rf,by have:=rh (k:=Sum.inl (t.1:Int)) gf;rw[p9 hR.nd ht]at this;exact this,_,rf,_,_,rf,rf,.inl ⟨by lia,by lia⟩,_,rf,_,_,rf,rf,(by show(0:Int)<p;lia),by show 2<=sizeLine;lia,λa hn=>⟨⟨[_],rfl,rfl⟩,iG.trans (.upd hn),?_⟩⟩;rw[gO,e];show md K _ (zs++[.ref a]) (((R.take i'++[t]).map λt=>(t.1,t.2*(tn:Int)%p)).map rK);rw[du,du];exact(hP.mono (.upd hn)).snoc (.of bb)
     intro H8 ma yY hP l8 BJ;rw[bu,iU]at hP;have uY:=yY.trans (aW.upd (o:=.lst ma) BJ);have gf:(upd H8 l8 (.lst ma)) ra=some (.cT o (.dK (R.map rK))):=uY _ _ bb;have ne8:l8≠ra:=λe=>by rw[e,yY _ _ bb]at BJ;cases BJ
     have Ld:=vj Lc uY;have TR:=adt pp hR rg t3;refine⟨⟨o,gf⟩,l8,ma,(R.map λt=>(t.1,t.2*(tn:Int)%p)).map rK,rf,by rw[bR ne8];exact bb,?_,λrb Fh=>?_⟩
     ·have nu:=hP.mono (aW.upd (o:=.lst ma) BJ);refine⟨nu.1,λi x kv e1 e2=>?_⟩;obtain⟨t,rfl,ht⟩:=nu.2 i x kv e1 e2;exact⟨t,rf,bq.K7 ht gf⟩
     rw[vm _ [] (by rw[jX];exact xi _ TR.nd),jX];have zp:=tF.trans (Ld.trans (aW.upd (o:=.dK ((R.map λt=>(t.1,t.2*(tn:Int)%p)).map rK)) Fh));have gB:DF (upd (upd (upd H8 l8 (.lst ma)) ra (.dK (R.map rK))) rb (.dK ((R.map λt=>(t.1,t.2*(tn:Int)%p)).map rK))) rb (iH p f0 tn):=⟨_,bb,TR,by rw[bu];lia⟩;have nrb:rb≠dn:=λe=>by rw[e,(tF.trans Ld) _ _ AH]at Fh;cases Fh
     clear hP gf uY yY BJ Ld Fh;generalize upd (upd (upd H8 l8 (.lst ma)) ra (.dK (R.map rK))) rb (.dK ((R.map λt=>(t.1,t.2*(tn:Int)%p)).map rK))=H9 at zp gB |-;have Le:=SW p0 (c:=(tn:Int)) rg;have TU:=aW.del (Pt:=dn) zp;have xn:DF (S21.del dn H9) rb (iH p f0 tn):=by
      obtain⟨Rb,e,r⟩:=gB;exact⟨Rb,by rw[om nrb];exact e,r⟩
     have Lf:=zp _ _ AH;have TV:=zp _ _ (ik _ _ xk);have hL9:=TM.mono (ik.trans zp);have g59:=zp _ _ g5;obtain⟨g,TX⟩:∃g,g=iH p f0 tn:=⟨_,rfl⟩;rw[<- TX]at Le gB xn;refine⟨_,rf,ou,_,rf,.inl (.of TV),(hJ.length:Int),rf,by lia,by lia,IV (n:=hJ.length) (lo:=0) (cp:=[some (.int p),some (.ref rb),some (.ref ou),some (.ref ls),some (.int (s:Int))]) (λj H' zs=>qd (S21.del dn H') zs (((List.range j).filter λk=>decide (k≠k0)).map λk=>gg p (aY.getD k λ_=>0) g ((aY.getD k λ_=>0) s))) (by lia) ⟨rf,λi x f e=>by cases e⟩ (λj H' zs h=>by rw[h.1,bu];exact gn (vW _ _) (by rw[r6];exact cn _)) ?_ ?_⟩
     ·rintro j H' zs hj iG hz;rw[qD];have vn:hJ[j]?=some hJ[j]:=cP hj;have xm:aY[j]?=some (aY[j]'(by lia)):=cP _;obtain⟨a,ea,TY⟩:=(hL9.mono iG).2 j _ _ vn xm;rw[ea]at vn;have eg:(aY.getD j λ_=>0)=aY[j]'(by lia):=by rw[eG,xm];rfl
      have rj:=hE.rr _ (dP xm);obtain⟨Rj,gj,yJ,lj⟩:=id TY;have TZ:=iG _ _ TV;refine⟨_,rf,_,rf,ls,_,0,.int (k0:Int),rf,rf,.of (iG _ _ g59),bX (j:=0) rf,rf,_,rf,Et (λcZ=>?_) (λheq=>?_)⟩
      ·have wQ:j≠k0:=λz=>cZ (by rw[z]);refine⟨_,rf,_,rf,_,rf,ou,_,(j:Int),.ref a,rf,rf,.of TZ,bX vn,_,rf,_,rf,_,rf,ou,_,(j:Int),.ref a,rf,rf,.of TZ,bX vn,a,rf,.inl ⟨_,.inl gj⟩,_,rf,_,eI.k (k:=Sum.inl (s:Int)) gj,?_⟩;rw[BD,yJ.cf];refine⟨p,a,rb,_,M,_,g,rf,p2,dX,TY,gB.mono iG,rj,Le,(rj s).1,(rj s).2.1,hM,λa' jE iQ hd nU=>⟨⟨[_],rf,rf⟩,iG.trans iQ,?_⟩⟩;have na:a'≠dn:=by
        rcases nU with rfl|nU
        ·obtain⟨b',eb,Rb,gb,_⟩:=hL.2 j _ _ (cP hj) xm;rw[ea]at eb;cases eb;exact(lg gb).1
        ·exact λe=>by rw[e,iG _ _ Lf]at nU;cases nU
       have jc:DF (S21.del dn jE) a' (gg p (aY[j]'(by lia)) g ((aY[j]'(by lia)) s)):=by
        obtain⟨Rb,e,r⟩:=hd;exact⟨Rb,by rw[om na];exact e,r⟩
       rw[r9,qE,C0 (by simpa using wQ),qF,du];refine(hz.mono (aW.del iQ)).snoc ?_;show DF (S21.del dn jE) a' (gg p (aY.getD j λ_=>0) g ((aY.getD j λ_=>0) s));rw[eg];exact jc
      ·have wR:j=k0:=by have:=V.int.inj heq;lia
       refine⟨⟨[_],rf,rf⟩,iG,?_⟩;rw[r9,qE,C1 (by simpa using wR),qF,iT];exact hz
     rintro Ha zq Lg hz lz i7;have BK:=Lg.trans (aW.upd (o:=.lst zq) i7);have nlz:lz≠dn:=λe=>by rw[e,Lg _ _ Lf]at i7;cases i7
     have gz:S21.del dn (upd Ha lz (.lst zq)) lz=some (.lst zq):=by rw[om nlz];exact bb
     have nX:=hz.mono (aW.del (Pt:=dn) (aW.upd (o:=.lst zq) i7));clear hz i7 Lg;generalize upd Ha lz (.lst zq)=Hc at BK gz nX |-;have dSc:=(sm.trans dS).trans (TU.trans (aW.del (Pt:=dn) BK));have Lh:=BK _ _ Lf;have ady:=hD.mono (dS.trans (TU.trans (aW.del (Pt:=dn) BK)));have T1:=xn.mono (aW.del (Pt:=dn) BK);have T2:=hE.step pp TL BH t3 (rows':=((List.range hJ.length).filter λk=>decide (k≠k0)).map λk=>gg p (aY.getD k λ_=>0) (iH p f0 tn) ((aY.getD k λ_=>0) s)) (λf' wz=>?_) (λi' f' jq wz=>?_)
     ·rw[<- TX]at T2;have Eu:=λ(i j:Nat)(t u:Nat×Fn) hi hj e=>TH hE (i:=i) (j:=j) (t:=t) (u:=u) hi hj e;have kD:kvs.length=D.length:=hD.1;refine⟨_,rf,dn,kvs,rf,.inl Lh,λll uT=>?_⟩;have nll:ll≠dn:=λe=>by rw[e,Lh]at uT;cases uT
      have T3:=aW.upd (o:=.lst (kvs.map λkv=>kV kv.1)) uT;have gll:S21.del dn (upd Hc ll (.lst (kvs.map λkv=>kV kv.1))) ll=some (.lst (kvs.map λkv=>kV kv.1)):=by rw[om nll];exact bb
      have zr:=aW.del (Pt:=dn) T3;refine⟨ll,rf,⟨_,.of bb⟩,so (xs:=kvs.map λkv=>kV kv.1) (λj σ H'=>aW (S21.del dn (upd Hc ll (.lst (kvs.map λkv=>kV kv.1)))) (S21.del dn H')/\∃s8 BL,σ=[some (.int p),some (.ref od),some (.ref lz),some (.ref dn),some (.int (s:Int)),some (.ref ls),some (.ref rb),some (.int (tn:Int)),s8]/\H' dn=some (.dK BL)/\jS (S21.del dn H') BL (mf (λt=>(t.1,gg p t.2 g (t.2 s))) D j)) ⟨.refl _,_,kvs,rf,T3 _ _ Lh,ady.mono zr⟩ (λj σ H' _ h=>.of (rp _ _ (h.1 _ _ gll))) ?_ ?_⟩
      ·rintro j x σ H' hx ⟨vo,zt,BL,rfl,zu,ny⟩;rw[dG]at hx;have jl:j<kvs.length:=by
        by_cases c:j<kvs.length
        ·exact c
        ·rw[jJ (by lia)]at hx;cases hx
       have tO:kvs[j]?=some kvs[j]:=cP jl;have zv:D[j]?=some (D[j]'(by lia)):=cP _;obtain⟨b0,T4,_⟩:=hD.2 j _ _ tO zv;rw[tO,T4]at hx;have rt:=hE.dr _ (dP zv);generalize (D[j]'(by lia))=t at zv T4 hx rt;cases hx;have Li:(mf (λt=>(t.1,gg p t.2 g (t.2 s))) D j)[j]?=some t:=by rw[Fc (by lia),ag (rW _)];exact zv
       have T5:=adw (F:=λt:Nat×Fn=>(t.1,gg p t.2 g (t.2 s))) (k:=j) (D:=D) (by lia) (λ_=>rfl) Eu;obtain⟨a,_,hv,T6⟩:=ny.val T5 Li;have T7:=T6.mono rp;obtain⟨Ra,T8,T9,_⟩:=id T7;have na:a≠dn:=by
        obtain⟨Rb,gb,_⟩:=T6;exact(lg gb).1
       have dg:eI H' dn (kV (Sum.inl (t.1:Int))) (some (.ref a)):=by have:=eI.k (k:=Sum.inl (t.1:Int)) zu;rw[hv]at this;exact this
       have Lj:=(T1.mono zr).mono vo;refine⟨_,rf,_,rf,_,rf,dn,.ref a,rf,dg,a,_,rf,eI.k (k:=Sum.inl (s:Int)) T8,_,rf,?_⟩;rw[TF T9 s];refine uK (λhc=>?_) (λhc=>?_)
       ·have hc:t.2 s≠0:=by simpa using hc
        refine⟨_,rf,_,rf,_,rf,dn,.ref a,rf,dg,_,rf,_,rf,_,rf,dn,.ref a,rf,dg,_,rf,a,.int (t.2 s),rf,by have:=eI.k (k:=Sum.inl (s:Int)) T8;rw[TC T9 hc]at this;exact this,p,a,rb,t.2 s,M,t.2,g,rf,p2,dX,T7,Lj.mono rp,rt,Le,(rt s).1,(rt s).2.1,hM,λa' jE iQ hd nU=>?_⟩;have na':a'≠dn:=by
         rcases nU with rfl|nU
         ·exact na
         ·exact λe=>by rw[e,zu]at nU;cases nU
        have jc:DF (S21.del dn jE) a' (gg p t.2 g (t.2 s)):=by
         obtain⟨Rb,e,r⟩:=hd;exact⟨Rb,by rw[om na'];exact e,r⟩
        have adz:=iQ _ _ zu;refine⟨_,rf,_,rf,dn,_,rf,l6.k (k:=Sum.inl (t.1:Int)) adz (by rw[ny.1,La (by lia)];lia),?_⟩;refine⟨by rw[xj];exact vo.trans (aW.del iQ),_,_,rf,bb,?_⟩;rw[xj,TJ zv];exact(ny.mono (aW.del iQ)).put T5 Li jc
       ·have hc:t.2 s=0:=by simpa using hc
        refine⟨vo,_,BL,rf,zu,?_⟩;have e:mf (λt=>(t.1,gg p t.2 g (t.2 s))) D (j+1)=mf (λt=>(t.1,gg p t.2 g (t.2 s))) D j:=by
         rw[TJ zv];apply List.ext_getElem?;intro i';rw[List.getElem?_set];by_cases ei:j=i'
         ·subst ei;rw[af rfl,La (by lia),af (by lia),Li,hc,SY p0 rt]
         ·rw[ag ei]
        rw[e];exact ny
      ·rintro σ H' ⟨vo,zt,BL,rfl,zu,ny⟩;rw[bu,kD,adv]at ny;have Lj:=(T1.mono zr).mono vo;have dA:=dSc.trans (zr.trans vo);refine⟨_,rf,_,rf,_,rf,dn,_,rf,l6.k (k:=Sum.inl (s:Int)) zu (by rw[ny.1,bu];lia),?_⟩;refine⟨by rw[xj];exact dA,lz,zq,_,_,_,_,_,_,_,_,rf,by rw[xj];exact(zr.trans vo) _ _ gz,by rw[xj];exact nX.mono (zr.trans vo),?_,bb,?_,?_,by rw[et];exact T2⟩
       ·rw[bu];refine gn (vW _ _) ?_;rw[r6,rq];exact lL
       ·rw[xj];refine ny.snoc Lj λu hu=>?_;obtain⟨t0,BM,rfl⟩:=dD.mp hu;exact λe=>TL (e▸hE.keys t0 BM)
       ·rw[cm,bu];show D.length+1<=i+1;lia
     ·obtain⟨k',iL,rfl⟩:=dD.mp wz;have kl':=mj.mp (jV.mp iL).1;have sV:aY[k']?=some (aY[k']'(by rw[<- rq];exact kl')):=cP _;refine⟨_,dP sV,?_⟩;rw[eG,sV];rfl
     ·refine dD.mpr ⟨i',jV.mpr ⟨mj.mpr (by rw[rq];exact(dC.mp wz).1),by simpa using jq⟩,?_⟩;rw[eG,wz];rfl
  ·rintro σ H2 ⟨sm,ou,hJ,aY,D,kvs,s4,s5,s6,s7,s8,rfl,gL,hL,lL,gD,hD,lD,hE⟩;unfold cx at hE;rw[bu,iU]at hE;exact⟨_,rf,q dn kvs aY D H2 (λb u e=>rp _ _ (sm b u e)) gD (hD.mono rp) hE⟩
def Ua(D:List (Nat×Fn)):Prop:=∀(i j:Nat)(t u:Nat×Fn),D[i]?=some t->D[j]?=some u->t.1=u.1->i=j
theorem adA(h:jS H kvs D)(nd:Ua D){g:Fn}(e:o8 D s=some g):∃a,da kvs (Sum.inl (s:Int))=some (.ref a)/\DF H a g:=by
 obtain⟨t,ht,rfl,rfl⟩:=KS e;obtain⟨i,hi⟩:=nK.mp ht;obtain⟨a,_,hv,hd⟩:=h.val nd hi;exact⟨a,hv,hd⟩
theorem Ub(h:jS H kvs D)(e:o8 D s=none):da kvs (Sum.inl (s:Int))=none:=by
 cases ev:da kvs (Sum.inl (s:Int)) with
 |none=>rfl
 |some v=>
  obtain⟨kv,zo,ek⟩:=dD.mp (K4 ev);obtain⟨j,hj⟩:=nK.mp zo;have jl:j<D.length:=by rw[<- h.1];exact(dC.mp hj).1
  obtain⟨b,e2,_⟩:=h.2 j kv _ hj (cP jl);rw[e2]at ek;exact absurd (me.mp ek) (ac3 e _ (r8 jl))
theorem Lk{O:List Nat}{x:V}(h:(cx O)[i]?=some x):∃s:Nat,O[i]?=some s/\x=.int (s:Int):=by
 unfold cx at h;rw[dG]at h;cases e:O[i]? with
 |none=>rw[e]at h;cases h
 |some s=>rw[e]at h;cases h;exact⟨s,rf,rf⟩
def jt(H:Hp)(RS:List V)(qs:List dO):Prop:=RS.length=qs.length/\∀(i:Nat)(x:V)(q:dO),RS[i]?=some x->qs[i]?=some q->∃a,x=.ref a/\H a=some (.dK (q.map rK))
theorem jt.mono{RS:List V}{qs:List dO}(h:jt H RS qs)(s:aW H H'):jt H' RS qs:=⟨h.1,λi x q e1 e2=>let ⟨a,e,g⟩:=h.2 i x q e1 e2;⟨a,e,s _ _ g⟩⟩
theorem jt.nil:jt H [] []:=⟨rfl,λi x q e=>by cases e⟩
theorem jt.one{q:dO}(g:H a=some (.dK (q.map rK))):jt H [.ref a] [q]:=⟨rfl,λi x q' e1 e2=>by
 cases i with
 |zero=>cases e1;cases e2;exact⟨a,rf,g⟩
 |succ i=>cases e1⟩
theorem jt.two{b:Addr}{q r:dO}(g:H a=some (.dK (q.map rK)))(g':H b=some (.dK (r.map rK))):jt H [.ref a,.ref b] [q,r]:=⟨rfl,λi x q' e1 e2=>by
 match i with
 |0=>cases e1;cases e2;exact⟨a,rf,g⟩
 |1=>cases e1;cases e2;exact⟨b,rf,g'⟩
 |i+2=>cases e1⟩
theorem Ll(h:H a=none):∀v∈[V.ref a],∀b,v=.ref b->H b=none:=λv hv b e=>by
 rw[cA.mp hv]at e;cases e;exact h
theorem adB{c:Addr}(h:H a=none)(h':H c=none):∀v∈[V.ref a,V.ref c],∀b,v=.ref b->H b=none:=λv hv b e=>by
 rcases(cV.mp hv)with(rfl|hv)
 ·cases e;exact h
 ·exact Ll h' v hv b e
def Lm:Sp:=λvs H Q _=>∃(x:Str)(v:V)(n:Int),vs=[.str x,v]/\(x="times"->v=.int n)/\∀t RS H',aW H H'->H t=none->(∀v∈RS,∀a,v=.ref a->H a=none)->H' t=some (.lst RS)->jt H' RS (dR x n)->Q (.ref t) H'
theorem adC:dy ["word","number"] ["word","number"] (cu J3):=dI rfl rfl rfl (by decide +kernel) rfl
abbrev BN:TE:=Dp (rU λi=>V.int (-i)) (tC (.int 1))
abbrev mh(a b:Int):TE:=pW [(tC (.int a),tC (.int 1)),(tC (.int b),BN)]
abbrev Uc:TE:=pW [(tC (.int 0),tC (.int 1)),(tC (.int 1),tC (.int 1)),(tC (.int 2),BN)]
abbrev Ud:TE:=pW [(tC (.int 0),tC (.int 1))]
abbrev Ue:TE:=pW [(tC (.int 0),bg 1),(tC (.int 1),BN)]
abbrev xo(z:Str):TT:=gH (cO j6 (bg 0) (tC (.str z)))
def Fi:TS:=cF (eA (pM (xo "id") (xo "cup")) (fQ (gI (bz (mh 0 1) cy))) gG) (cF (eA (xo "swap") (fQ (gI (bz (mh 0 3) (bz (mh 1 2) cy)))) gG) (cF (eA (xo "copy") (fQ (gI (bz (mh 0 1) (bz (mh 0 2) cy)))) gG) (cF (eA (xo "add") (fQ (gI (bz Uc cy))) gG) (cF (eA (xo "none") (fQ (gI (bz Ud cy))) gG) (cF (eA (xo "times") (fQ (gI (bz Ue cy))) gG) (fQ (gI cy)))))))
theorem Ln{Q:VK}{a b:Nat}(tQ:a≠b)(q:∀d,H d=none->Q (.ref d) (upd H d (.dK (([(a,1),(b,-1)]:dO).map rK)))):mh (a:Int) (b:Int) σ H Q:=by
 intro d hd;refine⟨_,rf,bb,[(Sum.inl (a:Int),.int 1),(Sum.inl (b:Int),.int (-1))],rf,by show 2<=15;decide,?_⟩;rw[vm _ [] (by rw[jX];exact xi [(a,1),(b,-1)] (by simp[tQ])),C9];exact q d hd
theorem Ug{t:TA}{D:Ends}(h:te σ H λv H1=>t σ H1 λvs H2=>(v::vs).length<=sizeLine/\∀l,H2 l=none->D.rt (.ref l) (upd H2 l (.lst (v::vs)))):fQ (gI (bz te t)) D σ H:=h
theorem Uh{t:TA}{R:List V->Hp->Prop}(h:te σ H λv H1=>t σ H1 λvs H2=>R (v::vs) H2):bz te t σ H R:=h
theorem adD{D:Ends}{x:Str}{v:V}{n:Int}(hv:x="times"->v=.int n)(q:∀t RS H',aW H H'->H t=none->(∀v∈RS,∀a,v=.ref a->H a=none)->H' t=some (.lst RS)->jt H' RS (dR x n)->D.rt (.ref t) H'):Fi D [some (.str x),some v] H:=by
 have zz:=i5;have dc:∀z:Str,x=z->decide (V.str x=V.str z)=true:=λz e=>aD (by rw[e]);have dn:∀z:Str,x≠z->decide (V.str x=V.str z)=false:=λz e=>ae λh=>e (V.str.inj h);have two:∀(a b c e:Nat),a≠b->c≠e->dR x n=[[(a,1),(b,-1)],[(c,1),(e,-1)]]->fQ (gI (bz (mh (a:Int) (b:Int)) (bz (mh (c:Int) (e:Int)) cy))) D [some (.str x),some v] H:=λa b c e tQ hce he=>by
  refine Ug (Ln tQ λd1 h1=>?_);refine Uh (Ln hce λd2 h2=>?_);refine⟨by show 2<=sizeLine;lia,λt ht=>?_⟩;have s1:=aW.upd (o:=.dK (([(a,1),(b,-1)]:dO).map rK)) h1;have s2:=aW.upd (o:=.dK (([(c,1),(e,-1)]:dO).map rK)) h2;have s3:=aW.upd (o:=.lst [.ref d1,.ref d2]) ht;refine q t _ _ (s1.trans (s2.trans s3)) (i6 (s1.trans s2) ht) (adB h1 (i6 s1 h2)) bb ?_;rw[he];exact .two ((s2.trans s3) _ _ bb) (s3 _ _ bb)
 unfold Fi;by_cases c1:x="id"\/x="cup"
 ·have e:dR x n=[[(0,1),(1,-1)]]:=af c1;have go:fQ (gI (bz (mh 0 1) cy)) D [some (.str x),some v] H:=by
   refine Ug (Ln (a:=0) (b:=1) (by decide) λd1 h1=>?_);refine⟨by show 1<=sizeLine;lia,λt ht=>?_⟩;have s1:=aW.upd (o:=.dK (([(0,1),(1,-1)]:dO).map rK)) h1;have s3:=aW.upd (o:=.lst [.ref d1]) ht;refine q t _ _ (s1.trans s3) (i6 s1 ht) (Ll h1) bb ?_;rw[e];exact .one (s3 _ _ bb)
  refine⟨_,rf,rf,_,rf,?_⟩;by_cases c2:x="id"
  ·rw[dc _ c2];exact eC (eC go)
  ·rw[dn _ c2];refine dB ⟨_,rf,rf,_,rf,?_⟩;rw[dc _ (c1.resolve_left c2)];exact eC go
 have c2:x ≠ "id":=λe=>c1 (.inl e);have c3:x ≠ "cup":=λe=>c1 (.inr e);refine⟨_,rf,rf,_,rf,?_⟩;rw[dn _ c2];refine dB ⟨_,rf,rf,_,rf,?_⟩;rw[dn _ c3];refine dB ⟨_,rf,rf,_,rf,?_⟩;by_cases c4:x="swap"
 ·rw[dc _ c4];exact eC (two 0 3 1 2 (by decide) (by decide) (by rw[c4];exact KI n))
 rw[dn _ c4];refine dB ⟨_,rf,rf,_,rf,?_⟩;by_cases c5:x="copy"
 ·rw[dc _ c5];exact eC (two 0 1 0 2 (by decide) (by decide) (by rw[c5];exact KJ n))
 rw[dn _ c5];refine dB ⟨_,rf,rf,_,rf,?_⟩;have Lo:∀(qr:dO)(d1:Addr),(qr.map Prod.fst).Nodup->H d1=none->dR x n=[qr]->∀R:VK,(∀t H',R (.ref t) H'=D.rt (.ref t) H')->(([V.ref d1]).length<=sizeLine/\∀t,(upd (upd H d1 (.dK [])) d1 (.dK (iF [] (qr.map rK)))) t=none->R (.ref t) (upd (upd (upd H d1 (.dK [])) d1 (.dK (iF [] (qr.map rK)))) t (.lst [.ref d1]))):=λqr d1 ndq h1 he R hR=>by
  rw[vm _ [] (by rw[jX];exact xi qr ndq),C9,jX];refine⟨by show 1<=sizeLine;lia,λt ht=>?_⟩;have s1:=aW.upd (o:=.dK (qr.map rK)) h1;have s3:=aW.upd (o:=.lst [.ref d1]) ht;rw[hR];refine q t _ _ (s1.trans s3) (i6 s1 ht) (Ll h1) bb ?_;rw[he];exact .one (s3 _ _ bb)
 by_cases c6:x="add"
 ·rw[dc _ c6];refine eC λd1 h1=>⟨_,rf,bb,([(0,1),(1,1),(2,-1)]:dO).map rK,rf,by show 3<=15;decide,?_⟩;exact Lo [(0,1),(1,1),(2,-1)] d1 (by decide) h1 (by rw[c6];exact KL n) _ λ_ _=>rf
 rw[dn _ c6];refine dB ⟨_,rf,rf,_,rf,?_⟩;by_cases c7:x="none"
 ·rw[dc _ c7];refine eC λd1 h1=>⟨bb,([(0,1)]:dO).map rK,rf,by show 1<=15;decide,?_⟩;exact Lo [(0,1)] d1 (by decide) h1 (by rw[c7];exact KN n) _ λ_ _=>rf
 rw[dn _ c7];refine dB ⟨_,rf,rf,_,rf,?_⟩;by_cases c8:x="times"
 ·rw[dc _ c8,hv c8];refine eC λd1 h1=>⟨_,rf,_,rf,bb,([(0,n),(1,-1)]:dO).map rK,rf,by show 2<=15;decide,?_⟩;exact Lo [(0,n),(1,-1)] d1 (by simp) h1 (by rw[c8];exact KO n) _ λ_ _=>rf
 rw[dn _ c8];refine dB ⟨by decide,λt ht=>?_⟩;refine q t [] _ (.upd ht) ht (λv hv=>by cases hv) bb ?_;have e:dR x n=[]:=by
  unfold dR;rw[ag c1,ag c4,ag c5,ag c6,ag c7,ag c8]
 rw[e];exact .nil
theorem BO{X:Cx}{a b:Int}{pos p1 p2 p3 p4 p5:Pos}{j1 j2 j3 j4:Nat}:PE X (.Dict [some (.Constant (.int a) j1 p1),some (.Constant (.int b) j2 p2)] [.Constant (.int 1) j3 p3,.UnaryOp .USub (.Constant (.int 1) j4 p4) p5] pos) (mh a b):=by
 refine yR ?_ rf rf ?_ ?_
 ·exact qY ba ba (qY ba (nN nO ba) yQ)
 ·intro e;cases e
 ·show 2<=15;decide
theorem Ui{f:Addr}(F:cJ K "_law_equations" "_law_equations" J3 f fd):cc P w K mg base cb 1 f fd ["word","number"] Lm:=by
 refine F.ok adC (λvs H Q E h=>?_) (λcz A outer s H vs Q E hr h=>?_)
 ·obtain⟨x,v,n,rfl,_⟩:=h;rfl
 ·obtain⟨x,v,n,rfl,hv,q⟩:=h;refine⟨Fi,?_,adD hv q⟩;unfold Fi;refine bo ?_ ?_
  ·refine dj ?_ ?_ dz
   ·exact PW.pt (wd (cS eB (pv 0) dh (cM _)) (xY (cS eB (pv 0) dh (cM _))))
   ·refine bY ?_;refine cC (te:=gI (bz (mh 0 1) cy)) ?_;refine gT ?_;refine aV ?_ aZ ?_
    ·exact BO
    ·rfl
  refine bo ?_ ?_
  ·refine dj ?_ ?_ dz
   ·exact cS eB (pv 0) dh (cM _)
   ·refine bY ?_;refine cC (te:=gI (bz (mh 0 3) (bz (mh 1 2) cy))) ?_;refine gT ?_;refine aV ?_ ?_ ?_
    ·exact BO
    ·refine aV ?_ aZ ?_
     ·exact BO
     ·rfl
    ·rfl
  refine bo ?_ ?_
  ·refine dj ?_ ?_ dz
   ·exact cS eB (pv 0) dh (cM _)
   ·refine bY ?_;refine cC (te:=gI (bz (mh 0 1) (bz (mh 0 2) cy))) ?_;refine gT ?_;refine aV ?_ ?_ ?_
    ·exact BO
    ·refine aV ?_ aZ ?_
     ·exact BO
     ·rfl
    ·rfl
  refine bo ?_ ?_
  ·refine dj ?_ ?_ dz
   ·exact cS eB (pv 0) dh (cM _)
   ·refine bY ?_;refine cC (te:=gI (bz Uc cy)) ?_;refine gT ?_;refine aV ?_ aZ ?_
    ·refine yR ?_ rf rf ?_ ?_
     ·exact qY ba ba (qY ba ba (qY ba (nN nO ba) yQ))
     ·intro e;cases e
     ·show 3<=15;decide
    ·rfl
  refine bo ?_ ?_
  ·refine dj ?_ ?_ dz
   ·exact cS eB (pv 0) dh (cM _)
   ·refine bY ?_;refine cC (te:=gI (bz Ud cy)) ?_;refine gT ?_;refine aV ?_ aZ ?_
    ·refine yR ?_ rf rf ?_ ?_
     ·exact qY ba ba yQ
     ·intro e;cases e
     ·show 1<=15;decide
    ·rfl
  refine bo ?_ ?_
  ·refine dj ?_ ?_ dz
   ·exact cS eB (pv 0) dh (cM _)
   ·refine bY ?_;refine cC (te:=gI (bz Ue cy)) ?_;refine gT ?_;refine aV ?_ aZ ?_
    ·refine yR ?_ rf rf ?_ ?_
     ·exact qY ba (pv 1) (qY ba (nN nO ba) yQ)
     ·intro e;cases e
     ·show 2<=15;decide
    ·rfl
  refine bY ?_;exact cC (te:=gI cy) (gT aZ)
end S21
namespace L2
open PySem PySem.Spec PyProof.Rows PySem.W
section
variable{X:Cx}{K:Frag}
theorem adE(its:List Value):slicePick its.toArray none none (some (-1))=its.reverse.toArray:=by
 unfold slicePick;have e1:sliceBounds none none (some (-1)) its.toArray.size=((its.length:Int)-1,-1,-1):=by
  unfold sliceBounds;simp
 rw[e1];have e2:sliceRange ((its.length:Int)-1) (-1) (-1)=(List.range its.length).map λk=>its.length-1-k:=by
  unfold sliceRange;have c:(if(-1:Int)>0 then(if(its.length:Int)-1 < -1 then(-1-((its.length:Int)-1) + -1-1) / -1 else 0)else if(its.length:Int)-1 > -1 then((its.length:Int)-1 - -1 - -1-1)/(- -1)else 0).toNat=its.length:=by
   rw[ag (by decide)];by_cases h:(its.length:Int)-1 > -1
   ·rw[af h];simp
   ·rw[ag h];lia
  dsimp only;rw[c];refine uw λk hk=>?_
  have:=mj.mp hk
  lia
 show(((sliceRange ((its.length:Int)-1) (-1) (-1)).filterMap (its.toArray[·]?)).toArray)=_;rw[e2]
 congr 1
 apply List.ext_getElem?;intro i;have e3:((List.range its.length).map λk=>its.length-1-k).filterMap (its.toArray[·]?)=(List.range its.length).filterMap λk=>its[its.length-1-k]?:=by
  rw[List.filterMap_map]
  have:((λx=>its.toArray[x]?) ∘ λk=>its.length-1-k)=λk=>its[its.length-1-k]?:=by funext k;simp
  rw[this]
 rw[e3];have e4:(List.range its.length).filterMap (λk=>its[its.length-1-k]?)=its.reverse:=by
  have:∀m,m<=its.length->(List.range m).filterMap (λk=>its[its.length-1-k]?)=its.reverse.take m:=by
   intro m;induction m with
   |zero=>intro _;rfl
   |succ m ih=>
    intro hm;rw[r9,List.filterMap_append,ih (by lia),gO]
    congr 1
    rw[List.getElem?_reverse (by lia)];have hx:its[its.length-1-m]?=some (its[its.length-1-m]'(by lia)):=cP _;rw[List.filterMap_cons,hx];rfl
  have h:=this its.length (cn _);rw[h,<- Aa,iU]
 rw[e4]
theorem Vals.rev:∀{xs:List V}{us:List Value},Vals xs us->Vals xs.reverse us.reverse
 |_,_,.nil=>.nil
 |_,_,.cons h t=>by rw[C3,C3];exact Vals.append (Vals.rev t) (.cons h .nil)
def adF(K:Frag)(te:TE):TE:=λσ H Q=>te σ H λx H1=>∃a xs,x=.ref a/\dQ K H1 a xs/\∀p,H1 p=none->Q (.ref p) (upd H1 p (.lst xs.reverse))
theorem adG(hK:X.K=K){e:Expr}{te:TE}{j:Nat}{p2 p4 p5 pos:Pos}(he:PE X e te):PE X (.Subscript e (.Slice none none (some (.UnaryOp .USub (.Constant (.int 1) j p4) p5)) p2) pos) (adF K te):=by
 subst hK;intro aU s σ H Q I h;refine Subscript_ (bj (he aU s σ H _ I h) λv s1 ⟨x,H1,I1,r1,q1⟩=>?_);obtain⟨a,xs,rfl,hx,q⟩:=q1;cases r1;refine wpAny_Slice (bj (mQ (X:=X) aU s1 σ H1 (λo H'=>o=none/\H'=H1) I1 ⟨rf,rf⟩) λvl s2 ⟨l,H2,I2,pl,e2⟩=>bj (mQ (X:=X) aU s2 σ H2 (λo H'=>o=none/\H'=H2) I2 ⟨rf,rf⟩) λvu s3 ⟨u,H3,I3,pu,e3⟩=>bj (lT (X:=X) (te:=Dp (rU λi=>V.int (-i)) (tC (.int 1))) (nN nO ba) aU s3 σ H3 (λo H'=>o=some (-1)/\H'=H3) I3 ⟨_,rf,_,rf,rf,rf⟩) λvs s4 ⟨st,H4,I4,ps,e4⟩=>?_);obtain⟨rfl,rfl⟩:=e2;obtain⟨rfl,rfl⟩:=e3;obtain⟨rfl,rfl⟩:=e4;have I5:Inv X aU σ H4 { s4 with heap:=s4.heap.push { cls:=.type "slice",data:=.fields #[vl,vu,vs] } }:=I4.kept (t':=s4.toks) λb ob q=>dt _ q;obtain⟨its,r,ht,hz⟩:=I5.list hx;have cB:=r.length;show wpAny (model X.prog X.w) X.A (subscriptTail e (.Slice none none (some (.UnaryOp .USub (.Constant (.int 1) j p4) p5)) p2) (.ref a) (.ref s4.heap.objs.size)) (EP X aU σ Q) X.xe { s4 with heap:=s4.heap.push { cls:=.type "slice",data:=.fields #[vl,vu,vs] } };refine tail_any (ops:=[.ref a,.ref s4.heap.objs.size]) ht.isList.typeIs slot_list_getitem.lookup ?_ (by with_unfolding_all rfl);refine wpAny_getItem_list_slice ht.isList (Heap.IsSliceOf.new ..) pl pu ps (by simp) ?_ (by rw[eK];lia);rw[adE];refine⟨.ref _,_,I5.laid (t':=s4.toks) (o:=.lst xs.reverse) (λb ob q=>dt _ q) (cn _) ?_,rf,q _ (I5.cq.fresh (cn _))⟩;exact⟨by rw[Aa];exact hz,its.reverse,0,r.rev,fi _ rf⟩
end
end L2
namespace S21
open PySem L2 Bw
section
variable{p:Int}
theorem Lp{x:Str}{n:Int}:∀q∈dR x n,(q.map Prod.fst).Nodup/\q.length<=3:=by
 unfold dR
 repeat' split
 all_goals (intro q hq;simp at hq)
 all_goals (try (rcases hq with rfl|rfl))
 all_goals (try subst hq)
 all_goals simp
theorem Lq(x:Str)(n:Int):(dR x n).length<=2:=by
 unfold dR
 repeat' split
 all_goals simp
theorem Lr{N:Nat}{q:dO}(h:(q.map Prod.fst).Nodup):((iz N q).map Prod.fst).Nodup:=by
 unfold iz;rw[mn];have e:(Prod.fst ∘ λt:Nat×Int=>(N+t.1,t.2))=(λs=>N+s)∘(Prod.fst:Nat×Int->Nat):=rfl;rw[e,<- mn];exact List.pairwise_map.mpr (h.imp λcZ z=>cZ (by lia))
theorem rA:∀{d:Drw}{N:Nat},d.wf p->(aT d N).2<=N+4*d.aX.length/\(aT d N).1.aY.length<=2*d.aX.length/\∀q∈(aT d N).1.aY,(q.map Prod.fst).Nodup/\q.length<=3
 | .box x l r aY,N,h=>by
  obtain⟨h1,h2,_⟩:=ER _ h;refine⟨by show N+l+r<=N+4*1;have h1:l<=2:=h1;have h2:r<=2:=h2;lia,by show((dR x 0).map (iz N)).length<=2*1;rw[bu];exact Lq x 0,λq hq=>?_⟩;obtain⟨q0,h0,rfl⟩:=dD.mp hq;obtain⟨a,b⟩:=Lp q0 h0;exact⟨Lr a,by unfold iz;rw[bu];exact b⟩
 | .times n,N,_=>by
  refine⟨by show N+1+1<=N+4*2;lia,by show((dR "times" n).map (iz N)).length<=2*2;rw[bu];have:=Lq "times" n;lia,λq hq=>?_⟩;obtain⟨q0,h0,rfl⟩:=dD.mp hq;obtain⟨a,b⟩:=Lp q0 h0;exact⟨Lr a,by unfold iz;rw[bu];exact b⟩
 | .back d,N,h=>by
  obtain⟨a,b,c⟩:=rA (d:=d) (N:=N) h;have e:(Drw.back d).aX.length=d.aX.length+1:=by show(V.str "back"::d.aX).length=_;rw[dW]
  exact⟨by show(aT d N).2<=_;lia,by show(aT d N).1.aY.length<=_;lia,c⟩
 | .cD x y,N,h=>by
  obtain⟨a,b,c⟩:=rA (d:=y) (N:=N) h.2;obtain⟨a',b',c'⟩:=rA (d:=x) (N:=(aT y N).2) h.1;have e:(Drw.cD x y).aX.length=x.aX.length+y.aX.length+1:=by show(V.str "beside"::(x.aX++y.aX)).length=_;rw[dW,cm]
  rw[e];refine⟨by show(aT x (aT y N).2).2<=_;lia,?_,λq hq=>(cN.mp hq).elim (c q) (c' q)⟩;show((aT y N).1.aY++(aT x (aT y N).2).1.aY).length<=_;rw[cm];lia
 | .bj x y,N,h=>by
  obtain⟨a,b,c⟩:=rA (d:=y) (N:=N) h.2.1;obtain⟨a',b',c'⟩:=rA (d:=x) (N:=(aT y N).2) h.1;have e:(Drw.bj x y).aX.length=x.aX.length+y.aX.length+1:=by show(V.str "then"::(x.aX++y.aX)).length=_;rw[dW,cm]
  rw[e];refine⟨by show(aT x (aT y N).2).2<=_;lia,?_,λq hq=>(cN.mp hq).elim (c q) (c' q)⟩;show((aT y N).1.aY++(aT x (aT y N).2).1.aY).length<=_;rw[cm];lia
end
def Uj(K:Frag)(H:Hp)(t:Addr)(A:iP):Prop:=∃(pt lr al a b c:Addr)(RS:List V),H t=some (.lst [.ref pt,.ref lr,.ref al])/\bq K H pt [.ref a,.ref b,.ref c]/\H a=some (.lst (cx A.l))/\H b=some (.lst (cx A.r))/\H c=some (.lst (cx A.cg))/\H lr=some (.lst RS)/\jt H RS A.aY/\H al=some (.dK ((A.al.map rn).map rK))
def Ls(K:Frag):Sp:=λvs H Q _=>∃(p:Int)(aw:Addr)(d:Drw),vs=[.ref aw]/\d.wf p/\d.aX.length<=99/\bq K H aw d.aX/\∀t H',aW H H'->Uj K H' t (aT d 0).1->Q (.ref t) H'
def rB(H:Hp)(t:Addr)(p:Int)(d:Drw):Prop:=∃(ol hl dn:Addr)(kvs:List (Key×V))(aY:List Fn)(D:List (Nat×Fn)),H t=some (.lst [.int (d.bh:Int),.ref ol,.ref hl,.ref dn])/\H ol=some (.lst (cx ((aT d 0).1.l++(aT d 0).1.r)))/\H hl=some (.lst (cx (aT d 0).1.cg))/\H dn=some (.dK kvs)/\jS H kvs D/\
 EI p (aT d 0).2 (zf p (aT d 0).1) ((aT d 0).1.al.map Prod.fst++((aT d 0).1.cg++((aT d 0).1.l++(aT d 0).1.r).reverse)) aY D
def Uk(K:Frag):Sp:=λvs H Q _=>∃(p:Int)(aw:Addr)(d:Drw),vs=[.int p,.ref aw]/\p∈ig/\d.wf p/\d.aX.length<=99/\bq K H aw d.aX/\∀t H',aW H H'->rB H' t p d->Q (.ref t) H'
theorem adH:(["row","alias","p"]:List Str).Nodup:=by decide +kernel
noncomputable abbrev Ul:List Str:=["p","words","part","rows","alias","outer","done"]
theorem xp:dy Ul ["p","words"] (cu Eo):=dI rfl rfl rfl (by decide +kernel) rfl
theorem adI{f fP fM fS:Addr}{fd qe ff jP:FuncData}(F:cJ K "_law_system" "_law_system" Eo f fd)(T:Txt mg)
  (GP:cc P w K mg base cb 2 fP qe ["words"] (Ls K)) (kP:Kp K fP) (bP:Binds K qe ["words"] []) (mP:Mg mg "_law_ports" fP)
  (GM:cc P w K mg base cb 1 fM ff ["p","row","alias"] K8) (kM:Kp K fM) (bM:Binds K ff ["p","row","alias"] []) (mM:Mg mg "_law_merged" fM)
  (GS:cc P w K mg base cb 2 fS jP ["p","order","rows"] TK) (kS:Kp K fS) (bS:Binds K jP ["p","order","rows"] []) (mS:Mg mg "_law_solved" fS) :
  cc P w K mg base cb 3 f fd ["p","words"] (Uk K):=by
 refine F.ok xp (λvs H Q E h=>?_) (λcz A outer s H vs Q E hr h=>?_)
 ·obtain⟨p,aw,d,rfl,_⟩:=h;rfl
 ·obtain⟨p,aw,d,rfl,pp,hd,hw,hq,q⟩:=h;obtain⟨p2,dX⟩:=jf p pp;have zz:=i5;have iw:eO 1 _:=hr.mono (by decide);refine⟨_,bo (my (cK GP hr rf mP kP bP .nil cL (aV (pv 1) aZ)) (Jb (n:=3) rf (eZ (cH (i:=2) xp.nd rf (.inl rf)) (eZ (cH (i:=3) xp.nd rf (.inl rf)) (eZ (cH (i:=4) xp.nd rf (Or.inr rf)) ko))))) (bo (wA (i:=3) (N:=["row","alias","p"]) (own:=1) (caps:=[4,0]) rf xp.nd rf rf (jo K rf (pv 3)) (show e8 Ul (cu Eo) ["row","alias","p"] 1 [4,0] _ from .mk' (by decide +kernel)) (λ_ _ _ _ _=>cH (i:=0) adH rf (.inl rf)) (λ_ _ _ _ _=>jz) (λ_ _ _ _ _=>cK GM iw rf mM kM bM .nil cL (aV (pv 2) (aV (pv 0) (aV (pv 1) aZ))))) (bo (cv (i:=5) xp.nd rf (.inl rf) (bQ mR (br (cj K rf) (pv 2) ba) (br (cj K rf) (pv 2) ba))) (bo (cv (i:=6) xp.nd rf (.inl rf) (cK GS hr rf mS kS bS .nil cL (aV (pv 0) (aV (bQ mR (br (cj K rf) (pv 2) ba) (adG (K:=K) rf (pv 5))) (aV (pv 3) aZ))))) (bY (cC (gT (aV (eX (iM K rf) rf T.len iN (aV (br (cj K rf) (pv 2) ba) aZ)) (aV (pv 5) (aV (br (cj K rf) (pv 2) ba) (aV (pv 6) aZ)))))))))),?_⟩
  refine⟨_,rf,p,aw,d,rf,hd,hw,hq,λt H1 s1 hP=>?_⟩;obtain⟨pt,lr,al,a,b,c,RS,g1,g2,ga,gb,gc,gr,hE,gl⟩:=hP;refine⟨t,_,rf,.of g1,rf,_,_,rf,_,_,rf,_,_,rf,rf,?_⟩;obtain⟨f1,f2,f3⟩:=rA (N:=0) hd;obtain⟨l1,l2⟩:=jD (N:=0) hd;have hS:=ac6 pp hd;have xq:=w8 hd;have cE:=λ(s:Nat)(hv:s∈(aT d 0).1.all)=>(SU hd hv).2;have lA:=E9 _ xq cE;have rq:RS.length=(aT d 0).1.aY.length:=hE.1;have zz2:(aT d 0).2<=400:=by lia
  have agk:(aT d 0).1.l.length+(aT d 0).1.r.length+(aT d 0).1.cg.length<=400:=by
   unfold iP.all at lA;simp only[cm]at lA;lia
  have ll:∀L:List Nat,(cx L).length=L.length:=λL=>bu _;refine⟨_,rf,lr,rf,⟨_,.of gr⟩,uS (cp:=[some (.ref al),some (.int p)]) (λi H' zs=>qd H' zs (((aT d 0).1.aY.take i).map (p7 p (aT d 0).1.al))) (.of gr) (by lia) ⟨rf,λi x f e=>by cases e⟩ (λi H' zs h=>by rw[h.1,bu,gy];exact Nat.min_le_left _ _) ?_ ?_⟩
  ·rintro i x H' zs hx sm hz;have hi:i<(aT d 0).1.aY.length:=by rw[<- rq];exact(dC.mp hx).1
   have ju:(aT d 0).1.aY[i]?=some ((aT d 0).1.aY[i]):=cP hi;obtain⟨n1,n2⟩:=f3 _ (dP ju);obtain⟨ra,rfl,BI⟩:=hE.2 i x _ hx ju;refine l4 ⟨_,rf,_,rf,_,rf,p,ra,al,_,(aT d 0).1.al,rf,p2,dX,sm _ _ BI,n1,by lia,sm _ _ gl,λa' jE iQ jc _=>⟨⟨[_],rf,rf⟩,sm.trans iQ,?_⟩⟩;rw[gO,ju];show qd jE (zs++[.ref a']) (((aT d 0).1.aY.take i++[(aT d 0).1.aY[i]]).map (p7 p (aT d 0).1.al));rw[du];exact(hz.mono iQ).snoc jc
  rintro H2 zs gK hz lm Lu;rw[rq,iU]at hz;have s2:=gK.trans (aW.upd (o:=.lst zs) Lu);have gm:(upd H2 lm (.lst zs)) lm=some (.lst zs):=bb;have pR:=hz.mono (aW.upd (o:=.lst zs) Lu);clear hz Lu gK;generalize upd H2 lm (.lst zs)=H3 at s2 gm pR |-;refine⟨_,rf,pt,_,0,.ref a,rf,rf,s2.bc g2,bX (j:=0) rf,_,rf,pt,_,1,.ref b,rf,rf,s2.bc g2,bX (j:=1) rf,a,b,_,_,rf,rf,s2 _ _ ga,s2 _ _ gb,by rw[ll,ll];lia,λol Fj=>?_⟩;have s3:=s2.trans (aW.upd (o:=.lst (cx (aT d 0).1.l++cx (aT d 0).1.r)) Fj);have Um:=(aW.upd (o:=.lst (cx (aT d 0).1.l++cx (aT d 0).1.r)) Fj) _ _ gm;have Uo:=pR.mono (aW.upd (o:=.lst (cx (aT d 0).1.l++cx (aT d 0).1.r)) Fj);have go:(upd H3 ol (.lst (cx (aT d 0).1.l++cx (aT d 0).1.r))) ol=some (.lst (cx ((aT d 0).1.l++(aT d 0).1.r))):=by rw[bb];unfold cx;rw[du]
  clear s2 gm pR Fj;generalize upd H3 ol (.lst (cx (aT d 0).1.l++cx (aT d 0).1.r))=H4 at s3 Um Uo go |-;refine⟨_,rf,_,rf,pt,_,2,.ref c,rf,rf,s3.bc g2,bX (j:=2) rf,_,rf,ol,_,rf,.of go,λlv hlv=>?_⟩;have s4:=aW.upd (o:=.lst (cx ((aT d 0).1.l++(aT d 0).1.r)).reverse) hlv;refine⟨c,lv,_,_,rf,rf,(s3.trans s4) _ _ gc,bb,by rw[Aa,ll,ll,cm];lia,λlo uH=>?_⟩;have adJ:cx (aT d 0).1.cg++(cx ((aT d 0).1.l++(aT d 0).1.r)).reverse=cx ((aT d 0).1.cg++((aT d 0).1.l++(aT d 0).1.r).reverse):=by unfold cx;simp[List.map_reverse]
  rw[adJ];have s5:=s4.trans (aW.upd (o:=.lst (cx ((aT d 0).1.cg++((aT d 0).1.l++(aT d 0).1.r).reverse))) uH);have Fg:∀s∈(aT d 0).1.cg++((aT d 0).1.l++(aT d 0).1.r).reverse,s<(aT d 0).2:=λs hs=>by
   refine KW hd ?_;rcases(cN.mp hs)with(z|z)
   ·exact dZ _ z
   ·exact eV _ (List.mem_reverse.mp z)
  have adK:((aT d 0).1.al.map Prod.fst++((aT d 0).1.cg++((aT d 0).1.l++(aT d 0).1.r).reverse)).Nodup:=List.nodup_iff_count.mpr λs=>by
   have:=List.nodup_iff_count.mp xq s
   unfold iP.all at this;simp only[C6,List.count_reverse]at this |-;lia
  refine⟨_,rf,p,lo,lm,_,_,(aT d 0).2,zs,zf p (aT d 0).1,rf,pp,bb,s5 _ _ Um,Uo.mono s5,by unfold zf;rw[bu];lia,zz2,adK,Fg,hS,λdn kvs aY D H5 s6 gdn rC hEn=>?_⟩;have s7:=s5.trans s6;have s8:=s3.trans s7;refine⟨_,rf,pt,_,0,.ref a,rf,rf,s8.bc g2,bX (j:=0) rf,a,_,rf,.inl (.of (s8 _ _ ga)),_,rf,_,rf,pt,_,2,.ref c,rf,rf,s8.bc g2,bX (j:=2) rf,_,rf,by show 4<=sizeLine;lia,λt' ni=>?_⟩;have s9:=aW.upd (o:=.lst [.int ((cx (aT d 0).1.l).length:Int),.ref ol,.ref c,.ref dn]) ni;refine q t' _ (s1.trans (s8.trans s9)) ⟨ol,c,dn,kvs,aY,D,?_,(s7.trans s9) _ _ go,(s8.trans s9) _ _ gc,s9 _ _ gdn,rC.mono s9,hEn⟩;rw[bb,ll,l1]
noncomputable def dJ(L:List Addr)(H:Hp):Hp:=λb=>if b∈L then none else H b
section
variable{L L':List Addr}{H H':Hp}{a b:Addr}{o:HO}
theorem Lv(h:b∈L):dJ L H b=none:=af h
theorem BP(h:b ∉ L):dJ L H b=H b:=ag h
theorem lC(e:dJ L H b=some o):b ∉ L/\H b=some o:=by
 by_cases hb:b∈L
 ·rw[Lv hb]at e;cases e
 ·rw[BP hb]at e;exact⟨hb,e⟩
theorem tR(h:a∈L):dJ L (upd H a o)=dJ L H:=by
 funext b
 by_cases hb:b∈L
 ·rw[Lv hb,Lv hb]
 ·rw[BP hb,BP hb,bR λz=>hb (by rw[z];exact h)]
theorem qf:aW (dJ L H) H:=λ_ _ e=>(lC e).2
theorem ow(h:aW H H'):aW (dJ L H) (dJ L H'):=λb o e=>by
 rw[BP (lC e).1];exact h b o (lC e).2
theorem qg(h:H b=some o)(hb:b ∉ L):dJ L H b=some o:=by rw[BP hb];exact h
end
theorem Lw{B H':Hp}{c:Addr}{o:HO}(h:aW B H')(hc:B c=none):aW B (upd H' c o):=λb x e=>by
 have:b≠c:=λz=>by rw[z,hc]at e;cases e
 rw[bR this];exact h b x e
end S21
namespace L2
open PySem PySem.Spec PyProof.Rows
section
variable{P:Program}{w:World}{fs xU:List Addr}{H H1:Hp}{h h1 h2 B:Heap}
end
section
variable{P:Program}{w:World}{K:Frag}{mg:Str->Option Value}{base:Heap}{N:List Str}{qual:Str}{scope:Scope}{f C:Addr}{cd:Value}{A:Around}{outer:List Env}{s:Shared}{H:Hp}{E:XK}
end
section
variable{P:Program}{w:World}{K:Frag}{mg:Str->Option Value}{base:Heap}
end
section
variable{X:Cx}{x:Str}{np iE pos:Pos}{C:Addr}{bmB:List Value}{B agl agm:String}{e₀:Expr}{eW:List Expr}{t:TA}{E:XK}
end
open PySem.W (Looks)
open PySem.Builtin PySem.Builtin.ObjectAttr PySem.Builtin.Getset_descriptor
section
variable{X:Cx}{C W ea:Addr}{aU:List (Addr×Obj)}{σ:St}{H1 H':Hp}{s1 s':Shared}{B:Heap}{a0:Value}
end
section
variable{X:Cx}{C W f:Addr}{k:Nat}{fd:FuncData}{ps:List Str}{sp:Sp}{x wn n y:Str}{p cp ep wp np yp ap hp pos:Pos}{e:Expr}{es:List Expr}{t:TA}{ix ie:Nat}
end
section
variable{prog:Program}{w:World}{A:Around}{E:QV}{K:Frag}{C a:Addr}
end
section
variable{X:Cx}(K:Frag)(hK:X.K=K)
include hK
theorem adL{T:String}:ib X (.builtin "isinstance") (λxs H Q=>∃x b,xs=[.str x,.ty T]/\kitOne K (.type "str") (.type T)=some b/\Q (.bl b) H):=by
 subst hK;intro aU s σ H vs us Q I r ⟨x,b,e,k,q⟩;exact DV aU s σ H vs us Q I r ⟨_,_,b,e,.str x,k,q⟩
end
end L2
namespace S21
open PySem L2 Bw
variable{A:iP}{L R:List Nat}{d:Drw}{e x:En}{i s:Nat}{ns:List iP}{q:dO}{v:Fn}
theorem adM{X:Cx}(K:Frag)(hK:X.K=K){T:String}:ib X (.builtin "isinstance") (λxs H Q=>∃(x:V)(b:Bool),xs=[x,.ty T]/\((∃i,x=.int i/\kitOne K (.type "int") (.type T)=some b)\/∃s,x=.str s/\kitOne K (.type "str") (.type T)=some b)/\Q (.bl b) H):=by
 rintro aU s σ H vs us Q I r ⟨x,b,e,h|h,q⟩
 ·obtain⟨i,rfl,k⟩:=h;exact Ja K hK aU s σ H vs us Q I r ⟨i,b,e,k,q⟩
 ·obtain⟨y,rfl,k⟩:=h;exact adL K hK aU s σ H vs us Q I r ⟨y,b,e,k,q⟩
def Itm.zw(p:Int):Itm->Prop
 | .num _=>True
 | .bK d=>d.wf p
theorem adN{p:Int}{t:Itm}(h:t.zw p):∀u∈t.kids,u.zw p:=by
 cases t with
 |num n=>intro u hu;cases hu
 |bK d=>
  cases d with
  |box=>intro u hu;cases hu
  |times n=>intro u hu;rw[cA.mp hu];exact True.intro
  |back d=>
   intro u hu;rw[cA.mp hu];exact h
  |cD a b=>
   intro u hu;rcases(cV.mp hu)with z|z
   ·rw[z];exact h.1
   ·rw[cA.mp z];exact h.2
  |bj a b=>
   intro u hu;rcases(cV.mp hu)with z|z
   ·rw[z];exact h.1
   ·rw[cA.mp z];exact h.2.1
theorem Lx{p:Int}:∀(i:Nat){ts:List Itm},(∀t∈ts,t.zw p)->∀t∈dm ts i,t.zw p
 |0,ts,h=>h
 |i+1,[],h=>by intro t ht;rw[Bz]at ht;cases ht
 |i+1,t::ts,h=>Lx i (ts:=t.kids++ts) λu hu=>by
  rcases(cN.mp hu)with z|z
  ·exact adN (h t cQ) u z
  ·exact h u (dU _ z)
structure FP where
 parts:List iP
 aY:List dO
 al:List (Nat×Nat)
 N:Nat
noncomputable def bV:List Itm->FP
 | []=>⟨[],[],[],0⟩
 | .num _::ts=>bV ts
 | .bK d::ts=>⟨(aT d (bV ts).N).1::(bV ts).parts,(bV ts).aY++(aT d (bV ts).N).1.aY,(bV ts).al++(aT d (bV ts).N).1.al,(aT d (bV ts).N).2⟩
section
variable{p:Int}
theorem ox:∀{d:Drw}{N:Nat},d.wf p->(aT d N).1.al.length+(aT d N).1.l.length+(aT d N).1.r.length+(aT d N).1.cg.length+N=(aT d N).2
 | .box x l r aY,N,_=>by
  show 0+(List.range' N l).length+(List.range' (N+l) r).length+0+N=N+l+r;rw[nJ,nJ];lia
 | .times n,N,_=>by
  show 0+(List.range' N 1).length+(List.range' (N+1) 1).length+0+N=N+1+1;rw[nJ,nJ];lia
 | .back d,N,h=>by
  have:=ox (d:=d) (N:=N) h
  show(aT d N).1.al.length+(aT d N).1.r.length+(aT d N).1.l.length+(aT d N).1.cg.length+N=(aT d N).2;lia
 | .cD a b,N,h=>by
  have h1:=ox (d:=b) (N:=N) h.2;have h2:=ox (d:=a) (N:=(aT b N).2) h.1;show((aT b N).1.al++(aT a (aT b N).2).1.al).length+((aT a (aT b N).2).1.l++(aT b N).1.l).length+((aT a (aT b N).2).1.r++(aT b N).1.r).length+((aT a (aT b N).2).1.cg++(aT b N).1.cg).length+N=(aT a (aT b N).2).2;simp only[cm];lia
 | .bj a b,N,h=>by
  have h1:=ox (d:=b) (N:=N) h.2.1;have h2:=ox (d:=a) (N:=(aT b N).2) h.1;obtain⟨b1,b2⟩:=jD (d:=b) (N:=N) h.2.1;obtain⟨a1,a2⟩:=jD (d:=a) (N:=(aT b N).2) h.1;have hm:=h.2.2;show((aT b N).1.al++(aT a (aT b N).2).1.al++(aT b N).1.l.zip (aT a (aT b N).2).1.r).length+(aT a (aT b N).2).1.l.length+(aT b N).1.r.length+((aT a (aT b N).2).1.cg++(aT a (aT b N).2).1.r++(aT b N).1.cg).length+N=(aT a (aT b N).2).2;simp only[cm,zX];lia
theorem Fl:∀{ts:List Itm},(∀t∈ts,t.zw p)->(bV ts).aY.length<=2*(ts.flatMap Itm.aX).length/\(bV ts).N<=4*(ts.flatMap Itm.aX).length/\(bV ts).al.length<=(bV ts).N/\(bV ts).parts.length<=(ts.flatMap Itm.aX).length
 | [],_=>⟨cn 0,cn 0,cn 0,cn 0⟩
 | .num n::ts,h=>by
  obtain⟨a,b,c,e⟩:=Fl (ts:=ts) λt ht=>h t (dU _ ht);have ew:((Itm.num n::ts).flatMap Itm.aX).length=(ts.flatMap Itm.aX).length+1:=by
   rw[zY,cm];show 1+_=_;lia
  rw[ew];exact⟨by show(bV ts).aY.length<=_;lia,by show(bV ts).N<=_;lia,c,by show(bV ts).parts.length<=_;lia⟩
 | .bK d::ts,h=>by
  obtain⟨a,b,c,e⟩:=Fl (ts:=ts) λt ht=>h t (dU _ ht);have hd:d.wf p:=h (.bK d) cQ;obtain⟨f1,f2,_⟩:=rA (d:=d) (N:=(bV ts).N) hd;have f3:=ox (d:=d) (N:=(bV ts).N) hd;have ew:((Itm.bK d::ts).flatMap Itm.aX).length=d.aX.length+(ts.flatMap Itm.aX).length:=by
   rw[zY,cm];rfl
  have dp:=d.pos;rw[ew];refine⟨?_,by show(aT d (bV ts).N).2<=_;lia,?_,by show(bV ts).parts.length+1<=_;lia⟩
  ·show((bV ts).aY++(aT d (bV ts).N).1.aY).length<=_;rw[cm];lia
  ·show((bV ts).al++(aT d (bV ts).N).1.al).length<=(aT d (bV ts).N).2;rw[cm];lia
end
def zx(K:Frag)(H:Hp)(v:V)(A:iP):Prop:=∃t a b c,v=.ref t/\bq K H t [.ref a,.ref b,.ref c]/\H a=some (.lst (cx A.l))/\H b=some (.lst (cx A.r))/\H c=some (.lst (cx A.cg))
def jT(K:Frag)(H:Hp)(PS:List V)(ns:List iP):Prop:=PS.length=ns.length/\∀(i:Nat)(v:V)(A:iP),PS[i]?=some v->ns[i]?=some A->zx K H v A
section
variable{K:Frag}{B H H':Hp}
theorem zx.mono{v:V}(h:zx K H v A)(s:aW H H'):zx K H' v A:=let ⟨t,a,b,c,e,g,g1,g2,g3⟩:=h;⟨t,a,b,c,e,s.bc g,s _ _ g1,s _ _ g2,s _ _ g3⟩
theorem jT.mono{PS:List V}{ns:List iP}(h:jT K H PS ns)(s:aW H H'):jT K H' PS ns:=⟨h.1,λi v A e1 e2=>(h.2 i v A e1 e2).mono s⟩
theorem jT.nil:jT K H [] []:=⟨rfl,λi v A e=>by cases e⟩
theorem jT.snoc{PS:List V}{v:V}(h:jT K H PS ns)(hv:zx K H v A):jT K H (PS++[v]) (ns++[A]):=by
 refine⟨by rw[cm,cm,h.1];rfl,λi u C e1 e2=>?_⟩;by_cases hi:i<PS.length
 ·rw[iK hi]at e1;rw[iK (by rw[<- h.1];exact hi)]at e2;exact h.2 i u C e1 e2
 ·rw[jb (by lia)]at e1;rw[jb (by rw[<- h.1];lia),<- h.1]at e2;generalize i-PS.length=j at e1 e2;cases j with
  |zero=>cases e1;cases e2;exact hv
  |succ j=>cases e1
theorem jT.init{PS:List V}(h:jT K H PS (ns++[A])):∃lE v,PS=lE++[v]/\jT K H lE ns/\zx K H v A:=by
 have ne:PS≠[]:=λe=>by have:=h.1;rw[e]at this;simp at this
 obtain⟨lE,v,rfl⟩:∃lE v,PS=lE++[v]:=⟨PS.dropLast,PS.getLast ne,(List.dropLast_concat_getLast ne).symm⟩;have l:lE.length=ns.length:=by have:=h.1;simpa using this
 refine⟨lE,v,rf,⟨l,λi u C e1 e2=>h.2 i u C ?_ ?_⟩,h.2 lE.length v A (by simp) (by rw[l];simp)⟩
 ·rw[iK (dC.mp e1).1];exact e1
 ·rw[iK (dC.mp e2).1];exact e2
theorem jt.snoc{RS:List V}{qs:List dO}{a:Addr}(h:jt H RS qs)(g:H a=some (.dK (q.map rK))):jt H (RS++[.ref a]) (qs++[q]):=by
 refine⟨by rw[cm,cm,h.1];rfl,λi x q' e1 e2=>?_⟩;by_cases hi:i<RS.length
 ·rw[iK hi]at e1;rw[iK (by rw[<- h.1];exact hi)]at e2;exact h.2 i x q' e1 e2
 ·rw[jb (by lia)]at e1;rw[jb (by rw[<- h.1];lia),<- h.1]at e2;generalize i-RS.length=j at e1 e2;cases j with
  |zero=>cases e1;cases e2;exact⟨a,rf,g⟩
  |succ j=>cases e1
structure dY(K:Frag)(B:Hp)(ap ar al:Addr)(F:FP)(H:Hp):Prop where
 b:B ap=none/\B ar=none/\B al=none
 ne:ap≠ar/\ap≠al/\ar≠al
 sm:aW B H
 p:∃PS,H ap=some (.lst PS)/\jT K (dJ [ap,ar,al] H) PS F.parts.reverse
 r:∃RS,H ar=some (.lst RS)/\jt (dJ [ap,ar,al] H) RS F.aY
 a:H al=some (.dK (iF [] ((F.al.map rn).map rK)))
variable{ap ar al:Addr}{F:FP}
theorem Ly:ap∈[ap,ar,al]:=cQ
theorem Lz:ar∈[ap,ar,al]:=dU _ cQ
theorem LA:al∈[ap,ar,al]:=dU _ (dU _ cQ)
theorem dY.out(h:dY K B ap ar al F H){x:Addr}(hx:H x=none):x ∉ [ap,ar,al]:=λz=>by
 obtain⟨PS,g1,_⟩:=h.p;obtain⟨RS,g2,_⟩:=h.r;rcases(cV.mp z)with(rfl|z)
 ·rw[g1]at hx;cases hx
 rcases(cV.mp z)with(rfl|z)
 ·rw[g2]at hx;cases hx
 ·rw[cA.mp z,h.a]at hx;cases hx
theorem dY.grow(h:dY K B ap ar al F H)(s:aW H H'):dY K B ap ar al F H':=
 ⟨h.b,h.ne,h.sm.trans s,let ⟨PS,g,k⟩:=h.p;⟨PS,s _ _ g,k.mono (ow s)⟩,let ⟨RS,g,k⟩:=h.r;⟨RS,s _ _ g,k.mono (ow s)⟩,s _ _ h.a⟩
theorem dY.Up(h:dY K B ap ar al F H){PS:List V}(hk:jT K (dJ [ap,ar,al] H) PS ns.reverse):dY K B ap ar al ⟨ns,F.aY,F.al,F.N⟩ (upd H ap (.lst PS)):=by
 refine⟨h.b,h.ne,Lw h.sm h.b.1,⟨PS,bb,by rw[tR Ly];exact hk⟩,?_,by rw[bR h.ne.2.1.symm];exact h.a⟩;obtain⟨RS,g,k⟩:=h.r;exact⟨RS,by rw[bR h.ne.1.symm];exact g,by rw[tR Ly];exact k⟩
theorem dY.adO(h:dY K B ap ar al F H){RS:List V}{rs:List dO}(hk:jt (dJ [ap,ar,al] H) RS rs):dY K B ap ar al ⟨F.parts,rs,F.al,F.N⟩ (upd H ar (.lst RS)):=by
 refine⟨h.b,h.ne,Lw h.sm h.b.2.1,?_,⟨RS,bb,by rw[tR Lz];exact hk⟩,by rw[bR h.ne.2.2.symm];exact h.a⟩;obtain⟨PS,g,k⟩:=h.p;exact⟨PS,by rw[bR h.ne.1];exact g,by rw[tR Lz];exact k⟩
theorem dY.adP(h:dY K B ap ar al F H)(t:Nat×Nat):dY K B ap ar al ⟨F.parts,F.aY,F.al++[t],F.N⟩ (upd H al (.dK (eS (iF [] ((F.al.map rn).map rK)) (Sum.inl (t.1:Int)) (.int (t.2:Int))))):=by
 refine⟨h.b,h.ne,Lw h.sm h.b.2.2,?_,?_,?_⟩
 ·obtain⟨PS,g,k⟩:=h.p;exact⟨PS,by rw[bR h.ne.2.1];exact g,by rw[tR LA];exact k⟩
 ·obtain⟨RS,g,k⟩:=h.r;exact⟨RS,by rw[bR h.ne.2.2];exact g,by rw[tR LA];exact k⟩
 ·rw[bb];show _=some (HO.dK (iF [] (((F.al++[t]).map rn).map rK)));rw[du,du];unfold iF;rw[List.foldl_append];rfl
theorem dY.adQ(h:dY K B ap ar al F H)(N:Nat):dY K B ap ar al ⟨F.parts,F.aY,F.al,N⟩ H:=⟨h.b,h.ne,h.sm,h.p,h.r,h.a⟩
end
section
variable{p:Int}
noncomputable def ck:Drw->Nat
 | .box ..=>0
 | .times _=>0
 | .back d=>ck d
 | .cD a b=>ck a+ck b
 | .bj a b=>ck a+a.bf+ck b
theorem qh:∀{d:Drw}{N:Nat},d.wf p->(aT d N).1.cg.length=ck d
 | .box ..,_,_=>rfl
 | .times _,_,_=>rfl
 | .back d,N,h=>qh (d:=d) (N:=N) h
 | .cD a b,N,h=>by
  show((aT a (aT b N).2).1.cg++(aT b N).1.cg).length=ck a+ck b;rw[cm,qh h.1,qh h.2]
 | .bj a b,N,h=>by
  show((aT a (aT b N).2).1.cg++(aT a (aT b N).2).1.r++(aT b N).1.cg).length=ck a+a.bf+ck b;rw[cm,cm,qh h.1,qh h.2.1,(jD h.1).2]
def gw(p:Int):Drw->Fn->Fn->Fn->Prop
 | .box _ l r aY,x,y,_=>Sp p (RS aY) (λj=>if j<l then x j else if j<l+r then y (j-l)else 0)
 | .times n,x,y,_=>p∣y 0-n*x 0
 | .back d,x,y,h=>gw p d y x h
 | .cD a b,x,y,h=>gw p a x y h/\gw p b (sh a.bh x) (sh a.bf y) (sh (ck a) h)
 | .bj a b,x,y,h=>gw p a x (sh (ck a) h) h/\gw p b (sh (ck a) h) y (sh (ck a+a.bf) h)
theorem gw.eQ:∀{d:Drw}{x x' y y' h h':Fn},d.wf p->Cg p d.bh x x'->Cg p d.bf y y'->Cg p (ck d) h h'->gw p d x y h->gw p d x' y' h'
 | .box n l r aY,x,x',y,y',h,h',hd,hx,hy,_,q=>by
  unfold gw at q |-;refine .eQ q λj=>?_;by_cases h1:j<l
  ·rw[af h1,af h1];exact hx j h1
  ·rw[ag h1,ag h1];by_cases h2:j<l+r
   ·rw[af h2,af h2];exact hy (j-l) (by show j-l<r;lia)
   ·rw[ag h2,ag h2];exact pZ rf
 | .times n,x,x',y,y',h,h',hd,hx,hy,_,q=>by
  have hx:=hx 0 (by show 0<1;decide);have hy:=hy 0 (by show 0<1;decide);have q:p∣y 0-n*x 0:=q;show p∣y' 0-n*x' 0;exact tK (jM q hy rf) (oG (b:=n) hx) (by rw[Int.mul_sub];lia)
 | .back d,x,x',y,y',h,h',hd,hx,hy,hh,q=>gw.eQ (d:=d) hd hy hx hh q
 | .cD a b,x,x',y,y',h,h',hd,hx,hy,hh,q=>⟨gw.eQ (d:=a) hd.1 (hx.le (rZ ..)) (hy.le (rZ ..)) (hh.le (rZ ..)) q.1,gw.eQ (d:=b) hd.2 (Cg.sh hx) (Cg.sh hy) (Cg.sh hh) q.2⟩
 | .bj a b,x,x',y,y',h,h',hd,hx,hy,hh,q=>by
  have hh:Cg p (ck a+a.bf+ck b) h h':=hh;have hm:Cg p a.bf (sh (ck a) h) (sh (ck a) h'):=Cg.sh (hh.le (rZ ..));exact⟨gw.eQ (d:=a) hd.1 hx hm (hh.le (by lia)) q.1,gw.eQ (d:=b) hd.2.1 (by rw[<- hd.2.2];exact hm) hy (Cg.sh hh) q.2⟩
theorem zy:Sat p v [q]↔p∣rv v q:=⟨λh=>h q cQ,λh r hr=>by rw[cA.mp hr];exact h⟩
theorem Uq{r:dO}:Sat p v [q,r]↔p∣rv v q/\p∣rv v r:=⟨λh=>⟨h q cQ,h r (dU _ cQ)⟩,λh s hs=>by
 rcases(cV.mp hs)with(rfl|hs)
 ·exact h.1
 ·rw[cA.mp hs];exact h.2⟩
theorem LB{A B:List dO}:Sat p v (A++B)↔Sat p v A/\Sat p v B:=⟨λh=>⟨λq hq=>h q (eV _ hq),λq hq=>h q (dZ _ hq)⟩,λh q hq=>(cN.mp hq).elim (h.1 q) (h.2 q)⟩
theorem vp{a b:Int}(e:b=-a):p∣a↔p∣b:=⟨λh=>SS h e,λh=>SS h (by lia)⟩
theorem zA:∀{d:Drw}{N:Nat}{v:Fn},d.wf p->(∀t∈(aT d N).1.al,p∣v t.1-v t.2)->(Sat p v (aT d N).1.aY↔gw p d (atS v (aT d N).1.l) (atS v (aT d N).1.r) (atS v (aT d N).1.cg))
 | .box x l r aY,N,v,hd,_=>by
  show Sat p v ((dR x 0).map (iz N))↔Sp p (RS aY) (λj=>if j<l then atS v (List.range' N l) j else if j<l+r then atS v (List.range' (N+l) r) (j-l)else 0)
  refine SM (C:=λx l r aY=>Sat p v ((dR x 0).map (iz N))↔Sp p (RS aY) (λj=>if j<l then atS v (List.range' N l) j else if j<l+r then atS v (List.range' (N+l) r) (j-l)else 0)) hd ?_ ?_ ?_ ?_ ?_ ?_ ?_ ?_
  ·rw[SN,SJ,gN,rY,zy,w6,r2];refine Iff.trans (vp (b:=v (N+1)-v N) (by lia)) ⟨λh=>⟨h,wX λj hj=>by rw[ag (by lia),ag (by lia)]⟩,λh=>h.1⟩
  ·rw[KI,acU,gN,gN,rY,Uq,w6,r2,w6,r2];refine Iff.trans (and_congr (vp (b:=v (N+2+1)-v N) (by rw[show N+2+1=N+3 by lia];lia)) (vp (b:=v (N+2)-v (N+1)) (by lia))) ⟨λh=>⟨h.1,h.2,wX λj hj=>by rw[ag (by lia),ag (by lia)]⟩,λh=>⟨h.1,h.2.1⟩⟩
  ·rw[KJ,acS,gN,gN,rY,Uq,w6,r2,w6,r2];refine Iff.trans (and_congr (vp (b:=v (N+1)-v N) (by lia)) (vp (b:=v (N+1+1)-v N) (by rw[show N+1+1=N+2 by lia];lia))) ⟨λh=>⟨h.1,h.2,wX λj hj=>by rw[ag (by lia),ag (by lia)]⟩,λh=>⟨h.1,h.2.1⟩⟩
  ·rw[SQ,acR];exact⟨λ_=>wX λj hj=>by rw[ag (by lia),ag (by lia)],λ_ q hq=>by cases hq⟩
  ·rw[KL,acT,gN,rY,zy,DN,r3];refine Iff.trans (vp (b:=v (N+2)-(v N+v (N+1))) (by lia)) ⟨λh=>⟨h,wX λj hj=>by rw[ag (by lia),ag (by lia)]⟩,λh=>h.1⟩
  ·rw[KN,l5,gN,rY,zy,up1,r1];constructor
   ·intro h j;by_cases hj:j<1
    ·obtain rfl:j=0:=by lia
     have e:1*v (N+0)=v N:=by rw[Nat.add_zero];lia
     rw[e]at h;exact h
    ·rw[ag (by lia),ag (by lia)];exact⟨0,by lia⟩
   ·intro h;have h:p∣v N:=h 0;rwa[show 1*v (N+0)=v N by rw[Nat.add_zero];lia]
  ·rw[SO,SJ,gN,rY,zy,w6,r2];refine Iff.trans (vp (b:=v (N+1)-v N) (by lia)) ⟨λh=>⟨h,wX λj hj=>by rw[ag (by lia),ag (by lia)]⟩,λh=>h.1⟩
  ·rw[SR,l5];exact⟨λ_ j=>by rw[ag (by lia),ag (by lia)];exact⟨0,by lia⟩,λ_ q hq=>by cases hq⟩
 | .times n,N,v,_,_=>by
  show Sat p v ((dR "times" n).map (iz N))↔p∣v (N+1)-n*v N;rw[KO,gN,rY,zy,w6,r2];exact vp (by lia)
 | .back d,N,v,hd,ha=>zA (d:=d) (N:=N) hd ha
 | .cD c b,N,v,hd,ha=>by
  obtain⟨a1,a2⟩:=jD (d:=c) (N:=(aT b N).2) hd.1;have a3:=qh (d:=c) (N:=(aT b N).2) hd.1;have hb:=zA (d:=b) (N:=N) (v:=v) hd.2 λt ht=>ha t (eV _ ht);have hc:=zA (d:=c) (N:=(aT b N).2) (v:=v) hd.1 λt ht=>ha t (dZ _ ht);show Sat p v ((aT b N).1.aY++(aT c (aT b N).2).1.aY)↔gw p c (atS v ((aT c (aT b N).2).1.l++(aT b N).1.l)) (atS v ((aT c (aT b N).2).1.r++(aT b N).1.r)) (atS v ((aT c (aT b N).2).1.cg++(aT b N).1.cg))/\gw p b (sh c.bh (atS v ((aT c (aT b N).2).1.l++(aT b N).1.l))) (sh c.bf (atS v ((aT c (aT b N).2).1.r++(aT b N).1.r))) (sh (ck c) (atS v ((aT c (aT b N).2).1.cg++(aT b N).1.cg)));rw[LB,hb,hc,vc a1,vc a2,vc a3];have k1:Cg p c.bh (atS v ((aT c (aT b N).2).1.l++(aT b N).1.l)) (atS v (aT c (aT b N).2).1.l):=λj hj=>pZ (wY (by rw[a1];exact hj));have k2:Cg p c.bf (atS v ((aT c (aT b N).2).1.r++(aT b N).1.r)) (atS v (aT c (aT b N).2).1.r):=λj hj=>pZ (wY (by rw[a2];exact hj));have k3:Cg p (ck c) (atS v ((aT c (aT b N).2).1.cg++(aT b N).1.cg)) (atS v (aT c (aT b N).2).1.cg):=λj hj=>pZ (wY (by rw[a3];exact hj));exact⟨λh=>⟨gw.eQ hd.1 k1.symm k2.symm k3.symm h.2,h.1⟩,λh=>⟨h.2,gw.eQ hd.1 k1 k2 k3 h.1⟩⟩
 | .bj c b,N,v,hd,ha=>by
  obtain⟨a1,a2⟩:=jD (d:=c) (N:=(aT b N).2) hd.1;obtain⟨b1,b2⟩:=jD (d:=b) (N:=N) hd.2.1;have a3:=qh (d:=c) (N:=(aT b N).2) hd.1;have hb:=zA (d:=b) (N:=N) (v:=v) hd.2.1 λt ht=>ha t (eV _ (eV _ ht));have hc:=zA (d:=c) (N:=(aT b N).2) (v:=v) hd.1 λt ht=>ha t (eV _ (dZ _ ht));have hm:=hd.2.2;have hz:Cg p b.bh (atS v (aT b N).1.l) (atS v (aT c (aT b N).2).1.r):=λj hj=>by
   have i1:j<(aT b N).1.l.length:=by rw[b1];exact hj
   have i2:j<(aT c (aT b N).2).1.r.length:=by rw[a2,hm];exact hj
   have e1:(aT b N).1.l[j]?=some ((aT b N).1.l[j]'i1):=cP i1;have e2:(aT c (aT b N).2).1.r[j]?=some ((aT c (aT b N).2).1.r[j]'i2):=cP i2;rw[KH e1,KH e2];exact ha ((aT b N).1.l[j]'i1,(aT c (aT b N).2).1.r[j]'i2) (dZ _ (dP (i:=j) (Hu.mpr ⟨e1,e2⟩)))
  have s1:sh (ck c) (atS v ((aT c (aT b N).2).1.cg++(aT c (aT b N).2).1.r++(aT b N).1.cg))=atS v ((aT c (aT b N).2).1.r++(aT b N).1.cg):=by rw[i4];exact vc a3
  have s2:sh (ck c+c.bf) (atS v ((aT c (aT b N).2).1.cg++(aT c (aT b N).2).1.r++(aT b N).1.cg))=atS v (aT b N).1.cg:=vc (by rw[cm,a3,a2]);show Sat p v ((aT b N).1.aY++(aT c (aT b N).2).1.aY)↔gw p c (atS v (aT c (aT b N).2).1.l) (sh (ck c) (atS v ((aT c (aT b N).2).1.cg++(aT c (aT b N).2).1.r++(aT b N).1.cg))) (atS v ((aT c (aT b N).2).1.cg++(aT c (aT b N).2).1.r++(aT b N).1.cg))/\gw p b (sh (ck c) (atS v ((aT c (aT b N).2).1.cg++(aT c (aT b N).2).1.r++(aT b N).1.cg))) (atS v (aT b N).1.r) (sh (ck c+c.bf) (atS v ((aT c (aT b N).2).1.cg++(aT c (aT b N).2).1.r++(aT b N).1.cg)));rw[LB,hb,hc,s1,s2];have k2:Cg p c.bf (atS v ((aT c (aT b N).2).1.r++(aT b N).1.cg)) (atS v (aT c (aT b N).2).1.r):=λj hj=>pZ (wY (by rw[a2];exact hj));have k3:Cg p (ck c) (atS v ((aT c (aT b N).2).1.cg++(aT c (aT b N).2).1.r++(aT b N).1.cg)) (atS v (aT c (aT b N).2).1.cg):=λj hj=>pZ (by rw[i4];exact wY (by rw[a3];exact hj));have k1:Cg p b.bh (atS v (aT b N).1.l) (atS v ((aT c (aT b N).2).1.r++(aT b N).1.cg)):=λj hj=>by
   have h1:=hz j hj;have h2:=k2 j (by lia);exact jM h1 h2 (by lia)
  exact⟨λh=>⟨gw.eQ hd.1 (.refl _ _) k2.symm k3.symm h.2,gw.eQ hd.2.1 k1 (.refl _ _) (.refl _ _) h.1⟩,λh=>⟨gw.eQ hd.2.1 k1.symm (.refl _ _) (.refl _ _) h.2,gw.eQ hd.1 (.refl _ _) k2 k3 h.1⟩⟩
end
section
variable{p:Int}{v:Fn}
def BX(p:Int)(v:Fn):Drw->List Nat->List Nat->Nat->Prop
 | .box _ l r aY,L,R,_=>Sp p (RS aY) (λj=>if j<l then atS v L j else if j<l+r then atS v R (j-l)else 0)
 | .times n,L,R,_=>p∣atS v R 0-n*atS v L 0
 | .back d,L,R,s=>BX p v d R L s
 | .cD a b,L,R,s=>BX p v a (L.take a.bh) (R.take a.bf) s/\BX p v b (L.drop a.bh) (R.drop a.bf) (s+ck a)
 | .bj a b,L,R,s=>BX p v a L (List.range' (s+ck a) a.bf) s/\BX p v b (List.range' (s+ck a) a.bf) R (s+ck a+a.bf)
theorem Ur{n:Nat}(h:n<=L.length):Cg p n (atS v (L.take n)) (atS v L):=λj hj=>pZ (by
 conv=>rhs;rw[<- List.take_append_drop n L]
 exact(wY (by rw[gy];lia)).symm)
theorem Us{n:Nat}(h:n<=L.length):atS v (L.drop n)=sh n (atS v L):=by
 conv=>rhs;rw[<- List.take_append_drop n L]
 exact(vc (by rw[gy];lia)).symm
theorem LC(a b:Nat)(f:Fn):sh a (sh b f)=sh (b+a) f:=funext λj=>by show f (b+(a+j))=f (b+a+j);rw[Nat.add_assoc]
theorem LD(s n:Nat):Cg p n (atS v (List.range' s n)) (sh s v):=λ_ hj=>pZ (ac0 hj)
theorem zB:∀{d:Drw}{L R:List Nat}{s:Nat},d.wf p->L.length=d.bh->R.length=d.bf->(BX p v d L R s↔gw p d (atS v L) (atS v R) (sh s v))
 | .box ..,_,_,_,_,_,_=>Iff.rfl
 | .times _,_,_,_,_,_,_=>Iff.rfl
 | .back d,L,R,s,hd,hl,hr=>zB (d:=d) hd hr hl
 | .cD a b,L,R,s,hd,hl,hr=>by
  have hl:L.length=a.bh+b.bh:=hl;have hr:R.length=a.bf+b.bf:=hr;show BX p v a (L.take a.bh) (R.take a.bf) s/\BX p v b (L.drop a.bh) (R.drop a.bf) (s+ck a)↔gw p a (atS v L) (atS v R) (sh s v)/\gw p b (sh a.bh (atS v L)) (sh a.bf (atS v R)) (sh (ck a) (sh s v));rw[zB (d:=a) (s:=s) hd.1 (by rw[gy];lia) (by rw[gy];lia),zB (d:=b) hd.2 (by rw[jW];lia) (by rw[jW];lia),LC,Us (by lia),Us (by lia)];have k1:Cg p a.bh (atS v (L.take a.bh)) (atS v L):=Ur (by lia);have k2:Cg p a.bf (atS v (R.take a.bf)) (atS v R):=Ur (by lia);exact⟨λh=>⟨.eQ hd.1 k1 k2 (.refl _ _) h.1,h.2⟩,λh=>⟨.eQ hd.1 k1.symm k2.symm (.refl _ _) h.1,h.2⟩⟩
 | .bj a b,L,R,s,hd,hl,hr=>by
  have hl:L.length=a.bh:=hl;have hr:R.length=b.bf:=hr;have hm:=hd.2.2;have z:(List.range' (s+ck a) a.bf).length=a.bf:=nJ;show BX p v a L (List.range' (s+ck a) a.bf) s/\BX p v b (List.range' (s+ck a) a.bf) R (s+ck a+a.bf)↔gw p a (atS v L) (sh (ck a) (sh s v)) (sh s v)/\gw p b (sh (ck a) (sh s v)) (atS v R) (sh (ck a+a.bf) (sh s v));rw[zB (d:=a) (s:=s) hd.1 hl z,zB (d:=b) hd.2.1 (z.trans hm) hr,LC,LC,<- Nat.add_assoc];have k:Cg p a.bf (atS v (List.range' (s+ck a) a.bf)) (sh (s+ck a) v):=LD _ _;have k':Cg p b.bh (atS v (List.range' (s+ck a) a.bf)) (sh (s+ck a) v):=by rw[<- hm];exact k
  exact⟨λh=>⟨.eQ hd.1 (.refl _ _) k (.refl _ _) h.1,.eQ hd.2.1 k' (.refl _ _) (.refl _ _) h.2⟩,λh=>⟨.eQ hd.1 (.refl _ _) k.symm (.refl _ _) h.1,.eQ hd.2.1 k'.symm (.refl _ _) (.refl _ _) h.2⟩⟩
end
structure En where
 pl:Nat
 d:Drw
 L:List Nat
 R:List Nat
 s:Nat
noncomputable def En.kids(e:En):List En:=match e.d with
 | .box ..=>[]
 | .times _=>[]
 | .back a=>[⟨e.pl+1,a,e.R,e.L,e.s⟩]
 | .cD a b=>[⟨e.pl+1,a,e.L.take a.bh,e.R.take a.bf,e.s⟩,⟨e.pl+1+a.aX.length,b,e.L.drop a.bh,e.R.drop a.bf,e.s+ck a⟩]
 | .bj a b=>[⟨e.pl+1,a,e.L,List.range' (e.s+ck a) a.bf,e.s⟩,⟨e.pl+1+a.aX.length,b,List.range' (e.s+ck a) a.bf,e.R,e.s+ck a+a.bf⟩]
noncomputable def LY:Drw->List Nat->List Nat->Nat->Nat->List En
 | .box x l r aY,L,R,s,i=>[⟨i,.box x l r aY,L,R,s⟩]
 | .times n,L,R,s,i=>[⟨i,.times n,L,R,s⟩]
 | .back a,L,R,s,i=>⟨i,.back a,L,R,s⟩::LY a R L s (i+1)
 | .cD a b,L,R,s,i=>⟨i,.cD a b,L,R,s⟩::(LY a (L.take a.bh) (R.take a.bf) s (i+1)++LY b (L.drop a.bh) (R.drop a.bf) (s+ck a) (i+1+a.aX.length))
 | .bj a b,L,R,s,i=>⟨i,.bj a b,L,R,s⟩::(LY a L (List.range' (s+ck a) a.bf) s (i+1)++LY b (List.range' (s+ck a) a.bf) R (s+ck a+a.bf) (i+1+a.aX.length))
theorem Ut(d:Drw)(L R:List Nat)(s i:Nat):∃r,LY d L R s i=⟨i,d,L,R,s⟩::r:=by cases d<;>exact⟨_,rfl⟩
theorem xr(d:Drw)(L R:List Nat)(s i:Nat):(⟨i,d,L,R,s⟩:En)∈LY d L R s i:=by
 obtain⟨r,e⟩:=Ut d L R s i;rw[e];exact cQ
noncomputable def Cj(d:Drw)(L R:List Nat)(s i j:Nat):List En:=⟨i,d,L,R,s⟩::((LY d L R s i).take j).flatMap En.kids
theorem LF{A B:List En}{r:En}(hk:x∈r.kids)(h:e∈x::A.flatMap En.kids)(hAB:∀y∈A,y∈B):e∈(r::B).flatMap En.kids:=by
 rw[zY];rcases(cV.mp h)with(z|z)
 ·exact eV _ (z▸hk)
 ·refine dZ _ ?_;obtain⟨y,hy,h2⟩:=List.mem_flatMap.mp z;exact List.mem_flatMap.mpr ⟨y,hAB y hy,h2⟩
theorem Uu{j:Nat}{A B:List En}{r y:En}(hx:x∈r.kids)(hy:y∈r.kids)(hA:∀k e,A[k]?=some e->e∈x::(A.take k).flatMap En.kids)(hB:∀k e,B[k]?=some e->e∈y::(B.take k).flatMap En.kids)(h:(A++B)[j]?=some e):e∈(r::(A++B).take j).flatMap En.kids:=by
 rw[List.take_append];rw[List.getElem?_append]at h;split at h
 ·exact LF hx (hA j e h) λz hz=>eV _ hz
 ·exact LF hy (hB _ e h) λz hz=>dZ _ hz
theorem vq:∀(d:Drw)(L R:List Nat)(s i j:Nat)(e:En),(LY d L R s i)[j]?=some e->e∈Cj d L R s i j
 |d,L,R,s,i,0,e,h=>by
  obtain⟨r,e1⟩:=Ut d L R s i;rw[e1]at h;cases h;exact cQ
 | .box ..,L,R,s,i,j+1,e,h=>by cases h
 | .times _,L,R,s,i,j+1,e,h=>by cases h
 | .back a,L,R,s,i,j+1,e,h=>dU _ (LF (r:=⟨i,.back a,L,R,s⟩) (x:=⟨i+1,a,R,L,s⟩) cQ (vq a R L s (i+1) j e h) λy hy=>hy)
 | .cD a b,L,R,s,i,j+1,e,h=>dU _ (Uu (r:=⟨i,.cD a b,L,R,s⟩) cQ (dU _ cQ) (λk e h=>vq a _ _ _ _ k e h) (λk e h=>vq b _ _ _ _ k e h) h)
 | .bj a b,L,R,s,i,j+1,e,h=>dU _ (Uu (r:=⟨i,.bj a b,L,R,s⟩) cQ (dU _ cQ) (λk e h=>vq a _ _ _ _ k e h) (λk e h=>vq b _ _ _ _ k e h) h)
theorem xt:∀(d:Drw)(L R:List Nat)(s i:Nat)(e x:En),e∈LY d L R s i->x∈e.kids->x∈LY d L R s i
 | .box ..,L,R,s,i,e,x,h,hx=>by rw[cA.mp h]at hx;cases hx
 | .times _,L,R,s,i,e,x,h,hx=>by rw[cA.mp h]at hx;cases hx
 | .back a,L,R,s,i,e,x,h,hx=>by
  refine dU _ ?_;rcases(cV.mp h)with(z|z)
  ·rw[z]at hx;rw[cA.mp hx];exact xr ..
  ·exact xt a _ _ _ _ e x z hx
 | .cD a b,L,R,s,i,e,x,h,hx=>by
  refine dU _ ?_;rcases(cV.mp h)with(z|z)
  ·rw[z]at hx;rcases(cV.mp hx)with(z|z)
   ·rw[z];exact eV _ (xr ..)
   ·rw[cA.mp z];exact dZ _ (xr ..)
  ·rcases(cN.mp z)with(z|z)
   ·exact eV _ (xt a _ _ _ _ e x z hx)
   ·exact dZ _ (xt b _ _ _ _ e x z hx)
 | .bj a b,L,R,s,i,e,x,h,hx=>by
  refine dU _ ?_;rcases(cV.mp h)with(z|z)
  ·rw[z]at hx;rcases(cV.mp hx)with(z|z)
   ·rw[z];exact eV _ (xr ..)
   ·rw[cA.mp z];exact dZ _ (xr ..)
  ·rcases(cN.mp z)with(z|z)
   ·exact eV _ (xt a _ _ _ _ e x z hx)
   ·exact dZ _ (xt b _ _ _ _ e x z hx)
theorem Uv{j:Nat}(h:e∈Cj d L R s i j):e∈LY d L R s i:=by
 rcases(cV.mp h)with(z|z)
 ·rw[z];exact xr ..
 ·obtain⟨y,hy,h2⟩:=List.mem_flatMap.mp z;exact xt _ _ _ _ _ y e (pB hy) h2
noncomputable def ir:Nat->List V->List Nat
 |_,[]=>[]
 |i,v::ws=>if u7 (some v)then i::ir (i+1) ws else ir (i+1) ws
theorem LG:∀(i:Nat)(a b:List V),ir i (a++b)=ir i a++ir (i+a.length) b
 |i,[],b=>rfl
 |i,v::a,b=>by
  show(if u7 (some v)then i::ir (i+1) (a++b)else ir (i+1) (a++b))=(if u7 (some v)then i::ir (i+1) a else ir (i+1) a)++ir (i+(a.length+1)) b
  rw[LG (i+1) a b,show i+1+a.length=i+(a.length+1) by lia];split<;>rfl
theorem LH:∀(i:Nat)(ws:List V),∀x∈ir i ws,i<=x
 |i,[],x,h=>by cases h
 |i,v::ws,x,h=>by
  unfold ir at h;split at h
  ·rcases(cV.mp h)with(z|z)
   ·lia
   ·have:=LH (i+1) ws x z;lia
  ·have:=LH (i+1) ws x h;lia
theorem LI:∀(i:Nat)(ws:List V),∀x∈ir i ws,x<i+ws.length
 |i,[],x,h=>by cases h
 |i,v::ws,x,h=>by
  unfold ir at h;rw[dW];split at h
  ·rcases(cV.mp h)with(z|z)
   ·lia
   ·have:=LI (i+1) ws x z;lia
  ·have:=LI (i+1) ws x h;lia
theorem Fm:∀(i:Nat)(ws:List V),(ir i ws).Pairwise (· < ·)
 |i,[]=>.nil
 |i,v::ws=>by
  unfold ir;split
  ·exact .cons (λx hx=>by have:=LH (i+1) ws x hx;lia) (Fm (i+1) ws)
  ·exact Fm (i+1) ws
theorem Uw(ws:List V):∀j,j<=ws.length->jQ ws j=(ir (ws.length-j) (ws.drop (ws.length-j))).reverse
 |0,_=>by rw[Nat.sub_zero,List.drop_length];rfl
 |j+1,hj=>by
  have hl:ws.length-(j+1)<ws.length:=by lia
  rw[C2 hl,Kj,cP hl,Uw ws j (by lia),show ws.length-(j+1)+1=ws.length-j by lia];show _=(if u7 (some ws[ws.length-(j+1)])then(ws.length-(j+1))::ir (ws.length-(j+1)+1) (ws.drop (ws.length-j))else ir (ws.length-(j+1)+1) (ws.drop (ws.length-j))).reverse
  rw[show ws.length-(j+1)+1=ws.length-j by lia];split
  ·rw[C3]
  ·rfl
theorem Ux(ws:List V):jQ ws ws.length=(ir 0 ws).reverse:=by
 have:=Uw ws ws.length (cn _)
 rwa[Nat.sub_self,List.drop_zero]at this
theorem rE:∀(d:Drw)(L R:List Nat)(s i:Nat),(LY d L R s i).map En.pl=ir i d.aX
 | .box ..,L,R,s,i=>rfl
 | .times _,L,R,s,i=>rfl
 | .back a,L,R,s,i=>by
  show i::(LY a R L s (i+1)).map En.pl=i::ir (i+1) a.aX;rw[rE a]
 | .cD a b,L,R,s,i=>by
  show i::(LY a _ _ s (i+1)++LY b _ _ _ _).map En.pl=i::ir (i+1) (a.aX++b.aX);rw[du,rE a,rE b,LG]
 | .bj a b,L,R,s,i=>by
  show i::(LY a _ _ s (i+1)++LY b _ _ _ _).map En.pl=i::ir (i+1) (a.aX++b.aX);rw[du,rE a,rE b,LG]
theorem Uy:∀{l:List En},(l.map En.pl).Pairwise (· < ·)->∀e∈l,∀x∈l,e.pl=x.pl->e=x
 | [],_,e,he,_,_,_=>by cases he
 |y::l,hp,e,he,x,hx,h=>by
  have hp:(y.pl::l.map En.pl).Pairwise (· < ·):=hp;have h1:=List.pairwise_cons.mp hp;rcases cV.mp he with z|z<;>rcases cV.mp hx with z' | z'
  ·rw[z,z']
  ·have:=h1.1 x.pl (oI z');rw[z]at h;lia
  ·have:=h1.1 e.pl (oI z);rw[z']at h;lia
  ·exact Uy h1.2 e z x z' h
theorem LJ(he:e∈LY d L R s i)(hx:x∈LY d L R s i)(h:e.pl=x.pl):e=x:=Uy (by rw[rE];exact Fm _ _) e he x hx h
theorem adR{ws:List V}{lF:List Int}(hp:lF.Perm ((jQ ws ws.length).map λn:Nat=>(n:Int)))(hs:lF.Pairwise (·<=·)):lF=(ir 0 ws).map λn:Nat=>(n:Int):=by
 refine List.Perm.eq_of_pairwise (le:=(·<=·)) (λa b _ _ h1 h2=>Int.le_antisymm h1 h2) hs ?_ (hp.trans ?_)
 ·rw[List.pairwise_map];exact(Fm 0 ws).imp λh=>by lia
 ·rw[Ux];exact(List.reverse_perm _).map _
theorem LK(T:List Itm)(i:Nat):∀k,dm T (i+k)=dm (dm T i) k
 |0=>rfl
 |k+1=>by rw[<- Nat.add_assoc,va,LK T i k,<- va]
theorem LM:∀(n:Nat)(ts r:List Itm),(ts.flatMap Itm.aX).length=n->dm (ts++r) n=r
 |0,ts,r,h=>by
  have:=ES ts
  rw[h]at this;rw[List.eq_nil_of_length_eq_zero (Nat.le_zero.mp this)];rfl
 |n+1,[],r,h=>by cases h
 |n+1,t::ts,r,h=>by
  rw[zY,Itm.zc,uv,dW]at h;show dm (t.kids++(ts++r)) n=r;rw[<- i4];refine LM n (t.kids++ts) r ?_;rw[List.flatMap_append];exact Nat.succ.inj h
theorem zC:∀(d:Drw){T r:List Itm}{L R:List Nat}{s i:Nat}{e:En},dm T i=.bK d::r->e∈LY d L R s i->∃r',dm T e.pl=.bK e.d::r'
 | .box ..,T,r,L,R,s,i,e,h,he=>by rw[cA.mp he];exact⟨r,h⟩
 | .times _,T,r,L,R,s,i,e,h,he=>by rw[cA.mp he];exact⟨r,h⟩
 | .back a,T,r,L,R,s,i,e,h,he=>by
  rcases(cV.mp he)with(z|z)
  ·rw[z];exact⟨r,h⟩
  ·exact zC a (by rw[va,h];rfl) z
 | .cD a b,T,r,L,R,s,i,e,h,he=>by
  rcases(cV.mp he)with(z|z)
  ·rw[z];exact⟨r,h⟩
  ·have h1:dm T (i+1)=.bK a::.bK b::r:=by rw[va,h];rfl
   rcases(cN.mp z)with(z|z)
   ·exact zC a h1 z
   ·refine zC b (r:=r) ?_ z;rw[LK,h1];exact LM a.aX.length [.bK a] (.bK b::r) (by simp[Itm.aX])
 | .bj a b,T,r,L,R,s,i,e,h,he=>by
  rcases(cV.mp he)with(z|z)
  ·rw[z];exact⟨r,h⟩
  ·have h1:dm T (i+1)=.bK a::.bK b::r:=by rw[va,h];rfl
   rcases(cN.mp z)with(z|z)
   ·exact zC a h1 z
   ·refine zC b (r:=r) ?_ z;rw[LK,h1];exact LM a.aX.length [.bK a] (.bK b::r) (by simp[Itm.aX])
theorem LN(d:Drw):∃x,(Itm.bK d).head=.str x:=by cases d<;>exact⟨_,rfl⟩
theorem BQ(he:e∈LY d L R s 0):(∃r',dm [.bK d] e.pl=.bK e.d::r')/\d.aX[e.pl]?=some (Itm.bK e.d).head:=by
 obtain⟨r',pT⟩:=zC d (T:=[.bK d]) (r:=[]) rfl he;have ew:([Itm.bK d]).flatMap Itm.aX=d.aX:=by simp[Itm.aX]
 have cE:e.pl<d.aX.length:=by
  have hm:e.pl∈(LY d L R s 0).map En.pl:=oI he;rw[rE]at hm
  have:=LI 0 _ _ hm
  lia
 obtain⟨t,r2,e1,e2,e3⟩:=vb (ts:=[.bK d]) (i:=e.pl) (by rw[ew];exact cE);rw[ew]at e2;rw[pT]at e1;injection e1 with e1 _;exact⟨⟨r',pT⟩,by rw[e2,<- e1]⟩
structure tS(p:Int)(M:Nat)(e:En):Prop where
 wf:e.d.wf p
 sm:e.d.sm
 l:e.L.length=e.d.bh
 r:e.R.length=e.d.bf
 z:e.s+ck e.d<=M
 L:∀n∈e.L,n<M
 R:∀n∈e.R,n<M
theorem tS.kids{p:Int}{M:Nat}{e:En}(h:tS p M e):∀x∈e.kids,tS p M x:=by
 obtain⟨pl,d,L,R,s⟩:=e;obtain⟨h1,h2,h3,h4,h5,h6,h7⟩:=h;intro x hx;cases d with
 |box=>cases hx
 |times=>cases hx
 |back a=>
  rw[cA.mp hx];exact⟨h1,h2,h4,h3,h5,h7,h6⟩
 |cD a b=>
  have h3:L.length=a.bh+b.bh:=h3;have h4:R.length=a.bf+b.bf:=h4;have h5:s+(ck a+ck b)<=M:=h5;rcases(cV.mp hx)with(z|z)
  ·rw[z];exact⟨h1.1,h2.1,by show(L.take a.bh).length=_;rw[gy];lia,by show(R.take a.bf).length=_;rw[gy];lia,by show s+ck a<=M;lia,λn hn=>h6 n (pB hn),λn hn=>h7 n (pB hn)⟩
  ·rw[cA.mp z];exact⟨h1.2,h2.2.1,by show(L.drop a.bh).length=_;rw[jW];lia,by show(R.drop a.bf).length=_;rw[jW];lia,by show s+ck a+ck b<=M;lia,λn hn=>h6 n (pC hn),λn hn=>h7 n (pC hn)⟩
 |bj a b=>
  have h5:s+(ck a+a.bf+ck b)<=M:=h5;have hr:∀n∈List.range' (s+ck a) a.bf,n<M:=λn hn=>by
   have:=(zZ.mp hn).2
   lia
  rcases(cV.mp hx)with(z|z)
  ·rw[z];exact⟨h1.1,h2.1,h3,nJ,by show s+ck a<=M;lia,h6,hr⟩
  ·rw[cA.mp z];exact⟨h1.2.1,h2.2,by show(List.range' (s+ck a) a.bf).length=_;rw[nJ];exact h1.2.2,h4,by show s+ck a+a.bf+ck b<=M;lia,hr,h7⟩
theorem LO{p:Int}{M:Nat}(h:tS p M ⟨i,d,L,R,s⟩)(he:e∈LY d L R s i):tS p M e:=by
 obtain⟨j,hj⟩:=nK.mp he;clear he;induction j using Nat.strongRecOn generalizing e with
 |ind j ih=>
  rcases cV.mp (vq _ _ _ _ _ j e hj)with z|z
  ·rw[z];exact h
  ·obtain⟨y,hy,h2⟩:=List.mem_flatMap.mp z;obtain⟨k,hk⟩:=nK.mp hy;rw[List.getElem?_take]at hk;split at hk
   ·exact(ih k (by assumption) hk).kids e h2
   ·cases hk
def Fo(p:Int)(v:Fn)(e:En):Prop:=match e.d with
 | .box ..=>BX p v e.d e.L e.R e.s
 | .times _=>BX p v e.d e.L e.R e.s
 |_=>True
theorem xu{p:Int}{v:Fn}:∀(d:Drw)(L R:List Nat)(s i:Nat),BX p v d L R s↔∀e∈LY d L R s i,Fo p v e
 | .box ..,L,R,s,i=>⟨λh e he=>by rw[cA.mp he];exact h,λh=>h _ cQ⟩
 | .times _,L,R,s,i=>⟨λh e he=>by rw[cA.mp he];exact h,λh=>h _ cQ⟩
 | .back a,L,R,s,i=>by
  show BX p v a R L s↔_;rw[xu a R L s (i+1)];exact⟨λh e he=>(cV.mp he).elim (λz=>by rw[z];exact trivial) (h e),λh e he=>h e (dU _ he)⟩
 | .cD a b,L,R,s,i=>by
  show BX p v a _ _ s/\BX p v b _ _ _↔_;rw[xu a _ _ s (i+1),xu b _ _ _ (i+1+a.aX.length)];exact⟨λh e he=>(cV.mp he).elim (λz=>by rw[z];exact trivial) λz=>(cN.mp z).elim (h.1 e) (h.2 e),λh=>⟨λe he=>h e (dU _ (eV _ he)),λe he=>h e (dU _ (dZ _ he))⟩⟩
 | .bj a b,L,R,s,i=>by
  show BX p v a _ _ s/\BX p v b _ _ _↔_;rw[xu a _ _ s (i+1),xu b _ _ _ (i+1+a.aX.length)];exact⟨λh e he=>(cV.mp he).elim (λz=>by rw[z];exact trivial) λz=>(cN.mp z).elim (h.1 e) (h.2 e),λh=>⟨λe he=>h e (dU _ (eV _ he)),λe he=>h e (dU _ (dZ _ he))⟩⟩
end S21
namespace L2
open PySem PySem.Spec PyProof.Rows PySem.Builtin PySem.Builtin.Str
section
variable{X:Cx}
end
section
variable{prog:Program}{w:World}{A:Around}{E:QV}{s:Shared}{a:Addr}{D:List (Str×V)}{n:Int}{tk:Tok}
end
section
variable{X:Cx}{o i e f:Expr}{pos jy iE:Pos}{td ty tx:TE}{a:Addr}{D:List (Str×V)}
end
end L2
namespace S21
open PySem L2 Bw
inductive Dw where
 |box (x:Str) (l r:Nat)
 |times (n:Int)
 |back (d:Dw)
 |cD (a b:Dw)
 |bj (a b:Dw)
noncomputable def vt:List (Str×Nat×Nat):=[("id",1,1),("swap",2,2),("copy",1,2),("end",1,0),("add",2,1),("none",0,1),("cup",0,2),("empty",0,0),("late",1,1)]
noncomputable def zD:List Str:=["id","swap","copy","end","add","none","times","cup","empty","late"]
namespace Dw
noncomputable def aX:Dw->List V
 |box x _ _=>[.str x]
 |times n=>[.str "times",.int n]
 |back d=>.str "back"::d.aX
 |cD a b=>.str "beside"::(a.aX++b.aX)
 |bj a b=>.str "then"::(a.aX++b.aX)
noncomputable def dN:Dw->Nat×Nat
 |box _ l r=>(l,r)
 |times _=>(1,1)
 |back d=>(d.dN.2,d.dN.1)
 |cD a b=>(a.dN.1+b.dN.1,a.dN.2+b.dN.2)
 |bj a b=>(a.dN.1,b.dN.2)
noncomputable abbrev bh(d:Dw):Nat:=d.dN.1
noncomputable abbrev bf(d:Dw):Nat:=d.dN.2
def ok(p:Int):Dw->Prop
 |box x l r=>(x,l,r)∈vt
 |times n=>0<=n/\n<p
 |back d=>d.ok p
 |cD a b=>a.ok p/\b.ok p
 |bj a b=>a.ok p/\b.ok p
theorem pos(d:Dw):1<=d.aX.length:=by cases d<;>simp[aX]
end Dw
inductive It2 where
 |num (n:Int)
 |bK (d:Dw)
namespace It2
noncomputable def aX:It2->List V
 |num n=>[.int n]
 |bK d=>d.aX
noncomputable def head:It2->V
 |num n=>.int n
 |bK (.box x _ _)=>.str x
 |bK (.times _)=>.str "times"
 |bK (.back _)=>.str "back"
 |bK (.cD _ _)=>.str "beside"
 |bK (.bj _ _)=>.str "then"
noncomputable def kids:It2->List It2
 |num _=>[]
 |bK (.box _ _ _)=>[]
 |bK (.times n)=>[num n]
 |bK (.back d)=>[bK d]
 |bK (.cD a b)=>[bK a,bK b]
 |bK (.bj a b)=>[bK a,bK b]
def ok(p:Int):It2->Prop
 |num _=>True
 |bK d=>d.ok p
theorem zc(t:It2):t.aX=t.head::t.kids.flatMap aX:=by
 cases t with
 |num n=>rfl
 |bK d=>cases d<;>simp[aX,head,kids,Dw.aX]
end It2
end S21
namespace S21
open PySem L2 Bw
variable{H:Hp}{L:List Nat}{a f:Addr}{fd:FuncData}{l r:Nat}
noncomputable def Fp:List (Str×Nat×Nat):=("times",1,1)::vt
noncomputable def BR(K:Frag)(aS:Addr):Bool:=Bi K aS&&decide ((kQ K aS).map (·.1)=zD)&&Fp.all λe=>
 (match PyProof.Rows.KTD.datumAt e.1 (kQ K aS)with|some (.ref t)=>y9 K t [(e.2.1:Int),(e.2.2:Int)] | _=>false)
structure pd(K:Frag)(mg:Str->Option Value)(aS:Addr):Prop where
 nm:mg "SIDES"=some (.ref aS)
 ok:BR K aS=true
theorem Uz{x:Str}:∀{D:List (Str×V)},x ∉ D.map (·.1)->PyProof.Rows.KTD.datumAt x D=none
 | [],_=>rfl
 |(k,v)::D,h=>by
  have h1:x≠k:=λz=>h (by rw[z];exact cQ);unfold PyProof.Rows.KTD.datumAt;rw[ae h1,ag iJ];exact Uz λz=>h (dU _ z)
section
variable{K:Frag}{mg:Str->Option Value}{aS:Addr}
theorem pd.tab(B:pd K mg aS):∀h,K.In h->j8 h aS (kQ K aS):=λh X=>by
 have z:=B.ok;unfold BR at z;rw[gM,gM]at z;exact Ec X z.1.1
theorem pd.keys(B:pd K mg aS):(kQ K aS).map (·.1)=zD:=by
 have z:=B.ok;unfold BR at z;rw[gM,gM]at z;exact aL z.1.2
theorem pd.at_(B:pd K mg aS){x:Str}(h:(x,l,r)∈Fp):∃t,PyProof.Rows.KTD.datumAt x (kQ K aS)=some (.ref t)/\∀H,bq K H t [.int (l:Int),.int (r:Int)]:=by
 have z:=B.ok;unfold BR at z;rw[gM]at z;have z2:=vV.mp z.2 _ h;split at z2
 ·rename_i t e
  exact⟨t,e,λH=>Kv z2 H⟩
 ·exact nomatch z2
theorem pd.none(B:pd K mg aS){x:Str}(h:x ∉ zD):PyProof.Rows.KTD.datumAt x (kQ K aS)=none:=Uz (by rw[B.keys];exact h)
end
noncomputable def uV:Option Nat->V
 |none=>.df
 |some i=>.int (i:Int)
def zE(K:Frag)(H:Hp)(a:Addr)(m:Nat×Nat×Option Nat):Prop:=bq K H a [.int (m.1:Int),.int (m.2.1:Int),uV m.2.2]
theorem adS:(["part"]:List Str).Nodup:=by decide +kernel
def UA(K:Frag):Sp:=λvs H Q _=>∃(x:Str)(pa:Addr)(ps:List V),vs=[.str x,.ref pa]/\H pa=some (.lst ps)/\
 ((∃(a:Addr)(m:Nat×Nat×Option Nat),x="back"/\ps=[.ref a]/\zE K H a m/\jn K H [.int (m.2.1:Int),.int (m.1:Int)] Q)\/(∃(a b:Addr)(m n:Nat×Nat×Option Nat),x="beside"/\ps=[.ref a,.ref b]/\zE K H a m/\zE K H b n/\jn K H [.int ((m.1+n.1:Nat):Int),.int ((m.2.1+n.2.1:Nat):Int)] Q)\/(∃(a b:Addr)(m n:Nat×Nat×Option Nat),x="then"/\ps=[.ref a,.ref b]/\zE K H a m/\zE K H b n/\jn K H [.int (m.1:Int),.int (n.2.1:Int)] Q))
theorem adT:dy ["word","parts"] ["word","parts"] (cu JH):=dI rfl rfl rfl (by decide +kernel) rfl
theorem BS(F:cJ K "joined_sides" "joined_sides" JH f fd):cc P w K mg base cb 1 f fd ["word","parts"] (UA K):=by
 refine F.ok adT (λvs H Q E h=>?_) (λcz A outer s H vs Q E hr h=>?_)
 ·obtain⟨x,pa,ps,rfl,_⟩:=h;rfl
 ·obtain⟨x,pa,ps,rfl,hp,h⟩:=h;refine⟨_,bo (dj (cS eB (pv 0) dh (cM _)) (bY (cC (cU (aV (br (cj K rf) (br (eY K rf) (pv 1) ba) ba) (aV (br (cj K rf) (br (eY K rf) (pv 1) ba) ba) aZ))))) dz) (bo (dj (cS eB (pv 0) dh (cM _)) (bY (cC (cU (aV (bQ eM (br (cj K rf) (br (eY K rf) (pv 1) ba) ba) (br (cj K rf) (br (eY K rf) (pv 1) ba) ba)) (aV (bQ eM (br (cj K rf) (br (eY K rf) (pv 1) ba) ba) (br (cj K rf) (br (eY K rf) (pv 1) ba) ba)) aZ))))) dz) (bY (cC (cU (aV (br (cj K rf) (br (eY K rf) (pv 1) ba) ba) (aV (br (cj K rf) (br (eY K rf) (pv 1) ba) ba) aZ)))))),?_⟩;have z2:2<=sizeLine:=by decide
  rcases h with⟨a,m,rfl,rfl,ha,q⟩|⟨a,b,m,n,rfl,rfl,ha,hb,q⟩|⟨a,b,m,n,rfl,rfl,ha,hb,q⟩
  ·refine⟨_,rf,rf,_,rf,?_⟩;rw[aD rfl];exact eC ⟨_,rf,pa,_,0,.ref a,rf,rf,.of hp,bX (j:=0) rf,a,_,1,_,rf,rf,ha,bX (j:=1) rf,_,rf,pa,_,0,.ref a,rf,rf,.of hp,bX (j:=0) rf,a,_,0,_,rf,rf,ha,bX (j:=0) rf,z2,λt ht=>q.new ht⟩
  ·refine⟨_,rf,rf,_,rf,?_⟩;rw[ae (by decide)];refine dB ⟨_,rf,rf,_,rf,?_⟩;rw[aD rfl];rw[uA,uA]at q;exact eC ⟨_,rf,pa,_,0,.ref a,rf,rf,.of hp,bX (j:=0) rf,a,_,0,.int (m.1:Int),rf,rf,ha,bX (j:=0) rf,_,rf,pa,_,1,.ref b,rf,rf,.of hp,bX (j:=1) rf,b,_,0,.int (n.1:Int),rf,rf,hb,bX (j:=0) rf,_,_,rf,rf,
    _,rfl,pa,_,0,.ref a,rfl,rfl,.of hp,bX (j:=0) rfl,a,_,1,.int (m.2.1:Int),rfl,rfl,ha,bX (j:=1) rfl,_,rfl,pa,_,1,.ref b,rfl,rfl,.of hp,bX (j:=1) rfl,b,_,1,.int (n.2.1:Int),rfl,rfl,hb,bX (j:=1) rfl,_,_,rfl,rfl,z2,λt ht=>q.new ht⟩
  ·refine⟨_,rf,rf,_,rf,?_⟩;rw[ae (by decide)];refine dB ⟨_,rf,rf,_,rf,?_⟩;rw[ae (by decide)];exact dB ⟨_,rf,pa,_,0,.ref a,rf,rf,.of hp,bX (j:=0) rf,a,_,0,.int (m.1:Int),rf,rf,ha,bX (j:=0) rf,_,rf,pa,_,1,.ref b,rf,rf,.of hp,bX (j:=1) rf,b,_,1,.int (n.2.1:Int),rf,rf,hb,bX (j:=1) rf,z2,λt ht=>q.new ht⟩
abbrev oy(K:Frag)(H:Hp)(a:Addr)(l r h:Nat):Prop:=zE K H a (l,r,some h)
inductive adU(K:Frag)(x:Str)(ps:List V)(H:Hp)(Q:VK):Prop where
 |box (l r:Nat) (h:(x,l,r)∈Fp) (q:jn K H [.int (l:Int),.int (r:Int),.int ((0:Nat):Int)] Q)
 |back (a:Addr) (l r n:Nat) (h:x="back") (hp:ps=[.ref a]) (ha:oy K H a l r n) (q:jn K H [.int (r:Int),.int (l:Int),.int (n:Int)] Q)
 |cD (a b:Addr) (l r n l' r' n':Nat) (h:x="beside") (hp:ps=[.ref a,.ref b]) (ha:oy K H a l r n) (hb:oy K H b l' r' n') (q:jn K H [.int ((l+l':Nat):Int),.int ((r+r':Nat):Int),.int ((n+n':Nat):Int)] Q)
 |bj (a b:Addr) (l r n l' r' n':Nat) (h:x="then") (hp:ps=[.ref a,.ref b]) (ha:oy K H a l r n) (hb:oy K H b l' r' n') (q:jn K H [.int (l:Int),.int (r':Int),.int ((n+r+n':Nat):Int)] Q)
theorem UB:Str.ofString "back" ∉ zD/\Str.ofString "beside" ∉ zD/\Str.ofString "then" ∉ zD:=by decide +kernel
def Th(K:Frag)(H:Hp)(ps:List V)(ns:List Nat):Prop:=ps.length=ns.length/\∀(i:Nat)(v:V)(n:Nat),ps[i]?=some v->ns[i]?=some n->∃a xs,v=.ref a/\bq K H a xs/\xs[2]?=some (.int (n:Int))
theorem Th.one{K:Frag}{n:Nat}(h:oy K H a l r n):Th K H [.ref a] [n]:=⟨rfl,λi v m e1 e2=>by
 match i,e1,e2 with
 |0,e1,e2=>cases e1;cases e2;exact⟨a,_,rf,h,rf⟩
 |i+1,e1,_=>simp at e1⟩
theorem Th.two{K:Frag}{b:Addr}{n l' r' n':Nat}(h:oy K H a l r n)(h':oy K H b l' r' n'):Th K H [.ref a,.ref b] [n,n']:=⟨rfl,λi v m e1 e2=>by
 match i,e1,e2 with
 |0,e1,e2=>cases e1;cases e2;exact⟨a,_,rf,h,rf⟩
 |1,e1,e2=>cases e1;cases e2;exact⟨b,_,rf,h',rf⟩
 |i+2,e1,_=>simp at e1⟩
theorem LP{K:Frag}{H1:Hp}{ps:List V}{ns:List Nat}{Q:VK}(hq:dQ K H1 a ps)(hl:ps.length<=10)(hm:Th K H1 ps ns)(q:∀H2 lp,aW H1 H2->dQ K H2 lp ((ns.map λn:Nat=>(n:Int)).map V.int)->Q (.ref lp) H2) :
  ∃W:Nat->Nat->St->Hp->List V->Prop,(∃m,W 0 m (List.replicate 1 none++[]) H1 [])/\mV (sj K a) (cG 0) uO (cO (sH K) (bg 0) (tC (.int 2))) Q W:=by
 have z:(10:Nat)<=sizeLine:=by decide
 refine uS (cp:=[]) (λi H' zs=>zs=((ns.take i).map λn:Nat=>(n:Int)).map V.int) hq (by lia) rf (λi H' zs e=>?_) ?_ ?_
 ·rw[e,bu,bu];exact List.length_take_le _ _
 ·rintro i x H zs hx sm rfl;have hi:i<ns.length:=by rw[<- hm.1];exact(dC.mp hx).1
  obtain⟨b,xs,rfl,hb,h2⟩:=hm.2 i x ns[i] hx (cP hi);have et:ns.take (i+1)=ns.take i++[ns[i]]:=by rw[gO,cP hi];rfl
  refine l4 ⟨_,rf,b,xs,2,_,rf,rf,sm.bc hb,bX (j:=2) h2,⟨⟨[_],rf,rf⟩,sm,?_⟩⟩;rw[et,du,du];rfl
 ·rintro H2 zs sm rfl lp jh;rw[pz (by rw[<- hm.1];exact cn _)];exact q _ _ (sm.trans (.upd jh)) (.of bb)
def BU(K:Frag):Sp:=λvs H Q _=>∃(i:Nat)(x:Str)(pa:Addr)(ps:List V),vs=[.int (i:Int),.str x,.ref pa]/\H pa=some (.lst ps)/\adU K x ps H Q
theorem UC:dy ["place","word","parts","between"] ["place","word","parts"] (cu wK):=dI rfl rfl rfl (by decide +kernel) rfl
theorem BV{aS fJ:Addr}{BW:FuncData}(F:cJ K "size" "size" wK f fd)(B:pd K mg aS)(T:Txt mg)
  (GJ:cc P w K mg base cb 1 fJ BW ["word","parts"] (UA K)) (kJ:Kp K fJ) (bJ:Binds K BW ["word","parts"] []) (mJ:Mg mg "joined_sides" fJ) :
  cc P w K mg base cb 2 f fd ["place","word","parts"] (BU K):=by
 refine F.ok UC (λvs H Q E h=>?_) (λcz A outer s H vs Q E hr h=>?_)
 ·obtain⟨i,x,pa,ps,rfl,_⟩:=h;rfl
 ·obtain⟨i,x,pa,ps,rfl,hp,h⟩:=h;obtain⟨nb,ns,nt⟩:=UB;refine⟨_,bo (dj (wc (Jz B.tab (pv 1) (pJ (v:=.ref _) rf B.nm rf)) rf) (bY (cC (bQ (eN K rf) (Jy B.tab (pJ (v:=.ref _) rf B.nm rf) (pv 1) (λ_ _=>rf)) (cU (aV ba aZ))))) dz) (bo (cv (i:=3) UC.nd rf (.inl rf) (Al (cS eB (pv 1) dh (cM _)) (br (cj K rf) (br (eY K rf) (pv 2) ba) ba) ba)) (bY (cC (bQ (eN K rf) (cK GJ hr rf mJ kJ bJ .nil cL (aV (pv 1) (aV (pv 2) aZ))) (cU (aV (bQ eM (pv 3) (eX (AR K rf rf) rf T.sum AY (aV (je (N:=["part"]) (own:=1) (caps:=[]) rf (jo K rf (pv 2)) (show e8 ["place","word","parts","between"] (cu wK) ["part"] 1 [] _ from .mk' (by decide +kernel)) (λ_ _ _ _ _=>cH (i:=0) adS rf (.inl rf)) (λ_ _ _ _ _=>jz) (λ_ _ _ _ _=>br (cj K rf) (pv 0) ba)) aZ))) aZ)))))),?_⟩
  have z1:1<=sizeLine:=by decide
  have z10:10<=sizeLine:=by decide
  cases h with
  |box l r hx q=>
   obtain⟨t,e,ht⟩:=B.at_ hx;refine⟨_,rf,x,rf,rf,_,rf,?_⟩;rw[e];refine eC ⟨_,rf,x,_,rf,rf,e,z1,λt1 g1=>?_⟩;exact⟨t,t1,_,_,rf,rf,ht _,.of bb,(by show 2+1<=sizeLine;decide),λa' H' s' h'=>q a' H' ((aW.upd g1).trans s') h'⟩
  |back a l r n hx q5 ha q=>
   subst hx;subst q5;refine⟨_,rf,_,rf,rf,_,rf,?_⟩;rw[B.none nb];refine dB ⟨_,rf,rf,_,rf,?_⟩;rw[ae (by decide)];refine dB ⟨_,rf,_,rf,_,pa,_,rf,hp,.inl ⟨a,_,rf,rf,ha,λt H2 s2 ht=>?_⟩⟩;refine⟨_,rf,_,rf,pa,rf,⟨_,.of (s2 _ _ hp)⟩,LP (.of (s2 _ _ hp)) (by simp) (Th.one (s2.bc ha)) λH3 lp s3 jh=>?_⟩;refine⟨lp,_,rf,jh,?_⟩;refine⟨_,_,rf,rf,z1,λt1 g1=>?_⟩;refine⟨t,t1,_,_,rf,rf,(s3.trans (aW.upd g1)).bc ht,.of bb,(by show 2+1<=sizeLine;decide),λa' H' s' h'=>q a' H' ((s2.trans s3).trans ((aW.upd g1).trans s')) ?_⟩;have e:(0:Int)+([n].map λn:Nat=>(n:Int)).sum=(n:Int):=by simp
   have h':bq K H' a' [.int (r:Int),.int (l:Int),.int ((0:Int)+([n].map λn:Nat=>(n:Int)).sum)]:=h';rw[e]at h';exact h'
  |cD a b l r n l' r' n' hx q5 ha hb q=>
   subst hx;subst q5;refine⟨_,rf,_,rf,rf,_,rf,?_⟩;rw[B.none ns];refine dB ⟨_,rf,rf,_,rf,?_⟩;rw[ae (by decide)];refine dB ⟨_,rf,_,rf,_,pa,_,rf,hp,.inr (.inl ⟨a,b,_,_,rf,rf,ha,hb,λt H2 s2 ht=>?_⟩)⟩;refine⟨_,rf,_,rf,pa,rf,⟨_,.of (s2 _ _ hp)⟩,LP (.of (s2 _ _ hp)) (by simp) (Th.two (s2.bc ha) (s2.bc hb)) λH3 lp s3 jh=>?_⟩;refine⟨lp,_,rf,jh,?_⟩;refine⟨_,_,rf,rf,z1,λt1 g1=>?_⟩;refine⟨t,t1,_,_,rf,rf,(s3.trans (aW.upd g1)).bc ht,.of bb,(by show 2+1<=sizeLine;decide),λa' H' s' h'=>q a' H' ((s2.trans s3).trans ((aW.upd g1).trans s')) ?_⟩;have e:(0:Int)+([n,n'].map λn:Nat=>(n:Int)).sum=((n+n':Nat):Int):=by simp
   have h':bq K H' a' [.int ((l+l':Nat):Int),.int ((r+r':Nat):Int),.int ((0:Int)+([n,n'].map λn:Nat=>(n:Int)).sum)]:=h';rw[e]at h';exact h'
  |bj a b l r n l' r' n' hx q5 ha hb q=>
   subst hx;subst q5;refine⟨_,rf,_,rf,rf,_,rf,?_⟩;rw[B.none nt];refine dB ⟨_,rf,rf,_,rf,?_⟩;rw[aD rfl];refine eC ⟨_,rf,pa,_,0,.ref a,rf,rf,.of hp,bX (j:=0) rf,a,_,1,_,rf,rf,ha,bX (j:=1) rf,?_⟩;refine⟨_,rf,_,rf,_,pa,_,rf,hp,.inr (.inr ⟨a,b,_,_,rf,rf,ha,hb,λt H2 s2 ht=>?_⟩)⟩;refine⟨_,rf,_,rf,pa,rf,⟨_,.of (s2 _ _ hp)⟩,LP (.of (s2 _ _ hp)) (by simp) (Th.two (s2.bc ha) (s2.bc hb)) λH3 lp s3 jh=>?_⟩;refine⟨lp,_,rf,jh,?_⟩;refine⟨_,_,rf,rf,z1,λt1 g1=>?_⟩;refine⟨t,t1,_,_,rf,rf,(s3.trans (aW.upd g1)).bc ht,.of bb,(by show 2+1<=sizeLine;decide),λa' H' s' h'=>q a' H' ((s2.trans s3).trans ((aW.upd g1).trans s')) ?_⟩;have e:(r:Int)+([n,n'].map λn:Nat=>(n:Int)).sum=((n+r+n':Nat):Int):=by simp;lia
   have h':bq K H' a' [.int (l:Int),.int (r':Int),.int ((r:Int)+([n,n'].map λn:Nat=>(n:Int)).sum)]:=h';rw[e]at h';exact h'
def BY(K:Frag)(H:Hp):Itm->V->Prop
 | .num n,v=>v=.int n
 | .bK d,v=>∃a,v=.ref a/\oy K H a d.bh d.bf (ck d)
inductive jF(K:Frag)(H:Hp):List Itm->List V->Prop where
 |nil:jF K H [] []
 |cons {t:Itm} {ts:List Itm} {v:V} {vs:List V} (h:BY K H t v) (r:jF K H ts vs):jF K H (t::ts) (v::vs)
section
variable{K:Frag}{H H':Hp}
theorem BY.tup{t:Itm}{v:V}(h:BY K H t v)(s:dF H H'):BY K H' t v:=by
 cases t with
 |num n=>exact h
 |bK d=>
  obtain⟨a,e,hf⟩:=h;exact⟨a,e,s.bc hf⟩
theorem jF.tup{ts:List Itm}{vs:List V}(h:jF K H ts vs)(s:dF H H'):jF K H' ts vs:=by
 induction h with
 |nil=>exact .nil
 |cons h r ih=>exact .cons (h.tup s) ih
theorem jF.len{ts:List Itm}{vs:List V}(h:jF K H ts vs):vs.length=ts.length:=by
 induction h with
 |nil=>rfl
 |cons h r ih=>rw[dW,dW,ih]
theorem jF.split:∀{ts us:List Itm}{vs:List V},jF K H (ts++us) vs->∃xs ys,vs=xs++ys/\jF K H ts xs/\jF K H us ys
 | [],us,vs,h=>⟨[],vs,rfl,.nil,h⟩
 |t::ts,us,_,.cons h r=>by
  obtain⟨xs,ys,e,h1,h2⟩:=jF.split (ts:=ts) r;exact⟨_::xs,ys,by rw[e];rfl,.cons h h1,h2⟩
end
def Drw.ws:Drw->Prop
 | .box x l r _=>(x,l,r)∈vt
 | .times _=>True
 | .back d=>d.ws
 | .cD a b=>a.ws/\b.ws
 | .bj a b=>a.ws/\b.ws
def Itm.ws:Itm->Prop
 | .num _=>True
 | .bK d=>d.ws
theorem Itm.adV{t:Itm}(h:t.ws):∀u∈t.kids,u.ws:=by
 cases t with
 |num n=>intro u hu;cases hu
 |bK d=>
  cases d with
  |box=>intro u hu;cases hu
  |times n=>intro u hu;rw[cA.mp hu];exact True.intro
  |back d=>intro u hu;rw[cA.mp hu];exact h
  |cD a b=>
   intro u hu;rcases(cV.mp hu)with z|z
   ·rw[z];exact h.1
   ·rw[cA.mp z];exact h.2
  |bj a b=>
   intro u hu;rcases(cV.mp hu)with z|z
   ·rw[z];exact h.1
   ·rw[cA.mp z];exact h.2
theorem UD:∀(i:Nat){ts:List Itm},(∀t∈ts,t.ws)->∀t∈dm ts i,t.ws
 |0,ts,h=>h
 |i+1,[],h=>by intro t ht;rw[Bz]at ht;cases ht
 |i+1,t::ts,h=>UD i (ts:=t.kids++ts) λu hu=>by
  rcases(cN.mp hu)with z|z
  ·exact Itm.adV (h t cQ) u z
  ·exact h u (dU _ z)
theorem adW:∀e∈vt,kY e.1=0:=by decide +kernel
theorem UG{e:Str×Nat×Nat×LL}(h:e∈ip):(e.1,e.2.1,e.2.2.1)∈vt:=by
 have z:∀e∈ip,(e.1,e.2.1,e.2.2.1)∈vt:=by decide +kernel
 exact z e h
theorem adX{e:Str×Nat×Nat×LL}(h:e∈ip):(e.1,e.2.1,e.2.2.1)∈Fp:=dU _ (UG h)
theorem Drw.qi{p:Int}:∀{d:Drw},d.wf p->d.ws
 | .box ..,h=>UG h
 | .times _,_=>trivial
 | .back d,h=>Drw.qi (d:=d) h
 | .cD a b,h=>⟨Drw.qi (d:=a) h.1,Drw.qi (d:=b) h.2⟩
 | .bj a b,h=>⟨Drw.qi (d:=a) h.1,Drw.qi (d:=b) h.2.1⟩
def UN(K:Frag)(d:Drw)(i:Nat)(v:V)(H:Hp):Prop:=∀d' r,dm [.bK d] i=.bK d'::r->∃a,v=.ref a/\oy K H a d'.bh d'.bf (ck d')
theorem UN.tup{d:Drw}{i:Nat}{v:V}{H':Hp}(h:UN K d i v H)(s:dF H H'):UN K d i v H':=λd' r e=>by
 obtain⟨a,e1,hf⟩:=h d' r e;exact⟨a,e1,s.bc hf⟩
theorem UH{aw fM:Addr}{ff:FuncData}{d:Drw}{s:Shared}{Q:VK}(GM:cc P w K mg base cb 2 fM ff ["place","word","parts"] (BU K))(FM:cJ K "size" "size" wK fM ff)(bM:Binds K ff ["place","word","parts"] [])
  (hd:d.ws) (ji:d.aX.length<=900000) (hw:bq K H aw d.aX)
  (q:∀td kvs H',aW H H'->H' td=some (.dK kvs)->kvs.map Prod.fst=(jQ d.aX d.aX.length).map (λ(n:Nat)=>(Sum.inl (n:Int):Key))->(∀(i:Nat)(x:Str),d.aX[i]?=some (.str x)->∃v,da kvs (Sum.inl (i:Int))=some v/\UN K d i v H')->Q (.ref td) H') :
  u9 2 P w K mg base s [.ref aw,.ref fM] H Q E0:=by
 have ew:([Itm.bK d]).flatMap Itm.aX=d.aX:=by simp[Itm.aX]
 have kg:∀t∈[Itm.bK d],t.ws:=λt ht=>by rw[cA.mp ht];exact hd
 refine⟨aw,fM,d.aX,λvs H' Q=>BU K vs H' Q E0,λi vs H'=>jF K H' (dm [.bK d] i) vs.reverse,UN K d,rf,?_⟩;refine⟨hw,ji,oj.JA GM FM bM,?_,λi vs H1 H2 h tp=>h.tup tp,λi v H1 H2 h tp=>h.tup tp,λi vs H1 h=>?_,λi hi=>?_,λi n vs H1 h g=>?_,λi x vs H1 h g=>?_,λtd kvs vs H' s' h1 h2 h3 _=>q td kvs H' s' h1 h2 h3⟩
 ·show jF K H (dm [.bK d] d.aX.length) _;have e:=ET (ts:=[.bK d]);rw[ew]at e;rw[e];exact .nil
 ·have e:=h.len;have z:=SF (ts:=[.bK d]) (i:=i);rw[Aa]at e;rw[ew]at z;lia
 ·obtain⟨t,r,e1,e2,e3⟩:=vb (ts:=[.bK d]) (i:=i) (by rw[ew];exact hi);rw[ew]at e2;rw[e2];cases t with
  |num n=>exact .inr ⟨n,rf⟩
  |bK d'=>cases d'<;>exact .inl ⟨_,rfl⟩
 ·obtain⟨t,r,e1,e2,e3⟩:=vb (ts:=[.bK d]) (i:=i) (by rw[ew];exact(dC.mp h).1);rw[ew,h]at e2;cases t with
  |num m=>
   have e2:n=m:=V.int.inj (dq e2);subst e2;have g:jF K H1 (dm [.bK d] (i+1)) vs.reverse:=g;rw[e3]at g;show jF K H1 (dm [.bK d] i) (vs++[V.int n]).reverse;rw[e1,C8];exact .cons rf g
  |bK d'=>cases d'<;>cases e2
 ·obtain⟨t,r,e1,e2,e3⟩:=vb (ts:=[.bK d]) (i:=i) (by rw[ew];exact(dC.mp h).1);rw[ew,h]at e2;have BZ:t.ws:=UD i kg t (by rw[e1];exact cQ);have g:jF K H1 (dm [.bK d] (i+1)) vs.reverse:=g;rw[e3]at g;obtain⟨xs,ys,ev,g1,g2⟩:=g.split;have LQ:vs=ys.reverse++xs.reverse:=by rw[<- C8,<- ev,List.reverse_reverse]
  refine⟨ys.reverse,xs,LQ,?_,?_⟩
  ·have el:=g1.len;rw[el];cases t with
   |num m=>cases e2
   |bK d'=>
    cases d' with
    |box x' l' r' rows'=>
     have e2:x=x':=V.str.inj (dq e2);subst e2;exact(adW _ BZ).symm
    |times n=>have e2:x=_:=V.str.inj (dq e2);subst e2;exact KC.symm
    |back d'=>have e2:x=_:=V.str.inj (dq e2);subst e2;exact Sy.symm
    |cD a b=>have e2:x=_:=V.str.inj (dq e2);subst e2;exact SH.symm
    |bj a b=>have e2:x=_:=V.str.inj (dq e2);subst e2;exact SI.symm
  ·intro pa H2 Q' tp hp hq;refine⟨_,_,pa,_,rf,hp,?_⟩;have g1:=g1.tup tp;have g2:=g2.tup tp;have fin:∀v H3,aW H2 H3->BY K H3 t (.ref v)->Q' (.ref v) H3:=λv H3 s3 hv=>hq (.ref v) H3 s3 (by
    show jF K H3 (dm [.bK d] i) _;rw[e1,C8,List.reverse_reverse];exact .cons hv (g2.tup s3.tup)) (λd2 r2 e=>by
     rw[e1]at e;injection e with e _;rw[e]at hv;exact hv)
   cases t with
   |num m=>cases e2
   |bK d'=>
    cases d' with
    |box x' l' r' rows'=>
     have e2:x=x':=V.str.inj (dq e2);subst e2;exact .box l' r' (dU _ BZ) λv H3 s3 hv=>fin v H3 s3 ⟨v,rf,hv⟩
    |times n=>
     have e2:x=_:=V.str.inj (dq e2);exact .box 1 1 (by rw[e2];exact cQ) λv H3 s3 hv=>fin v H3 s3 ⟨v,rf,hv⟩
    |back d'=>
     have e2:x=_:=V.str.inj (dq e2);cases g1 with
     |cons h1 r1=>
      cases r1;obtain⟨a,rfl,hf⟩:=h1;exact .back a _ _ _ e2 rf hf λv H3 s3 hv=>fin v H3 s3 ⟨v,rf,hv⟩
    |cD a b=>
     have e2:x=_:=V.str.inj (dq e2);cases g1 with
     |cons h1 r1=>
      cases r1 with
      |cons h2 r2=>
       cases r2;obtain⟨a1,rfl,hf⟩:=h1;obtain⟨a2,rfl,LR⟩:=h2;exact .cD a1 a2 _ _ _ _ _ _ e2 rf hf LR λv H3 s3 hv=>fin v H3 s3 ⟨v,rf,hv⟩
    |bj a b=>
     have e2:x=_:=V.str.inj (dq e2);cases g1 with
     |cons h1 r1=>
      cases r1 with
      |cons h2 r2=>
       cases r2;obtain⟨a1,rfl,hf⟩:=h1;obtain⟨a2,rfl,LR⟩:=h2;exact .bj a1 a2 _ _ _ _ _ _ e2 rf hf LR λv H3 s3 hv=>fin v H3 s3 ⟨v,rf,hv⟩
theorem y6.on{k:Nat}{X:Cx}{aU:List (Addr×Obj)}{σ:St}{H1:Hp}{s1:Shared}{Q Q1:VK}{aw f:Addr}{ws:List V}{R:List V->Hp->VK->Prop}{G:Nat->List V->Hp->Prop}{U:Nat->V->Hp->Prop}(I:Inv X aU σ H1 s1)(hex:X.ex=[])(sm:aW X.H₀ H1)
  (D:y6 k P w K mg base X.s₀ X.H₀ Q aw f ws R G U) (q:∀u H',aW H1 H'->Q u H'->Q1 u H'):y6 k P w K mg base s1 H1 Q1 aw f ws R G U:=
 ⟨sm.bc D.wU,D.len,oj.on I hex sm D.fn,D.mono _ _ _ _ D.g0 sm.tup,D.mono,D.EB,D.ij,D.kind,D.num,D.word,λtd kvs vs H' s' h1 h2 h3 h4=>q _ _ s' (D.fin td kvs vs H' (sm.trans s') h1 h2 h3 h4)⟩
def UI(k:Nat)(P:Program)(w:World)(K:Frag)(mg:Str->Option Value)(base:Heap)(s:Shared):Sp:=λvs H Q E=>(∃(aw f:Addr),vs=[.ref aw,.ref f])/\u9 k P w K mg base s vs H (Sh Q) E
theorem LU{k:Nat}{fA:Addr}{iO:FuncData}(F:cJ K "folded" "folded" Eg f fd)
  (GA:pX P w K mg base (k+1) fA iO ["words","made"] (u9 k P w K mg base)) (kA:Kp K fA) (bA:Binds K iO ["words","made"] []) (mA:Mg mg "all_folded" fA):pX P w K mg base (k+2) f fd ["words","made"] (UI k P w K mg base):=by
 refine F.Jw Sj (λs vs H Q E h=>?_) (λcz A outer s H vs Q E hr h=>?_)
 ·obtain⟨⟨aw,f,rfl⟩,_⟩:=h;rfl
 ·obtain⟨_,aw,fm,ws,R,G,U,rfl,D⟩:=h;refine⟨_,bY (cC (gJ (oS hr) (yT GA hr rf mA kA bA (aV (pv 0) (aV (pv 1) aZ))) ba)),?_⟩;refine⟨_,rf,_,rf,λaU s1 I=>⟨aw,fm,ws,R,G,U,rf,y6.on I rf (.refl _) D λu H' _ ⟨td,kvs,v,e,h1,h2,h3⟩=>?_⟩⟩;exact⟨td,v,e,h2▸eI.k (k:=Sum.inl 0) h1,h3⟩
def LV(K:Frag):Sp:=λvs H Q _=>∃(aw:Addr)(d:Drw),vs=[.ref aw]/\d.ws/\d.aX.length<=900000/\bq K H aw d.aX/\∀H',aW H H'->Q (.int (ck d:Int)) H'
theorem adY:dy ["words"] ["words"] (cu JK):=dI rfl rfl rfl (by decide +kernel) rfl
theorem LX{fF fM:Addr}{nj ff:FuncData}(F:cJ K "inner" "inner" JK f fd)
  (GF:pX P w K mg base 4 fF nj ["words","made"] (UI 2 P w K mg base)) (kF:Kp K fF) (bF:Binds K nj ["words","made"] []) (mF:Mg mg "folded" fF)
  (GM:cc P w K mg base cb 2 fM ff ["place","word","parts"] (BU K)) (FM:cJ K "size" "size" wK fM ff) (bM:Binds K ff ["place","word","parts"] []) (mM:Mg mg "size" fM):cc P w K mg base cb 5 f fd ["words"] (LV K):=by
 refine F.ok adY (λvs H Q E h=>?_) (λcz A outer s H vs Q E hr h=>?_)
 ·obtain⟨aw,d,rfl,_⟩:=h;rfl
 ·obtain⟨aw,d,rfl,hd,ji,hw,q⟩:=h;refine⟨_,bY (cC (br (cj K rf) (yT GF hr rf mF kF bF (aV (pv 0) (aV (pJ (v:=.ref _) rf mM rf) aZ))) ba)),?_⟩;refine⟨_,rf,λaU s1 I=>⟨⟨aw,fM,rf⟩,UH GM FM bM hd ji hw λtd kvs H' s' h1 h2 h3=>?_⟩⟩;obtain⟨x,hx⟩:∃x,d.aX[0]?=some (.str x):=by cases d<;>exact⟨_,rfl⟩
  obtain⟨v,hv,hU⟩:=h3 0 x hx;obtain⟨a,rfl,ha⟩:=hU d [] rfl;exact⟨td,kvs,_,rf,h1,hv,a,_,2,_,rf,rf,ha,bX (j:=2) rf,q H' s'⟩
theorem UJ{k:Nat}(h:k<=L.length):iR (L.map λn:Nat=>V.int (n:Int)) none (some (k:Int))=(L.take k).map λn:Nat=>V.int (n:Int):=by
 unfold iR;rw[HT.wu,HT.Aw,List.drop_zero,Nat.sub_zero,Ab (by rw[bu];exact h),List.map_take]
theorem UK{k:Nat}(h:k<=L.length):iR (L.map λn:Nat=>V.int (n:Int)) (some (k:Int)) none=(L.drop k).map λn:Nat=>V.int (n:Int):=by
 unfold iR;rw[HT.wu,HT.Aw,Ab (by rw[bu];exact h),pz (by simp),List.map_drop]
def lG(K:Frag)(H:Hp)(a:Addr)(L R:List Nat)(s:Nat):Prop:=∃l r:Addr,bq K H a [.ref l,.ref r,.int (s:Int)]/\bq K H l (L.map λn:Nat=>V.int (n:Int))/\bq K H r (R.map λn:Nat=>V.int (n:Int))
theorem lG.mono{K:Frag}{H':Hp}{R:List Nat}{s:Nat}(h:lG K H a L R s)(sm:aW H H'):lG K H' a L R s:=by
 obtain⟨l,r,h1,h2,h3⟩:=h;exact⟨l,r,sm.bc h1,sm.bc h2,sm.bc h3⟩
def LZ(K:Frag)(H:Hp)(L R:List Nat)(s:Nat)(L' R':List Nat)(s':Nat)(Q:VK):Prop:=∀t u v H',aW H H'->bq K H' t [.ref u,.ref v]->lG K H' u L R s->lG K H' v L' R' s'->Q (.ref t) H'
def L0(K:Frag):Sp:=λvs H Q _=>∃(wa oa:Addr)(L R:List Nat)(s l r n:Nat),vs=[.ref wa,.ref oa]/\lG K H wa L R s/\oy K H oa l r n/\l<=L.length/\r<=R.length/\LZ K H (L.take l) (R.take r) s (L.drop l) (R.drop r) (s+n) Q
theorem L1:dy ["whole","one","above","below"] ["whole","one"] (cu JN):=dI rfl rfl rfl (by decide +kernel) rfl
theorem UL(F:cJ K "laid_beside" "laid_beside" JN f fd):cc P w K mg base cb 1 f fd ["whole","one"] (L0 K):=by
 refine F.ok L1 (λvs H Q E h=>?_) (λcz A outer s H vs Q E hr h=>?_)
 ·obtain⟨wa,oa,L,R,s,l,r,n,rfl,_⟩:=h;rfl
 ·obtain⟨wa,oa,L,R,s,l,r,n,rfl,⟨la,ra,hw,hL,hR⟩,ho,hl,UM,q⟩:=h;refine⟨_,bo (cv (i:=2) L1.nd rf (.inl rf) (cU (aV (nT (sZ K rf) (br (cj K rf) (pv 0) ba) mQ (lT (br (cj K rf) (pv 1) ba))) (aV (nT (sZ K rf) (br (cj K rf) (pv 0) ba) mQ (lT (br (cj K rf) (pv 1) ba))) (aV (br (cj K rf) (pv 0) ba) aZ))))) (bo (cv (i:=3) L1.nd rf (.inl rf) (cU (aV (nT (sZ K rf) (br (cj K rf) (pv 0) ba) (lT (br (cj K rf) (pv 1) ba)) mQ) (aV (nT (sZ K rf) (br (cj K rf) (pv 0) ba) (lT (br (cj K rf) (pv 1) ba)) mQ) (aV (bQ eM (br (cj K rf) (pv 0) ba) (br (cj K rf) (pv 1) ba)) aZ))))) (bY (cC (cU (aV (pv 2) (aV (pv 3) aZ)))))),?_⟩;have z2:2<=sizeLine:=by decide
  have z3:3<=sizeLine:=by decide
  have ho:bq K H oa [.int (l:Int),.int (r:Int),.int (n:Int)]:=ho;refine⟨_,rf,wa,_,0,.ref la,rf,rf,hw,bX (j:=0) rf,?_⟩;refine⟨_,rf,oa,_,0,.int (l:Int),rf,rf,ho,bX (j:=0) rf,_,rf,la,_,rf,hL,?_⟩;rw[UJ hl];intro a1 H1 s1 h1;refine⟨_,rf,wa,_,0+1,.ref ra,rf,rf,s1.bc hw,bX (j:=1) rf,?_⟩;refine⟨_,rf,oa,_,1,.int (r:Int),rf,rf,s1.bc ho,bX (j:=1) rf,_,rf,ra,_,rf,s1.bc hR,?_⟩;rw[UJ UM];intro a2 H2 s2 h2;have UO:=s1.trans s2;refine⟨_,rf,wa,_,2,.int (s:Int),rf,rf,UO.bc hw,bX (j:=2) rf,z3,λu hu=>?_⟩;have Fq:aW H (upd H2 u (.tup [.ref a1,.ref a2,.int (s:Int)])):=UO.trans (.upd hu);refine⟨_,rf,wa,_,0,.ref la,rf,rf,Fq.bc hw,bX (j:=0) rf,?_⟩;refine⟨_,rf,oa,_,0,.int (l:Int),rf,rf,Fq.bc ho,bX (j:=0) rf,_,rf,la,_,rf,Fq.bc hL,?_⟩;rw[UK hl];intro a3 H3 s3 h3;have Fs:=Fq.trans s3;refine⟨_,rf,wa,_,1,.ref ra,rf,rf,Fs.bc hw,bX (j:=1) rf,?_⟩;refine⟨_,rf,oa,_,1,.int (r:Int),rf,rf,Fs.bc ho,bX (j:=1) rf,_,rf,ra,_,rf,Fs.bc hR,?_⟩;rw[UK UM];intro a4 H4 s4 h4;have L3:=Fs.trans s4;refine⟨_,rf,wa,_,2,.int (s:Int),rf,rf,L3.bc hw,bX (j:=2) rf,_,rf,oa,_,2,.int (n:Int),rf,rf,L3.bc ho,bX (j:=2) rf,_,_,rf,rf,z3,λv hv=>?_⟩;refine⟨_,rf,_,rf,z2,λt ht=>?_⟩;have k1:aW (upd H2 u (.tup [.ref a1,.ref a2,.int (s:Int)])) H4:=s3.trans s4;have pe:aW H4 (upd (upd H4 v (.tup [.ref a3,.ref a4,.int ((s:Int)+(n:Int))])) t (.tup [.ref u,.ref v])):=(aW.upd hv).trans (.upd ht);refine q t u v _ (L3.trans pe) (.of bb) ⟨a1,a2,(k1.trans pe).bc (.of bb),((s2.trans (.upd hu)).trans (k1.trans pe)).bc h1,((aW.upd hu).trans (k1.trans pe)).bc h2⟩ ⟨a3,a4,?_,(s4.trans pe).bc h3,pe.bc h4⟩;rw[uA];exact(aW.upd ht).bc (.of bb)
end S21
namespace PySem
open Sem (wp)
section
variable{prog:Program}{w:World}{A:Around}{E:QV}{s:Shared}
theorem adZ{Q:List Value->Shared->Prop}{r:Addr}{a b c:Int}{t u v:Tok}{n:Nat}(hh:A.handled=none)(hr:IsRange s.heap r a b c t u v)(L4:Builtin.Range.small a b c=true)
  (hn:Builtin.Range.rangeSize a b c=n) (cB:n<=2^24)
  (hQ:∀h' tk acc,(∀b o,s.heap.get? b=some o->h'.get? b=some o)->ItemsOf (λi v=>∃t,v=.int (a+i*c) t) acc n->Q acc.toList { s with heap:=h',toks:=tk }) :
  wpAny (model prog w) A (collect (.ref r)) Q E s:=by
 unfold collect;refine ak (wpAny_runValue (aQ F.entry_proto_collect ?_));rw[xQ F.plain_proto_collect _];show wpAny _ A.in1 (newList [] >>= λl=>again (.builtin "list.__iadd__" ⟨[l,.ref r],[]⟩)) _ _ s;refine ak (aC ?_);refine aq ⟨aR F.plain_list_iadd _,aQ F.entry_list_iadd ?_⟩;rw[xQ F.plain_list_iadd _];show wpAny _ A.in1 (Builtin.List.listExtendWith (.ref s.heap.objs.size) (.ref r) (.ref s.heap.objs.size)) _ _ _;have L5:(s.heap.push { cls:=.type "list",data:=.seq ([]:List Value).toArray }).get? s.heap.objs.size=some { cls:=.type "list",data:=.seq #[] }:=fi _ rfl;refine wpAny_extend_range (prog:=prog) (w:=w) (A:=A) (R:=λr s'=>match r with
  | .ok (.ret v)=>wpAny (model prog w) A (match v with
   | .ref a=>load a >>= λo=>match o.data with
    | .seq xs _=>pure xs.toList
    |_=>unsupported "internal:collect"
   |_=>unsupported "internal:collect") Q E s'
  | .ok _=>False
  | .error e=>E e s') (s:={ s with heap:=s.heap.push { cls:=.type "list",data:=.seq ([]:List Value).toArray } }) hh (dt _ hr) L4 hn cB _ _ _ L5 λh' tk acc c' hk hS hI=>?_
 show wpAny _ A (load s.heap.objs.size >>= _) _ _ _;refine ak (wpAny_load hS ?_);exact aq (hQ h' tk acc (λb o e=>hk b o (fK (cX e)) (dt _ e)) hI)
end
theorem ad0(r:Addr) :
  Meets (Builtin.«tuple.__new__» ⟨[.type "tuple",.ref r],[]⟩)
   (λA R s=>A.handled=none/\∃(a b c:Int)(t u v:Tok)(n:Nat),IsRange s.heap r a b c t u v/\Builtin.Range.small a b c=true/\Builtin.Range.rangeSize a b c=n/\n<=2^24/\∀(h':Heap)(tk:Nat)(acc:Array Value),(∀b o,s.heap.get? b=some o->h'.get? b=some o)->ItemsOf (λi v=>∃t,v=.int (a+i*c) t) acc n->
    R (.ok (.ret (.ref h'.objs.size))) { s with heap:=h'.push { cls:=.type "tuple",data:=.seq acc },toks:=tk }):=
 .of_wp λprog w A R s h=>by
  obtain⟨hh,a,b,c,t,u,v,n,hr,qj,hn,cB,h⟩:=h;have agn:=sub_tuple_self;have ago:=init_tuple_lookup;have hmh:=madeHere_tuple;have hT:s.TypeIs (.ref r) "range":=⟨_,hr,rfl⟩;have zg:A.in1.handled=none:=hh;wp_walk using aA hT,adZ zg hr qj hn cB
  intro h' tk acc hk pf;show wpAny _ _ (Builtin.Tuple.tupleExact acc.toList.toArray >>= λv=>ret v) _ _ _;unfold Builtin.Tuple.tupleExact;refine ak (aC ?_ (show acc.toList.toArray.size<=sizeLine by simp only[Array.toArray_toList];rw[pf.1,sizeLine_eq];lia));refine aq ⟨_,rf,?_⟩;have e:acc.toList.toArray=acc:=by simp
  rw[e];exact h h' tk acc hk pf
section
variable{prog:Program}{w:World}{A:Around}{E:QV}{s:Shared}
theorem ad1{Q:QV}{r:Addr}{a b c:Int}{t u v:Tok}{n:Nat}(hh:A.handled=none)(hr:IsRange s.heap r a b c t u v)(L4:Builtin.Range.small a b c=true)
  (hn:Builtin.Range.rangeSize a b c=n) (cB:n<=2^24)
  (h:∀(h':Heap)(tk:Nat)(acc:Array Value),(∀b o,s.heap.get? b=some o->h'.get? b=some o)->ItemsOf (λi v=>∃t,v=.int (a+i*c) t) acc n->Q (.ref h'.objs.size) { s with heap:=h'.push { cls:=.type "tuple",data:=.seq acc },toks:=tk }) :
  wpAny (model prog w) A (call (.type "tuple") [.ref r]) Q E s:=by
 refine callType_new F.called_tuple (by decide) (F.typeCall_tuple_1 _) (F.newCall_tuple_1 _) (λobj=>F.args_object_init_2 obj _) F.entry_tuple_new
  (ad0 r) ⟨hh,a,b,c,t,u,v,n,hr,L4,hn,cB,λh' tk acc hk pf=>⟨⟨_,fi _ rfl,rfl⟩,?_⟩⟩
 exact h h' tk acc hk pf
end
end PySem
namespace L2
open PySem PySem.Spec PyProof.Rows PySem.W
section
variable{X:Cx}
theorem L9(hc:X.calm=true):ib X (.type "tuple") (λxs H Q=>∃p i j,xs=[.ref p]/\H p=some (.mr i j)/\(-(2^62)<=i/\i<2^62/\-(2^62)<=j/\j<2^62)/\j-i<=16777216/\
  ∀l,H l=none->Q (.ref l) (upd H l (.tup ((List.range (j-i).toNat).map λ(k:Nat)=>V.int (i+k))))):=by
 intro aU s σ H vs us Q I r h;obtain⟨p,i,j,rfl,hp,⟨h1,h2,h3,h4⟩,hz,q⟩:=h;obtain⟨u,rfl,ru⟩:=vals1 r;cases ru;obtain⟨t,u,v,e⟩:=I.cq p _ hp;have hn:Builtin.Range.rangeSize i j 1=(((j-i).toNat:Nat):Int):=by rw[rangeSize_one];split<;>lia
 refine ad1 (I.ok.hd hc) (show IsRange s.heap p i j 1 t u v from e) (small_one h1 h2 h3 h4) hn (by lia) λh' tk acc hk hI=>?_
 have rv:=Qy (a:=i) _ _ hI;have I1:Inv X aU σ H { s with heap:=h',toks:=tk }:=I.kept hk;have nX:((List.range (j-i).toNat).map λ(k:Nat)=>V.int (i+k)).length<=sizeLine:=by
  rw[bu,r6]
  have:(16777216:Nat)<=sizeLine:=by decide
  lia
 have I2:Inv X aU σ (upd H h'.objs.size (.tup ((List.range (j-i).toNat).map λ(k:Nat)=>V.int (i+k)))) { s with heap:=h'.push { cls:=.type "tuple",data:=.seq acc },toks:=tk }:=
  I1.laid (t':=tk) (λb o e=>dt _ e) (cn _) (show gP X.prog X.w _ _ _ (.tup _) from⟨nX,acc.toList,rv,pE.new _ _⟩)
 exact⟨.ref h'.objs.size,_,I2,rf,q _ (I1.cq.fresh (cn _))⟩
end
end L2
namespace S21
open PySem L2 Bw
variable{f:Addr}{fd:FuncData}
theorem Ma{i j:Int}{a n:Nat}(hi:i=(a:Int))(hj:j=(a:Int)+(n:Int)):((List.range (j-i).toNat).map λ(k:Nat)=>V.int (i+k))=(List.range' a n).map λm:Nat=>V.int (m:Int):=by
 subst hi hj;have e:(((a:Int)+(n:Int))-(a:Int)).toNat=n:=by lia
 rw[e,List.range'_eq_map_range,mn];refine uw λk _=>?_;show V.int ((a:Int)+k)=V.int ((a+k:Nat):Int);rw[uA]
def Mb(K:Frag):Sp:=λvs H Q _=>∃(wa oa:Addr)(L R:List Nat)(s l r n:Nat),vs=[.ref wa,.ref oa]/\lG K H wa L R s/\oy K H oa l r n/\s+n+r<=16000000/\LZ K H L (List.range' (s+n) r) s (List.range' (s+n) r) R (s+n+r) Q
theorem Mc:dy ["whole","one","start","between"] ["whole","one"] (cu JO):=dI rfl rfl rfl (by decide +kernel) rfl
theorem UP(F:cJ K "laid_then" "laid_then" JO f fd)(T:Txt mg):cc P w K mg base cb 1 f fd ["whole","one"] (Mb K):=by
 refine F.ok Mc (λvs H Q E h=>?_) (λcz A outer s H vs Q E hr h=>?_)
 ·obtain⟨wa,oa,L,R,s,l,r,n,rfl,_⟩:=h;rfl
 ·obtain⟨wa,oa,L,R,s,l,r,n,rfl,⟨la,ra,hw,hL,hR⟩,ho,hb,q⟩:=h;refine⟨_,bo (cv (i:=2) Mc.nd rf (.inl rf) (bQ eM (br (cj K rf) (pv 0) ba) (br (cj K rf) (pv 1) ba))) (bo (cv (i:=3) Mc.nd rf (.inl rf) (e9 (L9 rf) rf T.tuple j7 (aV (e9 DU rf T.range AW (aV (pv 2) (aV (bQ eM (pv 2) (br (cj K rf) (pv 1) ba)) aZ))) aZ))) (bY (cC (cU (aV (cU (aV (br (cj K rf) (pv 0) ba) (aV (pv 3) (aV (br (cj K rf) (pv 0) ba) aZ)))) (aV (cU (aV (pv 3) (aV (br (cj K rf) (pv 0) ba) (aV (bQ eM (pv 2) (br (cj K rf) (pv 1) ba)) aZ)))) aZ)))))),?_⟩;have z2:2<=sizeLine:=by decide
  have z3:3<=sizeLine:=by decide
  have ho:bq K H oa [.int (l:Int),.int (r:Int),.int (n:Int)]:=ho;have ea:((s:Int)+(n:Int))=((s+n:Nat):Int):=by lia
  refine⟨_,rf,wa,_,2,.int (s:Int),rf,rf,hw,bX (j:=2) rf,_,rf,oa,_,2,.int (n:Int),rf,rf,ho,bX (j:=2) rf,_,_,rf,rf,?_⟩;refine⟨_,rf,_,rf,_,rf,oa,_,1,.int (r:Int),rf,rf,ho,bX (j:=1) rf,_,_,rf,rf,_,_,rf,λpr Ft=>?_⟩;refine⟨pr,_,_,rf,bb,⟨by lia,by lia,by lia,by lia⟩,by lia,λbt hbt=>?_⟩;rw[Ma (i:=(s:Int)+(n:Int)) (j:=(s:Int)+(n:Int)+(r:Int)) (a:=s+n) (n:=r) ea (by lia)];have s1:aW H (upd (upd H pr (.mr ((s:Int)+(n:Int)) ((s:Int)+(n:Int)+(r:Int)))) bt (.tup ((List.range' (s+n) r).map λm:Nat=>V.int (m:Int)))):=(aW.upd Ft).trans (.upd hbt);refine⟨_,rf,wa,_,0,.ref la,rf,rf,s1.bc hw,bX (j:=0) rf,_,rf,_,rf,wa,_,2,.int (s:Int),rf,rf,s1.bc hw,bX (j:=2) rf,z3,λu hu=>?_⟩;have s2:=s1.trans (aW.upd (o:=.tup [.ref la,.ref bt,.int (s:Int)]) hu);refine⟨_,rf,_,rf,wa,_,1,.ref ra,rf,rf,s2.bc hw,bX (j:=1) rf,_,rf,_,rf,oa,_,1,.int (r:Int),rf,rf,s2.bc ho,bX (j:=1) rf,_,_,rf,rf,z3,λv hv=>?_⟩;refine⟨z2,λt ht=>?_⟩;have pe:aW _ (upd (upd _ v (.tup [.ref bt,.ref ra,.int ((s:Int)+(n:Int)+(r:Int))])) t (.tup [.ref u,.ref v])):=(aW.upd hv).trans (.upd ht);have hB:bq K (upd (upd H pr (.mr ((s:Int)+(n:Int)) ((s:Int)+(n:Int)+(r:Int)))) bt (.tup ((List.range' (s+n) r).map λm:Nat=>V.int (m:Int)))) bt ((List.range' (s+n) r).map λm:Nat=>V.int (m:Int)):=.of bb;have k1:=(aW.upd hu).trans pe;refine q t u v _ (s2.trans pe) (.of bb) ⟨la,bt,pe.bc (.of bb),(s2.trans pe).bc hL,k1.bc hB⟩ ⟨bt,ra,?_,k1.bc hB,(s2.trans pe).bc hR⟩;have e3:((s+n+r:Nat):Int)=(s:Int)+(n:Int)+(r:Int):=by lia
  rw[e3];exact(aW.upd ht).bc (.of bb)
def Md(K:Frag):Sp:=λvs H Q E=>∃(x:Str)(wa oa:Addr),vs=[.str x,.ref wa,.ref oa]/\((x="beside"/\L0 K [.ref wa,.ref oa] H Q E)\/(x="then"/\Mb K [.ref wa,.ref oa] H Q E))
theorem ad2:dy ["word","whole","one"] ["word","whole","one"] (cu JM):=dI rfl rfl rfl (by decide +kernel) rfl
theorem UQ{fB fT:Addr}{vx tu:FuncData}(F:cJ K "laid_parts" "laid_parts" JM f fd)
  (GB:cc P w K mg base cb 1 fB vx ["whole","one"] (L0 K)) (kB:Kp K fB) (bB:Binds K vx ["whole","one"] []) (mB:Mg mg "laid_beside" fB)
  (GT:cc P w K mg base cb 1 fT tu ["whole","one"] (Mb K)) (kT:Kp K fT) (bT:Binds K tu ["whole","one"] []) (mT:Mg mg "laid_then" fT) :
  cc P w K mg base cb 2 f fd ["word","whole","one"] (Md K):=by
 refine F.ok ad2 (λvs H Q E h=>?_) (λcz A outer s H vs Q E hr h=>?_)
 ·obtain⟨x,wa,oa,rfl,_⟩:=h;rfl
 ·obtain⟨x,wa,oa,rfl,h⟩:=h;refine⟨_,bY (cC (Al (cS eB (pv 0) dh (cM _)) (cK GB hr rf mB kB bB .nil cL (aV (pv 1) (aV (pv 2) aZ))) (cK GT hr rf mT kT bT .nil cL (aV (pv 1) (aV (pv 2) aZ))))),?_⟩;rcases h with⟨rfl,h⟩|⟨rfl,h⟩
  ·refine⟨_,rf,rf,_,rf,?_⟩;rw[aD rfl];exact eC ⟨_,rf,_,rf,h⟩
  ·refine⟨_,rf,rf,_,rf,?_⟩;rw[ae (by decide)];exact dB ⟨_,rf,_,rf,h⟩
inductive ad3(i:Nat)(x:Str)(ps:List V)(H:Hp)(Q:VK):Prop where
 |times (h:x="times") (q:∀H',aW H H'->Q (.int ((i+2:Nat):Int)) H')
 |box (h:x ≠ "times") (hp:ps=[]) (q:∀H',aW H H'->Q (.int ((i+1:Nat):Int)) H')
 |Fu (qs:List V) (e:Nat) (h:x ≠ "times") (hp:ps=qs++[.int (e:Int)]) (q:∀H',aW H H'->Q (.int (e:Int)) H')
def Fv:Sp:=λvs H Q _=>∃(i:Nat)(x:Str)(pa:Addr)(ps:List V),vs=[.int (i:Int),.str x,.ref pa]/\H pa=some (.lst ps)/\ad3 i x ps H Q
theorem ad4:dy ["place","word","parts"] ["place","word","parts"] (cu Bn):=dI rfl rfl rfl (by decide +kernel) rfl
theorem UR(F:cJ K "end_of" "end_of" Bn f fd):cc P w K mg base cb 1 f fd ["place","word","parts"] Fv:=by
 refine F.ok ad4 (λvs H Q E h=>?_) (λcz A outer s H vs Q E hr h=>?_)
 ·obtain⟨i,x,pa,ps,rfl,_⟩:=h;rfl
 ·obtain⟨i,x,pa,ps,rfl,hp,h⟩:=h;refine⟨_,bo (dj (cS eB (pv 1) dh (cM _)) (bY (cC (bQ eM (pv 0) ba))) dz) (bY (cC (Al (HS (pv 2) (λ_=>rf)) (br (eY K rf) (pv 2) (nN nO ba)) (bQ eM (pv 0) ba)))),?_⟩;cases h with
  |times hx q=>
   subst hx;refine⟨_,rf,rf,_,rf,?_⟩;rw[aD rfl];exact eC ⟨_,rf,_,_,rf,rf,q _ (.refl _)⟩
  |box hx q5 q=>
   subst q5;refine⟨_,rf,rf,_,rf,?_⟩;rw[ae (λz=>hx (V.str.inj z))];refine dB ⟨_,rf,_,.inl ⟨[],.of hp,rf⟩,dB ⟨_,rf,_,_,rf,rf,q _ (.refl _)⟩⟩
  |Fu qs e hx q5 q=>
   subst q5;refine⟨_,rf,rf,_,rf,?_⟩;rw[ae (λz=>hx (V.str.inj z))];refine dB ⟨_,rf,_,.inl ⟨_,.of hp,rf⟩,?_⟩;have ht:(qs++[V.int (e:Int)]).isEmpty=false:=by cases qs<;>rfl
   rw[ht];exact eC ⟨_,rf,_,rf,pa,_,-1,_,rf,rf,.of hp,Pl _ _,q _ (.refl _)⟩
inductive EM:Nat->List Itm->List V->Prop where
 |nil {i:Nat}:EM i [] []
 |num {i:Nat} {n:Int} {ts:List Itm} {vs:List V} (r:EM (i+1) ts vs):EM i (.num n::ts) (.int n::vs)
 |bK {i:Nat} {d:Drw} {ts:List Itm} {vs:List V} (r:EM (i+d.aX.length) ts vs):EM i (.bK d::ts) (.int ((i+d.aX.length:Nat):Int)::vs)
theorem EM.len{i:Nat}{ts:List Itm}{vs:List V}(h:EM i ts vs):vs.length=ts.length:=by
 induction h with
 |nil=>rfl
 |num r ih=>rw[dW,dW,ih]
 |bK r ih=>rw[dW,dW,ih]
theorem EM.split:∀{ts us:List Itm}{i:Nat}{vs:List V},EM i (ts++us) vs->∃xs ys,vs=xs++ys/\EM i ts xs/\EM (i+(ts.flatMap Itm.aX).length) us ys
 | [],us,i,vs,h=>⟨[],vs,rfl,.nil,h⟩
 | .num n::ts,us,i,_,.num r=>by
  obtain⟨xs,ys,e,h1,h2⟩:=EM.split (ts:=ts) r;refine⟨_::xs,ys,by rw[e];rfl,.num h1,?_⟩;have z:i+((Itm.num n::ts).flatMap Itm.aX).length=i+1+(ts.flatMap Itm.aX).length:=by simp[Itm.aX];lia
  rw[z];exact h2
 | .bK d::ts,us,i,_,.bK r=>by
  obtain⟨xs,ys,e,h1,h2⟩:=EM.split (ts:=ts) r;refine⟨_::xs,ys,by rw[e];rfl,.bK h1,?_⟩;have z:i+((Itm.bK d::ts).flatMap Itm.aX).length=i+d.aX.length+(ts.flatMap Itm.aX).length:=by simp[Itm.aX];lia
  rw[z];exact h2
def UE(d:Drw)(i:Nat)(v:V)(_:Hp):Prop:=∀d' r,dm [.bK d] i=.bK d'::r->v=.int ((i+d'.aX.length:Nat):Int)
theorem ad5{p:Int}{aw fM:Addr}{ff:FuncData}{d:Drw}{s:Shared}{H:Hp}{Q:VK}(GM:cc P w K mg base cb 1 fM ff ["place","word","parts"] Fv)(FM:cJ K "end_of" "end_of" Bn fM ff)(bM:Binds K ff ["place","word","parts"] [])
  (hd:d.wf p) (qj:d.sm) (ji:d.aX.length<=900000) (hw:bq K H aw d.aX)
  (q:∀td kvs H',aW H H'->H' td=some (.dK kvs)->kvs.map Prod.fst=(jQ d.aX d.aX.length).map (λ(n:Nat)=>(Sum.inl (n:Int):Key))->(∀(i:Nat)(x:Str),d.aX[i]?=some (.str x)->∃v,da kvs (Sum.inl (i:Int))=some v/\UE d i v H')->Q (.ref td) H') :
  u9 1 P w K mg base s [.ref aw,.ref fM] H Q E0:=by
 have ew:([Itm.bK d]).flatMap Itm.aX=d.aX:=by simp[Itm.aX]
 have kg:∀t∈[Itm.bK d],t.wf p:=λt ht=>by rw[cA.mp ht];exact⟨hd,qj⟩
 refine⟨aw,fM,d.aX,λvs H' Q=>Fv vs H' Q E0,λi vs _=>EM i (dm [.bK d] i) vs.reverse,UE d,rf,?_⟩;refine⟨hw,ji,oj.JA GM FM bM,?_,λi vs H1 H2 h tp=>h,λi v H1 H2 h tp=>h,λi vs H1 h=>?_,λi hi=>?_,λi n vs H1 h g=>?_,λi x vs H1 h g=>?_,λtd kvs vs H' s' h1 h2 h3 _=>q td kvs H' s' h1 h2 h3⟩
 ·show EM _ (dm [.bK d] d.aX.length) _;have e:=ET (ts:=[.bK d]);rw[ew]at e;rw[e];exact .nil
 ·have e:=h.len;have z:=SF (ts:=[.bK d]) (i:=i);rw[Aa]at e;rw[ew]at z;lia
 ·obtain⟨t,r,e1,e2,e3⟩:=vb (ts:=[.bK d]) (i:=i) (by rw[ew];exact hi);rw[ew]at e2;rw[e2];cases t with
  |num n=>exact .inr ⟨n,rf⟩
  |bK d'=>cases d'<;>exact .inl ⟨_,rfl⟩
 ·obtain⟨t,r,e1,e2,e3⟩:=vb (ts:=[.bK d]) (i:=i) (by rw[ew];exact(dC.mp h).1);rw[ew,h]at e2;cases t with
  |num m=>
   have e2:n=m:=V.int.inj (dq e2);subst e2;have g:EM (i+1) (dm [.bK d] (i+1)) vs.reverse:=g;rw[e3]at g;show EM i (dm [.bK d] i) (vs++[V.int n]).reverse;rw[e1,C8];exact .num g
  |bK d'=>cases d'<;>cases e2
 ·obtain⟨t,r,e1,e2,e3⟩:=vb (ts:=[.bK d]) (i:=i) (by rw[ew];exact(dC.mp h).1);rw[ew,h]at e2;have BZ:t.wf p:=SE i kg t (by rw[e1];exact cQ);have g:EM (i+1) (dm [.bK d] (i+1)) vs.reverse:=g;rw[e3]at g;obtain⟨xs,ys,ev,g1,g2⟩:=g.split;have LQ:vs=ys.reverse++xs.reverse:=by rw[<- C8,<- ev,List.reverse_reverse]
  refine⟨ys.reverse,xs,LQ,?_,?_⟩
  ·have el:=g1.len;rw[el];cases t with
   |num m=>cases e2
   |bK d'=>
    cases d' with
    |box x' l' r' rows'=>
     have e2:x=x':=V.str.inj (dq e2);subst e2;exact(SG _ BZ.1).symm
    |times n=>have e2:x=_:=V.str.inj (dq e2);subst e2;exact KC.symm
    |back d'=>have e2:x=_:=V.str.inj (dq e2);subst e2;exact Sy.symm
    |cD a b=>have e2:x=_:=V.str.inj (dq e2);subst e2;exact SH.symm
    |bj a b=>have e2:x=_:=V.str.inj (dq e2);subst e2;exact SI.symm
  ·intro pa H2 Q' tp hp hq;refine⟨_,_,pa,_,rf,hp,?_⟩;cases t with
   |num m=>cases e2
   |bK d'=>
    have ek:i+1+((Itm.bK d').kids.flatMap Itm.aX).length=i+d'.aX.length:=by
     have z:=aj List.length (Itm.zc (.bK d'));rw[dW]at z;have z:d'.aX.length=((Itm.bK d').kids.flatMap Itm.aX).length+1:=z;lia
    rw[ek]at g2;have fin:∀(e:Nat) H3,aW H2 H3->e=i+d'.aX.length->Q' (.int (e:Int)) H3:=λe H3 s3 he=>hq (.int (e:Int)) H3 s3 (by
     show EM i (dm [.bK d] i) _;rw[e1,C8,List.reverse_reverse,he];exact .bK g2) (λd2 r2 e5=>by
      rw[e1]at e5;injection e5 with e5 _;cases e5;rw[he])
    obtain⟨hwt,cE⟩:=BZ;have nx:∀{y:Str},x=y->y ≠ "times"->x ≠ "times":=λh1 h2 h3=>h2 (h1.symm.trans h3);cases d' with
    |box x' l' r' rows'=>
     have e2:x=x':=V.str.inj (dq e2);subst e2;cases g1;exact .box (λz=>absurd (SG _ hwt) (by rw[z];show ¬kY "times"=0;rw[KC];decide)) rfl λH3 s3=>fin _ H3 s3 (by simp[Drw.aX])
    |times n=>
     have e2:x=_:=V.str.inj (dq e2);exact .times e2 λH3 s3=>fin _ H3 s3 (by simp[Drw.aX])
    |back d'=>
     have e2:x=_:=V.str.inj (dq e2);cases g1 with
     |bK r1=>
      cases r1;exact .Fu [] _ (nx e2 (by decide)) rf λH3 s3=>fin _ H3 s3 (by simp[Drw.aX];lia)
    |cD a b=>
     have e2:x=_:=V.str.inj (dq e2);cases g1 with
     |bK r1=>
      cases r1 with
      |bK r2=>
       cases r2;exact .Fu [_] _ (nx e2 (by decide)) rf λH3 s3=>fin _ H3 s3 (by simp[Drw.aX];lia)
    |bj a b=>
     have e2:x=_:=V.str.inj (dq e2);cases g1 with
     |bK r1=>
      cases r1 with
      |bK r2=>
       cases r2;exact .Fu [_] _ (nx e2 (by decide)) rf λH3 s3=>fin _ H3 s3 (by simp[Drw.aX];lia)
def ad6(kvs:List (Key×V))(d:Drw)(U:Nat->V->Hp->Prop)(H:Hp):Prop:=kvs.map Prod.fst=(jQ d.aX d.aX.length).map (λ(n:Nat)=>(Sum.inl (n:Int):Key))/\∀(i:Nat)(x:Str),d.aX[i]?=some (.str x)->∃v,da kvs (Sum.inl (i:Int))=some v/\U i v H
def UT(K:Frag):Sp:=λvs H Q _=>∃(p:Int)(aw:Addr)(d:Drw),vs=[.ref aw]/\d.wf p/\d.sm/\d.aX.length<=900000/\bq K H aw d.aX/\∀td kvs H',aW H H'->H' td=some (.dK kvs)->ad6 kvs d (UE d) H'->Q (.ref td) H'
theorem ad7:dy ["words"] ["words"] (cu JF):=dI rfl rfl rfl (by decide +kernel) rfl
theorem UU{fA fM:Addr}{iO ff:FuncData}(F:cJ K "ends" "ends" JF f fd)
  (GA:pX P w K mg base 2 fA iO ["words","made"] (u9 1 P w K mg base)) (kA:Kp K fA) (bA:Binds K iO ["words","made"] []) (mA:Mg mg "all_folded" fA)
  (GM:cc P w K mg base cb 1 fM ff ["place","word","parts"] Fv) (FM:cJ K "end_of" "end_of" Bn fM ff) (bM:Binds K ff ["place","word","parts"] []) (mM:Mg mg "end_of" fM):cc P w K mg base cb 3 f fd ["words"] (UT K):=by
 refine F.ok ad7 (λvs H Q E h=>?_) (λcz A outer s H vs Q E hr h=>?_)
 ·obtain⟨p,aw,d,rfl,_⟩:=h;rfl
 ·obtain⟨p,aw,d,rfl,hd,qj,ji,hw,q⟩:=h;refine⟨_,bY (cC (yT GA hr rf mA kA bA (aV (pv 0) (aV (pJ (v:=.ref _) rf mM rf) aZ)))),?_⟩;exact⟨_,rf,λaU s1 I=>ad5 GM FM bM hd qj ji hw λtd kvs H' s' h1 h2 h3=>q td kvs H' s' h1 ⟨h2,h3⟩⟩
noncomputable def oA(ns:List Int)(L:List Nat):List Int:=L.map λi=>(ns[i]?).getD 0
def UW(K:Frag):Sp:=λvs H Q _=>∃(na ly:Addr)(ns:List Int)(L R:List Nat)(s:Nat),vs=[.ref na,.ref ly]/\bq K H na (ns.map V.int)/\lG K H ly L R s/\L.length+R.length<=1000000/\(∀i∈L++R,i<ns.length)/\jn K H ((oA ns (L++R)).map V.int) Q
theorem ad8:dy ["numbers","lying"] ["numbers","lying"] (cu Ej):=dI rfl rfl rfl (by decide +kernel) rfl
theorem ad9:(["wire","numbers"]:List Str).Nodup:=by decide +kernel
theorem UX(F:cJ K "at_wires" "at_wires" Ej f fd)(T:Txt mg):cc P w K mg base cb 1 f fd ["numbers","lying"] (UW K):=by
 refine F.ok ad8 (λvs H Q E h=>?_) (λcz A outer s H vs Q E hr h=>?_)
 ·obtain⟨na,ly,ns,L,R,s,rfl,_⟩:=h;rfl
 ·obtain⟨na,ly,ns,L,R,s,rfl,hn,⟨la,ra,vy,hL,hR⟩,uX,vz,q⟩:=h;refine⟨_,bY (cC (e9 (nc K rf) rf T.tuple j7 (aV (je (N:=["wire","numbers"]) (own:=1) (caps:=[0]) rf (AU K rf (bQ (eN K rf) (br (cj K rf) (pv 1) ba) (br (cj K rf) (pv 1) ba))) (show e8 ["numbers","lying"] (cu Ej) ["wire","numbers"] 1 [0] _ from .mk' (by decide +kernel)) (λ_ _ _ _ _=>cH (i:=0) ad9 rf (.inl rf)) (λ_ _ _ _ _=>jz) (λ_ _ _ _ _=>br (cj K rf) (pv 1) (pv 0))) aZ))),?_⟩
  have z:(1000000:Nat)<=sizeLine:=by decide
  refine⟨_,rf,ly,_,0,.ref la,rf,rf,vy,bX (j:=0) rf,_,rf,ly,_,1,.ref ra,rf,rf,vy,bX (j:=1) rf,la,ra,_,_,rf,rf,hL,hR,by rw[bu,bu];lia,λc H1 s1 hc=>?_⟩;rw[<- du]at hc;refine⟨c,rf,⟨_,hc⟩,QH (cp:=[some (.ref na)]) (λi H' zs=>zs=((oA ns (L++R)).take i).map V.int) hc (by rw[bu,cm];lia) rfl (λi H' zs e=>by rw[e,bu];exact List.length_take_le _ _) ?_ ?_⟩
  ·rintro i x H2 zs hx sm rfl;rw[dG]at hx;obtain⟨m,hm,rfl⟩:=Option.map_eq_some_iff.mp hx;have B0:m<ns.length:=vz m (dP hm);have e1:(ns.map V.int)[m]?=some (.int ((ns[m]?).getD 0)):=by rw[dG,cP B0];rfl
   have e2:(oA ns (L++R))[i]?=some ((ns[m]?).getD 0):=by unfold oA;rw[dG,hm];rfl
   refine l4 ⟨_,rf,_,rf,na,_,(m:Int),_,rf,rf,(s1.trans sm).bc hn,bX e1,⟨⟨[_],rf,rf⟩,sm,?_⟩⟩;rw[gO,e2,du];rfl
  ·rintro H2 zs sm rfl lp jh;rw[pz (by unfold oA;rw[bu,bu];exact cn _)];exact⟨lp,_,rf,.inl ⟨.of bb,λt ht=>q t _ ((s1.trans sm).trans ((aW.upd jh).trans (.upd ht))) (.of bb)⟩⟩
end S21
namespace PySem
open Sem (wp)
section
variable{prog:Program}{w:World}{A:Around}{E:QV}{s:Shared}
variable{κ:Type} [DecidableEq κ] {knd:KeyKind prog w κ}
theorem aea:typeLookup (.type "dict") "__len__"=pure (some (.builtin "dict.__len__")):=by rw[typeLookup_type,aO];kernel_rfl
theorem aeb{d:Addr}{kvs:List (κ×Value)}{Q:Bool->Shared->Prop}(hd:(d==sysModules)=false)(hm:s.heap.DictOf knd d kvs)(cB:kvs.length<=2^24)
  (h:Q false s):wpAny (model prog w) A (Builtin.List.listLengthHint (.ref d)) Q E s:=by
 have hT:s.TypeIs (.ref d) "dict":=hm.typeIs;unfold Builtin.List.listLengthHint;refine ak (wpAny_specialOf hT aea ?_);generalize cg:("dict.__len__":String)=id0
 wp_delta
 rw[show splitId id0=some ("dict","__len__") from by subst cg;decide +kernel]
 subst cg;refine ak (wpAny_isInstance (T := "dict") (b:=true) hT (by rw[isSubtype_type];kernel_rfl) ?_);refine wpAny_ite_split (λtQ=>absurd tQ (by decide)) (λ_=>?_);refine wpAny_ite_split (λ_=>?_) (λtQ=>absurd (by decide +kernel) tQ);refine ak (aA hT ?_);exact aq h
theorem aec{Q:List Value->Shared->Prop}{d:Addr}{kvs:List (κ×Value)}{ep:Nat}(hh:A.handled=none)(hd:(d==sysModules)=false)(hm:s.heap.DictAt knd d kvs ep)(cB:kvs.length<=2^24)
  (hQ:∀s' acc,(∀b o,s.heap.get? b=some o->s'.heap.get? b=some o)->s'.gens=s.gens->s'.drawn=s.drawn->s'.os=s.os->s.heap.objs.size<s'.heap.objs.size->ItemsOf (λi v=>∃k x,kvs[i]?=some (k,x)/\knd.is k v=true) acc kvs.length->Q acc.toList s') :
  wpAny (model prog w) A (collect (.ref d)) Q E s:=by
 have hT:s.TypeIs (.ref d) "dict":=hm.dictOf.typeIs;have Me:=hm.lt_size;unfold collect;refine ak (wpAny_runValue (aQ F.entry_proto_collect ?_));rw[xQ F.plain_proto_collect _];show wpAny _ A.in1 (newList [] >>= λl=>again (.builtin "list.__iadd__" ⟨[l,.ref d],[]⟩)) _ _ s;refine ak (aC ?_);refine aq ⟨aR F.plain_list_iadd _,aQ F.entry_list_iadd ?_⟩;rw[xQ F.plain_list_iadd _];show wpAny _ A.in1 (Builtin.List.listExtendWith (.ref s.heap.objs.size) (.ref d) (.ref s.heap.objs.size)) _ _ _;have Mf:s.heap.objs.size≠d:=λe=>by rw[<- e]at Me;exact rW _ Me
 unfold Builtin.List.listExtendWith;generalize hH:s.heap.push { cls:=.type "list",data:=.seq ([]:List Value).toArray }=H;have Mh:H.objs.size=s.heap.objs.size+1:=by rw[<- hH,lM]
 have Fw:H.DictAt knd d kvs ep:=hH▸hm.push _;refine ak (aA (T := "dict") Fw.dictOf.typeIs ?_);have h1:Builtin.List.listSameRef (.ref s.heap.objs.size) (.ref d)=false:=by simp[Builtin.List.listSameRef,Mf]
 have h2:(Value.type "dict"==Value.type "list")=false:=by decide
 have h3:(Value.type "dict"==Value.type "tuple")=false:=by decide
 simp only[h1,h2,h3,Bool.or_false,Bool.false_eq_true,if_false];refine ak (wpAny_pyIter_dict hd Fw ?_);refine ak (ao (aeb hd (Fw.push _).dictOf cB ?_));have BA:d≠H.objs.size:=by rw[Mh];exact fK (zW Me)
 have UY:s.heap.objs.size≠H.objs.size:=by rw[Mh];lia
 have W:=(Walks.dictKeys (prog:=prog) (w:=w) (A:=A.in1) (knd:=knd) hh H.objs.size d BA kvs ep).toS;have L5:H.get? s.heap.objs.size=some { cls:=.type "list",data:=.seq ([]:List Value).toArray }:=hH▸fi _ rfl;have UZ:=dt { cls:=.type "dict_keyiterator",data:=.fields #[.ref d,.int 0 0,.int kvs.length 0,.int ep 0] } L5;refine wpAny_ite_split (λ_=>?_) (λtQ=>absurd (by decide +kernel) tQ);refine ak (wpAny_rule ?_);refine ak ?_;show wpAny _ _ (updateSeq s.heap.objs.size (·.push .none) >>= λ_=>updateSeq s.heap.objs.size (·.pop)) _ _ _;refine ak (aE UZ rf ?_);have U0:=qy (Obj.mapSeq (·.push Value.none)) UZ rfl;refine aE (hz:=by seq_fits) U0 rf ?_;have hS₃:=qy (Obj.mapSeq (·.pop)) U0 rfl;have Mi:∀b o,b≠s.heap.objs.size->(H.push { cls:=.type "dict_keyiterator",data:=.fields #[.ref d,.int 0 0,.int kvs.length 0,.int ep 0] }).get? b=some o->(((H.push { cls:=.type "dict_keyiterator",data:=.fields #[.ref d,.int 0 0,.int kvs.length 0,.int ep 0] }).update s.heap.objs.size (Obj.mapSeq (·.push Value.none))).update s.heap.objs.size (Obj.mapSeq (·.pop))).get? b=some o:=λb o hb e=>
  (CW _ _ (Ne.symm hb)).trans ((CW _ _ (Ne.symm hb)).trans e)
 have hSf:s.heap.objs.size ∉ [H.objs.size,d]:=λhm=>by
  rcases(cV.mp hm)with(h|h)
  ·exact UY h
  ·exact Mf (cA.mp h)
 refine aq ⟨aR F.plain_extend_loop _,codeAny_extend_loopS W (by rw[sizeLine_eq];lia) _ hSf _ kvs.length 0 _ _ _ rfl (jv _) ⟨⟨_,Mi _ _ UY.symm (fi _ rfl),rfl,rfl⟩,(Fw.push _).at' λo e=>Mi _ _ Mf.symm e⟩ hS₃ (ItemsOf.nil _) λs' aed c' Fx U1 pf=>?_⟩;show wpAny _ A (load s.heap.objs.size >>= _) _ _ s';refine ak (wpAny_load U1 ?_);refine aq (hQ s' aed (λb ob e=>Fx.heap b ob (λhb=>?_) (Mi b ob (fK (cX e)) (dt _ (hH▸dt _ e)))) Fx.gens Fx.drawn Fx.os (cX U1) pf);have cE:=cX e;rcases(cV.mp hb)with(h|h)
 ·exact absurd cE (h▸rW _)
 ·rw[cA.mp h,Mh]at cE;exact absurd cE (Nat.not_lt.mpr (Nat.le_succ _))
end
end PySem
namespace PyProof.Rows
open PySem
section
variable{prog:Program}{w:World}{A:Around}{E:QV}{s:Shared}
variable{κ:Type} [DecidableEq κ] {knd:PySem.KeyKind prog w κ}
theorem aee{d:Addr}{kvs:List (κ×Value)}{ep:Nat}{ns:List Int}{Q:QV}(hh:A.handled=none)(hd:(d==sysModules)=false)(hm:s.heap.DictAt knd d kvs ep)(Mj:kvs.length<64)
  (hI:∀acc:Array Value,ItemsOf (λi v=>∃k x,kvs[i]?=some (k,x)/\knd.is k v=true) acc kvs.length->IntsAre acc.toList ns)
  (h:∀(h1 h':Heap)(tk:Nat)(out:Array Value)(lF:List Int)(e:Nat),s.heap.objs.size<=h1.objs.size->(∀b o,s.heap.get? b=some o->h1.get? b=some o)->(∀b o,h1.get? b=some o->h'.get? b=some o)->h'.get? h1.objs.size=some (seqObj "list" out e)->IntsAre out.toList lF->lF.Perm ns->lF.Pairwise (·<=·)->Q (.ref h1.objs.size) { s with heap:=h',toks:=tk }) :
  wpAny (model prog w) A (call (.builtin "sorted") [.ref d]) Q E s:=by
 refine Calls.call_function_entry kind_sorted plain_sorted entry_sorted (args_sorted1 _) ?_;unfold Builtin.«sorted»;refine ak (m:=checkCount "sorted" 1 1 _) (aq ?_);refine ak (aec hh hd hm (by lia) λs' acc hk hg Mk su hsz pf=>?_);obtain⟨h1,g',d',xg,HY⟩:=s';have e1:g'=s.gens:=hg;have e2:d'=s.drawn:=Mk;have e3:HY=s.os:=su;subst e1 e2 e3;have hl:acc.toList.length<64:=by rw[vQ,pf.1];exact Mj
 refine ak (wpAny_newList (hsz:=by rw[sizeLine_eq];lia) ?_);have Aj:(h1.push (seqObj "list" acc.toList.toArray 0)).get? h1.objs.size=some (seqObj "list" acc.toList.toArray 0):=fi _ rfl;refine ak (ao (az slot_list_sort ⟨_,Aj,rf⟩ entry_list_sort (list_sort_tree Aj (hI acc pf) hl λout lF a1 a2 a3=>⟨_,rf,?_⟩) (args_list_sort _)));obtain⟨e,he⟩:=sortedHeap_at (h:=h1.push (seqObj "list" acc.toList.toArray 0)) (vs:=acc.toList) (out:=out) Aj;refine aq ⟨_,rf,h h1 _ xg out lF e (Nat.le_of_lt hsz) hk (λb o eb=>?_) he a1 a2 a3⟩;have cE:=cX eb;rw[sortedHeap_old (fK cE) (by rw[size_push'];exact zW cE)];exact dt _ eb
end
end PyProof.Rows
namespace L2
open PySem PySem.Spec PyProof.Rows PySem.W
section
variable{X:Cx}
def aef:List V->Hp->VK->Prop:=λvs H Q=>∃(a:Addr)(kvs:List (Key×V))(ns:List Int),vs=[.ref a]/\Rd H a (.dK kvs)/\kvs.map Prod.fst=ns.map (Sum.inl:Int->Key)/\kvs.length<64/\∀(l:Addr)(lF:List Int),H l=none->lF.Perm ns->lF.Pairwise (·<=·)->Q (.ref l) (upd H l (.lst (lF.map V.int)))
theorem Paired.of_get:∀{xs:List V}{us:List Value},xs.length=us.length->(∀(i:Nat)(x:V)(u:Value),xs[i]?=some x->us[i]?=some u->RelV x u)->Vals xs us
 | [],[],_,_=>.nil
 |x::xs,u::us,hl,h=>.cons (h 0 x u rfl rfl) (Paired.of_get (by simpa using hl) λi y v e1 e2=>h (i+1) y v e1 e2)
theorem aeg{its:List Value}{ns:List Int}(h:Vals (ns.map V.int) its):IntsAre its ns:=by
 induction ns generalizing its with
 |nil=>cases h;exact .nil
 |cons n ns ih=>
  cases h with
  |cons r t=>
   obtain⟨k,rfl⟩:=r;exact .cons n k (ih t)
theorem aeh{its:List Value}{ns:List Int}(h:IntsAre its ns):Vals (ns.map V.int) its:=by
 induction h with
 |nil=>exact .nil
 |cons n t _ ih=>exact .cons ⟨t,rf⟩ ih
theorem aei(hc:X.calm=true):ib X (.builtin "sorted") aef:=by
 intro aU s σ H vs us Q I r h;obtain⟨a,kvs,ns,rfl,g,hk,Mj,q⟩:=h;obtain⟨u,rfl,ru⟩:=vals1 r;cases ru;obtain⟨z,lo,vs,rel,ob,es,ep,hm,ed,dd,hko,hp,xq⟩:=qX I.cq g;have E6:vs.length=kvs.length:=rel.length.symm;refine aee (knd:=iu X.prog X.w) (kvs:=vs) (ep:=ep) (ns:=ns) (I.ok.hd hc) lo ⟨ob,es,hm,ed,dd,hko,hp,xq⟩ (by rw[E6];exact Mj) (λacc pf=>?_) λh1 h' tk out lF e hz IU sV hS aej Fy rF=>?_
 ·refine aeg (ns:=ns) ?_;have hl:acc.toList.length=ns.length:=by
   have:=aj List.length hk
   rw[bu,bu]at this;rw[vQ,pf.1,E6,this]
  have aek:=rel.keys;refine Paired.of_get (by rw[bu,hl]) λi x u e1 e2=>?_;rw[dG]at e1;cases en:ns[i]? with
  |none=>rw[en]at e1;cases e1
  |some n=>
   rw[en]at e1;cases e1;rw[Hs]at e2;obtain⟨k,x,e3,e4⟩:=pf.2 i u e2;have e5:(vs.map (·.1))[i]?=some k:=by rw[dG,e3];rfl
   rw[<- aek]at e5;have e6:(kvs.map Prod.fst)[i]?=some k:=e5;rw[hk,dG,en]at e6;cases e6;exact KY e4
 have I1:Inv X aU σ H { s with heap:=h',toks:=tk }:=I.kept λb o e=>sV b o (IU b o e);have fp:iV X aU H h1.objs.size:=I.jZ hz (I.cq.fresh hz);have I2:=I1.wB (o:=.lst (lF.map V.int)) fp ⟨by rw[bu,Fy.length_eq];have:=aj List.length hk;rw[bu,bu]at this;rw[<- this];exact z,out.toList,e,aeh aej,hS⟩;exact⟨.ref _,_,I2,rf,q _ _ fp.1 Fy rF⟩
theorem ael:bootBuiltins "sorted"=some (.builtin "sorted"):=by decide +kernel
end
end L2
namespace S21
open PySem L2 Bw
variable{H:Hp}{L R:List Nat}{aS f:Addr}{d:Drw}{e:En}{fd:FuncData}{kvs:List (Key×V)}{ns:List Int}{p:Int}{s:Nat}
theorem aem{X:Cx}:ib X (.type "range") (λxs H Q=>∃j:Int,xs=[.int j]/\∀p,H p=none->Q (.ref p) (upd H p (.mr 0 j))):=by
 intro aU s σ H vs us Q I r h;obtain⟨j,rfl,q⟩:=h;obtain⟨u,rfl,ru⟩:=vals1 r;obtain⟨t,rfl⟩:=ru;refine call_range_1 ?_;exact⟨.ref _,_,I.laid (t':=_) (o:=.mr 0 j) (λb o e=>dt _ e) (cn _) ⟨_,_,_,fi _ rf⟩,rf,q _ I.fresh⟩
theorem lG.tup{K:Frag}{H':Hp}{a:Addr}(h:lG K H a L R s)(sm:dF H H'):lG K H' a L R s:=by
 obtain⟨l,r,h1,h2,h3⟩:=h;exact⟨l,r,sm.bc h1,sm.bc h2,sm.bc h3⟩
theorem aen{i j:Nat}{x:En}(h:(LY d L R s i)[j]?=some e):x∈Cj d L R s i (j+1)↔x∈Cj d L R s i j\/x∈e.kids:=by
 unfold Cj;rw[gO,h,List.flatMap_append];simp[or_assoc]
noncomputable def oB:List V:=[.str "beside",.str "then"]
theorem aeo:∀e∈ip,qP (.str e.1) oB=false:=by decide +kernel
theorem U2:qP (.str "times") oB=false/\qP (.str "back") oB=false/\qP (.str "beside") oB=true/\qP (.str "then") oB=true:=by decide +kernel
theorem aep{b:Bool}{A B:Prop}(h:b=true)(q:A):if(if false=true then !b else b)=true then A else B:=by
 subst h;simpa using q
theorem aeq:("times":Str) ≠ "back"/\("beside":Str) ≠ "back"/\("then":Str) ≠ "back":=by decide +kernel
structure ph(K:Frag)(H:Hp)(kvs:List (Key×V))(C:List En):Prop where
 keys:∀k∈kvs.map Prod.fst,∃e∈C,k=Sum.inl (e.pl:Int)
 at_:∀e∈C,∃a,da kvs (Sum.inl (e.pl:Int))=some (.ref a)/\lG K H a e.L e.R e.s
theorem ph.tup{H H':Hp}{kvs:List (Key×V)}{C:List En}(h:ph K H kvs C)(s:dF H H'):ph K H' kvs C:=⟨h.keys,λe he=>let ⟨a,h1,h2⟩:=h.at_ e he;⟨a,h1,h2.tup s⟩⟩
theorem Ml{a b:Nat}:(Sum.inl (a:Int):Key)=Sum.inl (b:Int)↔a=b:=⟨λh=>by have:=Sum.inl.inj h;lia,λh=>by rw[h]⟩
theorem aer{k:Key}{v:V}{x:Key}(h:x∈(eS kvs k v).map Prod.fst):x∈kvs.map Prod.fst\/x=k:=by
 unfold eS at h;split at h
 ·refine .inl ?_;obtain⟨y,hy,e⟩:=dD.mp h;obtain⟨z,hz,e2⟩:=dD.mp hy;rw[<- e,<- e2];refine dD.mpr ⟨z,hz,?_⟩;split<;>rfl
 ·rw[du]at h;rcases(cN.mp h)with(z|z)
  ·exact .inl z
  ·exact .inr (cA.mp z)
theorem ph.put{C Y:List En}{x:En}{a:Addr}(h:ph K H kvs C)(hC:∀e∈C,e∈Y)(hx:x∈Y)(inj:∀e∈Y,e.pl=x.pl->e=x)(ha:lG K H a x.L x.R x.s):ph K H (eS kvs (Sum.inl (x.pl:Int)) (.ref a)) (C++[x]):=by
 refine⟨λk hk=>?_,λe he=>?_⟩
 ·rcases aer hk with z|z
  ·obtain⟨e,he,e2⟩:=h.keys k z;exact⟨e,eV _ he,e2⟩
  ·exact⟨x,dZ _ cQ,z⟩
 ·rw[Bb];by_cases ep:e.pl=x.pl
  ·rw[af (Ml.mpr ep)];have hY:e∈Y:=by
    rcases(cN.mp he)with(z|z)
    ·exact hC e z
    ·rw[cA.mp z];exact hx
   rw[inj e hY ep];exact⟨a,rf,ha⟩
  ·rw[ag λz=>ep (Ml.mp z)];rcases(cN.mp he)with(z|z)
   ·exact h.at_ e z
   ·rw[cA.mp z]at ep;exact absurd rf ep
theorem ph.iff{C C':List En}(h:ph K H kvs C)(e:∀x,x∈C'↔x∈C):ph K H kvs C':=⟨λk hk=>let ⟨x,hx,e2⟩:=h.keys k hk;⟨x,(e x).mpr hx,e2⟩,λx hx=>h.at_ x ((e x).mp hx)⟩
theorem En.cases{p:Int}{M:Nat}{K:Frag}{e:En}(ok:tS p M e)(hM:M<=16000000):(∃y,(Itm.bK e.d).head=.str y/\y ≠ "back"/\qP (.str y) oB=false/\e.kids=[])\/(∃a,e.d=.back a) \/
  (∃y xa xb,(Itm.bK e.d).head=.str y/\y ≠ "back"/\qP (.str y) oB=true/\e.kids=[xa,xb]/\xa.pl=e.pl+1/\xb.pl=e.pl+1+xa.d.aX.length/\∀{G:Hp}{ea ka:Addr}{Q:VK}{E:XK},lG K G ea e.L e.R e.s->oy K G ka xa.d.bh xa.d.bf (ck xa.d)->LZ K G xa.L xa.R xa.s xb.L xb.R xb.s Q->Md K [.str y,.ref ea,.ref ka] G Q E):=by
 obtain⟨b1,b2,b3,b4⟩:=U2;obtain⟨n1,n2,n3⟩:=aeq;obtain⟨pl,ed,eL,eR,es⟩:=e;cases ed with
 |box y l r aY=>exact .inl ⟨y,rf,(Su _ ok.wf).1,aeo _ ok.wf,rf⟩
 |times n=>exact .inl ⟨_,rf,n1,b1,rf⟩
 |back a=>exact .inr (.inl ⟨a,rf⟩)
 |cD a b=>
  have oL:eL.length=a.bh+b.bh:=ok.l;have oR:eR.length=a.bf+b.bf:=ok.r;exact .inr (.inr ⟨_,⟨pl+1,a,eL.take a.bh,eR.take a.bf,es⟩,⟨pl+1+a.aX.length,b,eL.drop a.bh,eR.drop a.bf,es+ck a⟩,rf,n2,b3,rf,rf,rf,λh1 h2 h3=>⟨_,_,_,rf,.inl ⟨rf,_,_,eL,eR,es,a.bh,a.bf,ck a,rf,h1,h2,by lia,by lia,h3⟩⟩⟩)
 |bj a b=>
  have oz:es+(ck a+a.bf+ck b)<=M:=ok.z;exact .inr (.inr ⟨_,⟨pl+1,a,eL,List.range' (es+ck a) a.bf,es⟩,⟨pl+1+a.aX.length,b,List.range' (es+ck a) a.bf,eR,es+ck a+a.bf⟩,rf,n3,b4,rf,rf,rf,λh1 h2 h3=>⟨_,_,_,rf,.inr ⟨rf,_,_,eL,eR,es,a.bh,a.bf,ck a,rf,h1,h2,by lia,h3⟩⟩⟩)
noncomputable abbrev nB(d:Drw):List En:=LY d (List.range' 0 d.bh) (List.range' d.bh d.bf) (d.bh+d.bf) 0
noncomputable abbrev Mm(d:Drw)(j:Nat):List En:=Cj d (List.range' 0 d.bh) (List.range' d.bh d.bf) (d.bh+d.bf) 0 j
def U3(K:Frag):Sp:=λvs H Q _=>∃(p:Int)(aw:Addr)(d:Drw),vs=[.ref aw]/\d.wf p/\d.sm/\d.aX.length<64/\ck d<=900000/\bq K H aw d.aX/\∀td kvs H',aW H H'->H td=none->H' td=some (.dK kvs)->kvs.length<=200->ph K H' kvs (nB d)->Q (.ref td) H'
noncomputable abbrev nLd:List Str:=["words","sizes","behind","left","start","lying","place","first","whole","parts"]
theorem rG:dy nLd ["words"] (cu JL):=dI rfl rfl rfl (by decide +kernel) rfl
theorem U4{fA fM fE fP:Addr}{iO ff B1 qe:FuncData}(F:cJ K "laid" "laid" JL f fd)(T:Txt mg)(hSo:mg "sorted"=none)
  (GA:pX P w K mg base 3 fA iO ["words","made"] (u9 2 P w K mg base)) (kA:Kp K fA) (bA:Binds K iO ["words","made"] []) (mA:Mg mg "all_folded" fA)
  (GM:cc P w K mg base cb 2 fM ff ["place","word","parts"] (BU K)) (FM:cJ K "size" "size" wK fM ff) (bM:Binds K ff ["place","word","parts"] []) (mM:Mg mg "size" fM)
  (GE:cc P w K mg base cb 3 fE B1 ["words"] (UT K)) (kE:Kp K fE) (bE:Binds K B1 ["words"] []) (mE:Mg mg "ends" fE)
  (GP:cc P w K mg base cb 2 fP qe ["word","whole","one"] (Md K)) (kP:Kp K fP) (bP:Binds K qe ["word","whole","one"] []) (mP:Mg mg "laid_parts" fP):cc P w K mg base cb 4 f fd ["words"] (U3 K):=by
 refine F.ok rG (λvs H Q E h=>?_) (λcz A outer s H vs Q E hr h=>?_)
 ·obtain⟨p,aw,d,rfl,_⟩:=h;rfl
 ·obtain⟨p,aw,d,rfl,hd,qj,ji,Mn,hw,q⟩:=h;have hu:=hr.units;have kc:=oS hr;have nC:eO 2 _:=hr.mono (by decide);refine⟨_,bo (cv (i:=1) rG.nd rf (.inl rf) (yT GA hr rf mA kA bA (aV (pv 0) (aV (pJ (v:=.ref _) rf mM rf) aZ)))) (bo (cv (i:=2) rG.nd rf (.inl rf) (cK GE hr rf mE kE bE .nil cL (aV (pv 0) aZ))) (bo (cv (i:=3) rG.nd rf (.inl rf) (br (cj K rf) (gJ kc (pv 1) ba) ba)) (bo (cv (i:=4) rG.nd rf (.inl rf) (bQ eM (pv 3) (br (cj K rf) (gJ kc (pv 1) ba) ba))) (bo (cv (i:=5) rG.nd rf (.inl rf) (yR (qY ba (cU (aV (e9 (L9 rf) rf T.tuple j7 (aV (e9 aem rf T.range AW (aV (pv 3) aZ)) aZ)) (aV (e9 (L9 rf) rf T.tuple j7 (aV (e9 DU rf T.range AW (aV (pv 3) (aV (pv 4) aZ))) aZ)) (aV (pv 4) aZ)))) yQ) rf rf (by decide) (by decide))) (bo (jd jw rf (jo K rf (eX (aei rf) rf hSo ael (aV (pv 1) aZ))) (cH (i:=6) rG.nd rf (.inl rf)) (bo (cv (i:=7) rG.nd rf (.inl rf) (bQ eM (pv 6) ba)) (bo (dj (cS eB (br (cj K rf) (pv 0) (pv 6)) dh (cM _)) (bo (cv (i:=8) rG.nd rf (.inl rf) (gJ kc (pv 5) (pv 6))) (bY (pV kc (pv 5) (pv 7) (cU (aV (br (cj K rf) (pv 8) ba) (aV (br (cj K rf) (pv 8) ba) (aV (br (cj K rf) (pv 8) ba) aZ)))) rf))) dz) (bY (dj (cS (QL K rf) (br (cj K rf) (pv 0) (pv 6)) (cU (aV dh (aV dh aZ))) rf) (bo (cv (i:=9) rG.nd rf (.inl rf) (cK GP nC rf mP kP bP .nil cL (aV (br (cj K rf) (pv 0) (pv 6)) (aV (gJ kc (pv 5) (pv 6)) (aV (gJ kc (pv 1) (pv 7)) aZ))))) (bo (pV kc (pv 5) (pv 7) (br (cj K rf) (pv 9) ba) rf) (bY (pV kc (pv 5) (gJ kc (pv 2) (pv 7)) (br (cj K rf) (pv 9) ba) rf)))) dz))))) (bY (cC (pv 5)))))))),?_⟩;have z2:2<=sizeLine:=by decide
  have z3:3<=sizeLine:=by decide
  have zz:=i5;obtain⟨lw1,lw2⟩:=Drw.ij hd;obtain⟨b1,b2,b3,b4⟩:=U2;refine⟨_,rf,λaU s1 I=>UH GM FM bM (Drw.qi hd) (by lia) hw λsz kS H1 s1 gS U5 hvS=>?_⟩;refine⟨_,rf,p,aw,d,rf,hd,qj,by lia,s1.bc hw,λbe kB H2 s2 gB hB=>?_⟩;have U6:∀{G:Hp},dF H1 G->∀e∈nB d,∃a,da kS (Sum.inl (e.pl:Int))=some (.ref a)/\bq K G a [.int (e.d.bh:Int),.int (e.d.bf:Int),.int (ck e.d:Int)]:=λ{G} sG e he=>by
   obtain⟨⟨r',pT⟩,e2⟩:=BQ he;obtain⟨x,hx⟩:=LN e.d;rw[hx]at e2;obtain⟨v,hv,hU⟩:=hvS e.pl x e2;obtain⟨a,rfl,ha⟩:=hU _ _ pT;exact⟨a,hv,sG.bc ha⟩
  have hE0:∀e∈nB d,da kB (Sum.inl (e.pl:Int))=some (.int ((e.pl+e.d.aX.length:Nat):Int)):=λe he=>by
   obtain⟨⟨r',pT⟩,e2⟩:=BQ he;obtain⟨x,hx⟩:=LN e.d;rw[hx]at e2;obtain⟨v,hv,hU⟩:=hB.2 e.pl x e2;rw[hU _ _ pT]at hv;exact hv
  obtain⟨a0,Mo,B2⟩:=U6 s2.tup ⟨0,d,_,_,_⟩ (xr ..);have Mo:da kS (Sum.inl 0)=some (.ref a0):=Mo;have B2:bq K H2 a0 [.int (d.bh:Int),.int (d.bf:Int),.int (ck d:Int)]:=B2;have U7:=s2 _ _ gS;have Mp:eI H2 sz (.int 0) (some (.ref a0)):=by have:=eI.k (k:=Sum.inl 0) U7;rw[Mo]at this;exact this
  refine⟨_,rf,sz,_,rf,Mp,a0,_,0,_,rf,rf,B2,bX (j:=0) rf,?_⟩;refine⟨_,rf,_,rf,sz,_,rf,Mp,a0,_,1,_,rf,rf,B2,bX (j:=1) rf,_,_,rf,rf,?_⟩;intro ly vy;refine⟨_,rf,_,rf,λr1 iw=>⟨r1,_,_,rf,bb,⟨by lia,by lia,by lia,by lia⟩,by lia,λt1 iq=>?_⟩⟩;rw[Ma (i:=0) (j:=(d.bh:Int)) (a:=0) (n:=d.bh) rfl (by lia)];refine⟨_,rf,_,rf,_,_,rf,λr2 nC=>⟨r2,_,_,rf,bb,⟨by lia,by lia,by lia,by lia⟩,by lia,λt2 pj=>?_⟩⟩;rw[Ma (i:=(d.bh:Int)) (j:=(d.bh:Int)+(d.bf:Int)) (a:=d.bh) (n:=d.bf) rfl rfl];refine⟨_,rf,z3,λt3 vA=>?_⟩;have sA:aW (upd H2 ly (.dK [])) _:=((((aW.upd iw).trans (.upd iq)).trans (.upd nC)).trans (.upd pj)).trans (aW.upd (o:=.tup [.ref t1,.ref t2,.int ((d.bh:Int)+(d.bf:Int))]) vA);have xv:lG K _ t3 (List.range' 0 d.bh) (List.range' d.bh d.bf) (d.bh+d.bf):=⟨t1,t2,by rw[uA];exact .of (bb (H:=_) (a:=t3)),((((aW.upd nC).trans (.upd pj)).trans (.upd vA))).bc (.of bb),(aW.upd vA).bc (.of bb)⟩;refine⟨sA _ _ bb,[(Sum.inl 0,.ref t3)],rf,by show 1<=15;decide,?_⟩;generalize upd (upd (upd (upd (upd (upd H2 ly (.dK [])) r1 _) t1 _) r2 _) t2 _) t3 _=H3 at sA xv |-;have zF:H ly=none:=i6 (s1.trans s2) vy;have g3:H3 ly=some (.dK []):=sA _ _ bb;have k3:∀b o,H2 b=some o->H3 b=some o:=λb o e=>sA _ _ (by rw[bR (fj e vy)];exact e);have gZ:aW H (upd H3 ly (.dK (iF [] [(Sum.inl 0,.ref t3)]))):=aW.put (λb o e=>k3 b o ((s1.trans s2) b o e)) zF;have k4:∀b o,H2 b=some o->(upd H3 ly (.dK (iF [] [(Sum.inl 0,.ref t3)]))) b=some o:=λb o e=>by rw[bR (fj e vy)];exact k3 b o e
  have U8:dF H1 (upd H3 ly (.dK (iF [] [(Sum.inl 0,.ref t3)]))):=λb o e _=>k4 b o (s2 b o e);have U9:lG K (upd H3 ly (.dK (iF [] [(Sum.inl 0,.ref t3)]))) t3 (List.range' 0 d.bh) (List.range' d.bh d.bf) (d.bh+d.bf):=xv.tup (dF.uU g3);have g4:(upd H3 ly (.dK (iF [] [(Sum.inl 0,.ref t3)]))) ly=some (.dK [(Sum.inl 0,.ref t3)]):=bb;have Mq:=k4 _ _ U7;have Va:=k4 _ _ gB;generalize upd H3 ly (.dK (iF [] [(Sum.inl 0,.ref t3)]))=H4 at gZ U8 U9 g4 Mq Va |-;clear k4 k3 g3 sA xv B2 Mp;have hD0:ph K H4 [(Sum.inl 0,.ref t3)] (Mm d 0):=⟨λk hk=>⟨⟨0,d,_,_,_⟩,cQ,cA.mp hk⟩,λe he=>by
   have he:e=_:=cA.mp he;rw[he];exact⟨t3,rf,U9⟩⟩
  refine⟨_,rf,sz,kS,(jQ d.aX d.aX.length).map (λn:Nat=>(n:Int)),rf,.inl Mq,by rw[U5,mn];rfl,?_,λFz lF rF Fy aes=>?_⟩
  ·have:=aj List.length U5
   rw[bu,bu]at this
   have:=EA d.aX d.aX.length
   lia
  have e':=adR Fy aes;subst e';have root:tS p (d.bh+d.bf+ck d) ⟨0,d,List.range' 0 d.bh,List.range' d.bh d.bf,d.bh+d.bf⟩:=⟨hd,qj,nJ,nJ,cn _,λn hn=>by
   have:=(zZ.mp hn).2
   lia,λn hn=>by
   have:=(zZ.mp hn).2
   lia⟩
  have uT:(nB d).length<=63:=by
   have h1:=aj List.length (rE d (List.range' 0 d.bh) (List.range' d.bh d.bf) (d.bh+d.bf) 0);have h2:=aj List.length (Ux d.aX);have h3:=EA d.aX d.aX.length;rw[bu]at h1;rw[Aa]at h2;lia
  refine⟨Fz,rf,⟨_,.of bb⟩,so (xs:=((ir 0 d.aX).map λn:Nat=>(n:Int)).map V.int) (λj σ H'=>∃s6 s7 s8 s9 kvs,σ=[some (.ref aw),some (.ref sz),some (.ref be),some (.int (d.bh:Int)),some (.int ((d.bh:Int)+(d.bf:Int))),some (.ref ly),s6,s7,s8,s9]/\aW H H'/\dF H1 H'/\H' sz=some (.dK kS)/\H' be=some (.dK kB)/\H' ly=some (.dK kvs)/\H' Fz=some (.lst (((ir 0 d.aX).map λn:Nat=>(n:Int)).map V.int))/\kvs.length<=1+2*j/\ph K H' kvs (Mm d j)) ⟨none,none,none,none,_,rf,gZ.trans (.upd rF),U8.trans (aW.upd rF).tup,(aW.upd rF) _ _ Mq,(aW.upd rF) _ _ Va,(aW.upd rF) _ _ g4,bb,by show 1<=1+2*0;decide,hD0.tup (aW.upd rF).tup⟩ (λi σ H' _ ⟨_,_,_,_,_,_,_,_,_,_,_,g,_⟩=>.of g) ?_ ?_⟩
  ·rintro j x σ H' hx ⟨s6,s7,s8,s9,kvs,rfl,sm,tp,B3,xn,xw,FD,hk,hL⟩;rw[dG,dG,<- rE d (List.range' 0 d.bh) (List.range' d.bh d.bf) (d.bh+d.bf) 0,dG]at hx;cases he:(nB d)[j]? with
   |none=>rw[he]at hx;cases hx
   |some e=>
    rw[he]at hx;cases hx;have jl:j<63:=by have:=(dC.mp he).1;lia
    have Mr:e∈nB d:=dP he;obtain⟨ea,hev,Vb⟩:=hL.at_ e (vq _ _ _ _ _ j e he);obtain⟨_,mi⟩:=BQ Mr;have ok:=LO root Mr;have Ms:=λx=>aen (x:=x) he;have Mt:∀x∈Mm d j,x∈nB d:=λx hx=>Uv hx;have Mu:=λx hx=>xt _ _ _ _ _ e x Mr hx;have inj:∀x∈nB d,∀y∈nB d,y.pl=x.pl->y=x:=λx hx y hy h=>LJ hy hx h;clear he;have tT:=sm.bc hw;have Vc:∀{G:Hp},G ly=some (.dK kvs)->eI G ly (.int (e.pl:Int)) (some (.ref ea)):=λg=>by have:=eI.k (k:=Sum.inl (e.pl:Int)) g;rw[hev]at this;exact this
    have Mv:sz≠ly:=λz=>by rw[z]at gS;exact absurd ((s2 _ _ gS).symm.trans vy) (λz=>nomatch z)
    have Mw:be≠ly:=λz=>by rw[z]at gB;exact absurd (gB.symm.trans vy) (λz=>nomatch z)
    have Mx:Fz≠ly:=λz=>by rw[z,g4]at rF;cases rF
    have ek:((e.pl+1:Nat):Int)=(e.pl:Int)+1:=by lia
    refine⟨_,rf,_,_,rf,rf,?_⟩;rcases En.cases (K:=K) ok (by lia)with⟨y,hy,nb,vz,B4⟩|⟨b,hb⟩|⟨y,xa,xb,hy,nb,vz,B4,pa,pb,hP⟩
    ·rw[hy]at mi;refine⟨_,rf,_,rf,aw,_,(e.pl:Int),_,rf,rf,tT,bX mi,rf,_,rf,tJ nb ?_⟩;refine⟨_,rf,_,rf,aw,_,(e.pl:Int),_,rf,rf,tT,bX mi,z2,λtt xx=>⟨tt,oB,rf,.inr (.of bb),rf,rf,_,rf,Kz vz ?_⟩⟩;have sT:=aW.upd (o:=.tup oB) xx;exact⟨_,_,_,_,kvs,rf,sm.trans sT,tp.trans sT.tup,sT _ _ B3,sT _ _ xn,sT _ _ xw,sT _ _ FD,by lia,(hL.tup sT.tup).iff λx=>(Ms x).trans (by simp[B4])⟩
    ·obtain⟨pl,ed,eL,eR,es⟩:=e;have hb:ed=.back b:=hb;subst hb;obtain⟨la,ra,h1,h2,h3⟩:=id Vb;refine⟨_,rf,_,rf,aw,_,(pl:Int),_,rf,rf,tT,bX mi,rf,_,rf,Ky ?_⟩;refine⟨_,rf,_,rf,ly,.ref ea,rf,Vc xw,?_⟩;refine⟨_,rf,ea,_,1,.ref ra,rf,rf,h1,bX (j:=1) rf,_,rf,ea,_,0,.ref la,rf,rf,h1,bX (j:=0) rf,_,rf,ea,_,2,.int (es:Int),rf,rf,h1,bX (j:=2) rf,z3,λu hu=>?_⟩;have sU:=aW.upd (o:=.tup [.ref ra,.ref la,.int (es:Int)]) hu;have xk:=sU _ _ xw;refine⟨_,rf,_,rf,ly,_,rf,l6.k (k:=Sum.inl ((pl:Int)+1)) xk (by lia),?_⟩;have Vd:(⟨pl+1,b,eR,eL,es⟩:En)∈nB d:=Mu _ cQ;have D:=((hL.tup sU.tup).put (x:=⟨pl+1,b,eR,eL,es⟩) (a:=u) Mt Vd (inj _ Vd) ⟨ra,la,.of bb,sU.bc h3,sU.bc h2⟩);dsimp only at D ek;rw[ek]at D;have sV:=yN kvs (Sum.inl ((pl:Int)+1)) (V.ref u);generalize eS kvs (Sum.inl ((pl:Int)+1)) (.ref u)=oC at D sV |-;have tD:=dF.uU (o:=.dK oC) xk;have gK:=(sm.trans sU).put (o:=.dK oC) zF;refine⟨_,rf,_,rf,aw,_,(pl:Int),_,rf,rf,gK.bc hw,bX mi,z2,λtt xx=>⟨tt,oB,rf,.inr (.of bb),rf,rf,_,rf,Kz b2 ?_⟩⟩;have sT:=aW.upd (o:=.tup oB) xx;refine⟨_,_,_,_,_,rf,gK.trans sT,((tp.trans sU.tup).trans tD).trans sT.tup,sT _ _ (by rw[bR Mv];exact sU _ _ B3),sT _ _ (by rw[bR Mw];exact sU _ _ xn),sT _ _ bb,sT _ _ (by rw[bR Mx];exact sU _ _ FD),by lia,((D.tup tD).tup sT.tup).iff λx=>(Ms x).trans (by simp[En.kids])⟩
    ·rw[hy]at mi;have B5:=Mu xa (by rw[B4];exact cQ);have Ve:=Mu xb (by rw[B4];exact dU _ cQ);obtain⟨ka,Vf,aet⟩:=U6 tp _ B5;have Vg:=hE0 _ B5;rw[pa,ek]at Vf;rw[pa,<- pb,ek]at Vg;have dgS:∀{G:Hp},G sz=some (.dK kS)->eI G sz (.int ((e.pl:Int)+1)) (some (.ref ka)):=λg=>by have:=eI.k (k:=Sum.inl ((e.pl:Int)+1)) g;rw[Vf]at this;exact this
     have dgB:∀{G:Hp},G be=some (.dK kB)->eI G be (.int ((e.pl:Int)+1)) (some (.int (xb.pl:Int))):=λg=>by have:=eI.k (k:=Sum.inl ((e.pl:Int)+1)) g;rw[Vg]at this;exact this
     refine⟨_,rf,_,rf,aw,_,(e.pl:Int),_,rf,rf,tT,bX mi,rf,_,rf,tJ nb ?_⟩;refine⟨_,rf,_,rf,aw,_,(e.pl:Int),_,rf,rf,tT,bX mi,z2,λtt xx=>⟨tt,oB,rf,.inr (.of bb),rf,rf,_,rf,aep vz ?_⟩⟩;have sT:=aW.upd (o:=.tup oB) xx;refine⟨_,rf,_,rf,aw,_,(e.pl:Int),_,rf,rf,sT.bc tT,bX mi,_,rf,_,rf,ly,.ref ea,rf,Vc (sT _ _ xw),_,rf,_,rf,sz,.ref ka,rf,dgS (sT _ _ B3),hP (Vb.mono sT) (sT.bc aet) λt u v G sG ht hu hv=>?_⟩;have xy:=sT.trans sG;have Vh:=xy _ _ xw;refine⟨_,rf,t,_,0,_,rf,rf,ht,bX (j:=0) rf,_,rf,_,rf,ly,_,rf,l6.k (k:=Sum.inl ((e.pl:Int)+1)) Vh (by lia),?_⟩;have D:=(hL.tup xy.tup).put (x:=xa) (a:=u) Mt B5 (inj _ B5) hu;rw[pa,ek]at D;have sV:=yN kvs (Sum.inl ((e.pl:Int)+1)) (V.ref u);generalize eS kvs (Sum.inl ((e.pl:Int)+1)) (.ref u)=oC at D sV |-;have tD:=dF.uU (o:=.dK oC) Vh;have D:=D.tup tD;have hv:=hv.tup tD;have ht:=tD.bc ht;have gK:=(sm.trans xy).put (o:=.dK oC) zF;have Vi:=(tp.trans xy.tup).trans tD;have Vj:(upd G ly (.dK oC)) sz=some (.dK kS):=by rw[bR Mv];exact xy _ _ B3
     have My:(upd G ly (.dK oC)) be=some (.dK kB):=by rw[bR Mw];exact xy _ _ xn
     have Vk:(upd G ly (.dK oC)) Fz=some (.lst (((ir 0 d.aX).map λn:Nat=>(n:Int)).map V.int)):=by rw[bR Mx];exact xy _ _ FD
     have FE:(upd G ly (.dK oC)) ly=some (.dK oC):=bb;generalize upd G ly (.dK oC)=G2 at D hv ht gK Vi Vj My Vk FE |-;refine⟨_,rf,t,_,1,_,rf,rf,ht,bX (j:=1) rf,_,rf,_,rf,_,rf,be,_,rf,dgB My,ly,_,rf,l6.k (k:=Sum.inl (xb.pl:Int)) FE (by lia),?_⟩;have D:=(D.put (x:=xb) (a:=v) (λe he=>(cN.mp he).elim (Mt e) λz=>by rw[cA.mp z];exact B5) Ve (inj _ Ve) hv).tup (dF.uU (o:=.dK (eS oC (Sum.inl (xb.pl:Int)) (.ref v))) FE);exact⟨_,_,_,_,_,rf,gK.put zF,Vi.trans (dF.uU FE),by rw[bR Mv];exact Vj,by rw[bR Mw];exact My,bb,by rw[bR Mx];exact Vk,by have:=yN oC (Sum.inl (xb.pl:Int)) (V.ref v);lia,D.iff λx=>(Ms x).trans (by simp[B4,or_assoc])⟩
  ·rintro σ H' ⟨s6,s7,s8,s9,kvs,rfl,sm,tp,B3,xn,xw,FD,hk,hL⟩;rw[bu,bu,<- rE d (List.range' 0 d.bh) (List.range' d.bh d.bf) (d.bh+d.bf) 0,bu]at hk hL;refine⟨_,rf,q ly kvs H' sm zF xw (by lia) (hL.iff λx=>⟨λhx=>?_,λhx=>Uv hx⟩)⟩;obtain⟨j,hj⟩:=nK.mp hx;rcases cV.mp (vq _ _ _ _ _ j x hj)with z|z
   ·rw[z];exact cQ
   ·obtain⟨y,hy,h2⟩:=List.mem_flatMap.mp z;exact dU _ (List.mem_flatMap.mpr ⟨y,by rw[iU];exact pB hy,h2⟩)
theorem FF:(["place","number","rows"]:List Str).Nodup:=by decide +kernel
theorem Vl:(["other","place"]:List Str).Nodup:=by decide +kernel
def Mz(K:Frag):Sp:=λvs H Q _=>∃(p:Int)(a b':Addr)(b:Bool)(XS:List V)(rs:LL)(r:List Int)(n:Nat),vs=[.int p,.ref a,.ref b']/\p∈ig/\Sq b K H a XS/\cW K H XS (rs.map gY)/\fY p n rs/\rs.length<=900/\n<=900/\bq K H b' (r.map V.int)/\Rw p n r/\
 ((∀H',aW H H'->(∀f:Fn,¬ ∀j,j<n->p∣dot f (fn (rs.map λq=>q.getD j 0)) rs.length-r.getD j 0)->Q .df H')/\
   ∀t fs H',aW H H'->bq K H' t (List.map V.int fs)->Rw p rs.length fs->(∀j,j<n->p∣dot (fn fs) (fn (rs.map λq=>q.getD j 0)) rs.length-r.getD j 0)->Q (.ref t) H')
noncomputable abbrev nF:List Str:=["p","rows","row","count","place","asked","factors","known"]
theorem qk:dy ["p","rows","row","count","place","asked","factors","known"] ["p","rows","row"] (cu Bm):=dI rfl rfl rfl (by decide +kernel) rfl
theorem Vm{fD fF:Addr}{iI nj:FuncData}(F:cJ K "factors_of" "factors_of" Bm f fd)(T:Txt mg)
  (GD:cc P w K mg base cb 3 fD iI ["p","rows"] (RT K)) (kD:Kp K fD) (bD:Binds K iI ["p","rows"] []) (mD:Mg mg "reduced" fD)
  (GF:cc P w K mg base cb 1 fF nj ["row"] (R8 K)) (kF:Kp K fF) (bF:Binds K nj ["row"] []) (mF:Mg mg "first_place" fF) :
  cc P w K mg base cb 4 f fd ["p","rows","row"] (Mz K):=by
 refine F.ok qk (λvs H Q E h=>?_) (λcz A outer s H vs Q E hr h=>?_)
 ·obtain⟨p,a,b',b,XS,rs,r,n,rfl,_⟩:=h;rfl
 ·obtain⟨p,a,b',b,XS,rs,r,n,rfl,pp,hq,hA,hR,hz,hn,ic,zG,k⟩:=h;obtain⟨p2,dX⟩:=jf p pp;have p0:0<p:=by lia
  have iw:eO 1 _:=hr.mono (by decide);have MD:=Es;cases b with
  |true=>
   refine⟨_,bo (cv (i:=3) qk.nd rf (.inl rf) (eX (iM K rf) rf T.len iN (aV (pv 1) aZ))) (bo (wA (i:=5) (N:=["place","number","rows"]) (own:=2) (caps:=[1]) rf qk.nd rf rf (D0 K rf false rf T.enumerate (aV (pv 2) aZ)) (show e8 nF (cu Bm) ["place","number","rows"] 2 [1] _ from .mk' (by decide +kernel)) (λ_ _ _ _ _=>nZ (n:=2) K rf rf (eZ (cH (i:=0) FF rf (Or.inr rf)) (eZ (cH (i:=1) FF rf (.inl rf)) ko))) (λ_ _ _ _ _=>jz) (λ_ _ _ _ _=>bQ (eN K rf) (e9 (nc K rf) rf T.tuple j7 (aV (je (N:=["other","place"]) (own:=1) (caps:=[0]) rf (jo K rf (pv 2)) (show e8 ["place","number","rows"] _ ["other","place"] 1 [0] _ from .mk' (by kernel_rfl)) (λ_ _ _ _ _=>cH (i:=0) Vl rf (.inl rf)) (λ_ _ _ _ _=>jz) (λ_ _ _ _ _=>br (cj K rf) (pv 0) (pv 1))) aZ)) (cU (aV (pv 1) aZ)))) (bo (cv (i:=6) qk.nd rf (.inl rf) (bQ Pz (gT (aV ba aZ)) (pv 3))) (bo (jd jw rf (AU K rf (cK GD hr rf mD kD bD .nil cL (aV (pv 0) (aV (pv 5) aZ)))) (cH (i:=7) qk.nd rf (.inl rf)) (bo (cv (i:=4) qk.nd rf (.inl rf) (cK GF iw rf mF kF bF .nil cL (aV (pv 7) aZ))) (bo (dj (cS eB (pv 4) (pv 3) (cM _)) (bY (cC Dh)) dz) (bY (my (br (cj K rf) (pv 7) (pv 3)) (x4 (pv 6) (pv 4) yf)))))) (bY (cC (e9 (nc K rf) rf T.tuple j7 (aV (pv 6) aZ))))))),?_⟩
   have cB:=kR hA;refine⟨_,rf,a,XS,rf,.inl hq,?_⟩;rw[cB];have ex:(r.map V.int).length=n:=by rw[bu,zG.1]
   refine⟨_,rf,b',rf,⟨_,ic⟩,IW (b:=false) (cp:=[some (.ref a)]) (λi H' zs=>cW K H' zs (((List.range i).map (kK rs r)).map gY)) ic (by rw[ex];lia) .nil (λi H' zs h=>by rw[kR h,bu,r6];exact cn _) (λi H1 H2 zs e h=>h.mono e) ?_ ?_⟩
   ·rintro i x H1 zs hx sm h;have hi:i<n:=by rw[<- ex];exact(dC.mp hx).1
    have gW:x=.int (r.getD i 0):=by
     rw[pY (by rw[zG.1];exact hi)]at hx;exact(dq hx).symm
    subst gW;refine l4 ⟨_,rf,a,rf,⟨_,(aW.sq (b:=true)) sm hq⟩,uS (cp:=[some (.int (i:Int))]) (λj H' zs=>zs=((rs.take j).map λq=>q.getD i 0).map V.int) ((aW.sq (b:=true)) sm hq) (by lia) rf (λj H' zs e=>by rw[e,bu,bu,gy];lia) ?_ ?_⟩
    ·rintro j y H2 yz hy gK rfl;obtain⟨q,qa,B6,rfl,tU⟩:=uW hA hy;have ME:i<q.length:=by rw[(hR q (dP B6)).1];exact hi
     refine l4 ⟨_,rf,_,rf,qa,_,(i:Int),_,rf,rf,(sm.trans gK).bc tU,bX (pY ME),⟨[_],rf,rf⟩,gK,?_⟩;rw[gO,B6];simp
    rintro H2 yz gK rfl lq tV;rw[cB,iU];refine⟨lq,_,rf,.inl ⟨.of bb,λlt cE=>?_⟩⟩;refine⟨_,rf,(by show 1<=sizeLine;lia),λl1 h1=>⟨lt,l1,((rs.map λq=>q.getD i 0).map V.int),[.int (r.getD i 0)],rfl,rfl,(aW.upd h1).bc (.of bb),.of bb,?_,λt H3 gZ ht=>?_⟩⟩
    ·rw[bu,bu];show rs.length+1<=sizeLine;lia
    have de:=((gK.trans (aW.upd tV)).trans (aW.upd cE)).trans ((aW.upd h1).trans gZ);refine⟨⟨[_,_],rf,rf⟩,sm.trans de,?_⟩;rw[r9,du,du];refine(h.mono de).append (.cons (sP ?_) .nil);show bq K H3 t ((rs.map (λq=>q.getD i 0)++[r.getD i 0]).map V.int);rw[du];exact ht
   rintro H1 AS o6 B7 la wN;rw[ex]at B7;have gK:aW H (upd H1 la (.lst AS)):=o6.trans (.upd wN);have g2:(upd H1 la (.lst AS)) la=some (.lst AS):=bb;have B8:=B7.mono (aW.upd wN (o:=.lst AS));generalize upd H1 la (.lst AS)=H2 at gK g2 B8 |-;have B9:fY p (rs.length+1) ((List.range n).map (kK rs r)):=λx hx=>by
    obtain⟨j,hj,rfl⟩:=dD.mp hx;exact Rl p0 hR zG
   refine⟨by decide,λl1 h1=>⟨_,rf,l1,(rs.length:Int),_,rf,rf,bb,by lia,by lia,(by show 1*((rs.length:Nat):Int).toNat<=sizeLine;lia),λlf vB=>?_⟩⟩;have e0:(List.replicate ((rs.length:Nat):Int).toNat [V.int 0]).flatten=(List.replicate rs.length (0:Int)).map V.int:=by rw[CU,J9,List.map_replicate]
   rw[e0];have gZ:aW H2 (upd (upd H2 l1 (.lst [.int 0])) lf (.lst ((List.replicate rs.length (0:Int)).map V.int))):=(aW.upd h1).trans (.upd vB);have g3:(upd (upd H2 l1 (.lst [.int 0])) lf (.lst ((List.replicate rs.length (0:Int)).map V.int))) lf=some (.lst ((List.replicate rs.length (0:Int)).map V.int)):=bb;have n3:H2 lf=none:=i6 (aW.upd h1) vB;generalize upd (upd H2 l1 (.lst [.int 0])) lf (.lst ((List.replicate rs.length (0:Int)).map V.int))=H3 at gZ g3 |-;refine⟨_,rf,_,rf,p,la,true,AS,_,rs.length+1,rf,pp,.of (gZ _ _ g2),B8.mono gZ,by rw[bu,r6];lia,by lia,B9,λt H4 DS j9 ht hD=>?_⟩;have RO:=A0 pp B9;obtain⟨ls,EC⟩:=RO.yH;generalize ng p ((List.range n).map (kK rs r))=D at RO EC hD;have eD:=kR hD;refine⟨t,rf,⟨_,ht⟩,HM (xs:=DS) (λi σ H'=>aW H2 H'/\bq K H' t DS/\cW K H' DS (D.map gY)/\∃s4 s7 fs,σ=[some (.int p),some (.ref a),some (.ref b'),some (.int (rs.length:Int)),s4,some (.ref la),some (.ref lf),s7]/\H' lf=some (.lst (List.map V.int fs))/\FI p rs.length D ls i fs) ⟨gZ.trans j9,ht,hD,_,_,List.replicate rs.length 0,rf,j9 _ _ g3,FI.start p0⟩ (λi σ H' _ h=>h.2.1) ?_ ?_⟩
   ·rintro i x σ H5 hx ⟨ik,Ca,xA,s4,s7,fs,rfl,g5,hF⟩;obtain⟨q,qa,ju,rfl,tU⟩:=uW xA hx;have tW:=RO.rws q (dP ju);have qV:i<ls.length:=by rw[EC.len];exact(dC.mp ju).1
    have oY:ls[i]?=some ls[i]:=cP qV;have Cb:=EC.lt _ (dP oY);obtain⟨o1,o0⟩:=EC.one i q _ ju oY;generalize ls[i]=l at oY Cb o1 o0;obtain⟨tl,kq⟩:=Rc tW.1 Cb o1 o0;refine⟨_,rf,qa,q,l,tl,rf,tU,by rw[tW.1];lia,kq,λH6 iy=>?_⟩;refine⟨_,rf,_,rf,rf,_,rf,uK (λhe=>?_) (λcZ=>?_)⟩
    ·have hl:l=rs.length:=by
      have:=V.int.inj (aL he)
      lia
     rw[hl]at o1 o0;refine k.1 H6 ((gK.trans ik).trans iy) λf h=>Ri pp RO (dP ju) o1 o0 f λx hx=>?_;obtain⟨j,hj,rfl⟩:=dD.mp hx;rw[Ea,D9];exact h j (mj.mp hj)
    ·have nh:l<rs.length:=by
      have:l≠rs.length:=λz=>cZ (aD (by rw[z]))
      lia
     refine⟨_,rf,_,rf,qa,_,(rs.length:Int),_,rf,rf,iy.bc tU,bX (pY (by rw[tW.1];lia)),_,rfl,_,rfl,lf,_,(l:Int),l,rfl,rfl,iy _ _ g5,?_,?_⟩
     ·unfold oQ;rw[af (by lia),af (by rw[bu,hF.rw.1];lia)];simp
     ·refine⟨(ik.trans iy).write n3,bq.wr (iy.bc Ca) (iy _ _ g5),cW.wr (iy _ _ g5) (xA.mono iy),_,_,fs.set l (q.getD rs.length 0),rf,by rw[bb,List.map_set],hF.step p0 EC.up tW oY ju nh⟩
   ·rintro σ H5 ⟨ik,Ca,xA,s4,s7,fs,rfl,g5,hF⟩;refine⟨_,rf,lf,_,rf,.inl ⟨.of g5,λlt cE=>k.2 lt fs _ ((gK.trans ik).trans (.upd cE)) (.of bb) hF.rw λj hj=>?_⟩⟩;rw[eD]at hF;have MF:∀l∈ls,l<rs.length:=λl hl=>by
     obtain⟨i,hi,rfl⟩:=List.mem_iff_getElem.mp hl;exact hF.lt i _ (by rw[<- EC.len];exact hi) (cP hi)
    have:=Rk RO EC MF (kK rs r j) (dD.mpr ⟨j,mj.mpr hj,rfl⟩)
    rw[Ea,D9]at this;have e:dot (fn fs) (fn (rs.map λq=>q.getD j 0)) rs.length=dot (λk=>o5 (jr D ls) k rs.length) (fn (rs.map λq=>q.getD j 0)) rs.length:=pS λk _=>by
     show fs.getD k 0*_=_;rw[hF.done EC.up EC.len k]
    rw[e];exact this
  |false=>
   refine⟨_,bo (cv (i:=3) qk.nd rf (.inl rf) (eX (iM K rf) rf T.len iN (aV (pv 1) aZ))) (bo (wA (i:=5) (N:=["place","number","rows"]) (own:=2) (caps:=[1]) rf qk.nd rf rf (D0 K rf false rf T.enumerate (aV (pv 2) aZ)) (show e8 nF (cu Bm) ["place","number","rows"] 2 [1] _ from .mk' (by decide +kernel)) (λ_ _ _ _ _=>nZ (n:=2) K rf rf (eZ (cH (i:=0) FF rf (Or.inr rf)) (eZ (cH (i:=1) FF rf (.inl rf)) ko))) (λ_ _ _ _ _=>jz) (λ_ _ _ _ _=>bQ (eN K rf) (e9 (nc K rf) rf T.tuple j7 (aV (je (N:=["other","place"]) (own:=1) (caps:=[0]) rf (AU K rf (pv 2)) (show e8 ["place","number","rows"] _ ["other","place"] 1 [0] _ from .mk' (by kernel_rfl)) (λ_ _ _ _ _=>cH (i:=0) Vl rf (.inl rf)) (λ_ _ _ _ _=>jz) (λ_ _ _ _ _=>br (cj K rf) (pv 0) (pv 1))) aZ)) (cU (aV (pv 1) aZ)))) (bo (cv (i:=6) qk.nd rf (.inl rf) (bQ Pz (gT (aV ba aZ)) (pv 3))) (bo (jd jw rf (AU K rf (cK GD hr rf mD kD bD .nil cL (aV (pv 0) (aV (pv 5) aZ)))) (cH (i:=7) qk.nd rf (.inl rf)) (bo (cv (i:=4) qk.nd rf (.inl rf) (cK GF iw rf mF kF bF .nil cL (aV (pv 7) aZ))) (bo (dj (cS eB (pv 4) (pv 3) (cM _)) (bY (cC Dh)) dz) (bY (my (br (cj K rf) (pv 7) (pv 3)) (x4 (pv 6) (pv 4) yf)))))) (bY (cC (e9 (nc K rf) rf T.tuple j7 (aV (pv 6) aZ))))))),?_⟩
   have cB:=kR hA;refine⟨_,rf,a,XS,rf,.inr hq,?_⟩;rw[cB];have ex:(r.map V.int).length=n:=by rw[bu,zG.1]
   refine⟨_,rf,b',rf,⟨_,ic⟩,IW (b:=false) (cp:=[some (.ref a)]) (λi H' zs=>cW K H' zs (((List.range i).map (kK rs r)).map gY)) ic (by rw[ex];lia) .nil (λi H' zs h=>by rw[kR h,bu,r6];exact cn _) (λi H1 H2 zs e h=>h.mono e) ?_ ?_⟩
   ·rintro i x H1 zs hx sm h;have hi:i<n:=by rw[<- ex];exact(dC.mp hx).1
    have gW:x=.int (r.getD i 0):=by
     rw[pY (by rw[zG.1];exact hi)]at hx;exact(dq hx).symm
    subst gW;refine l4 ⟨_,rf,a,rf,⟨_,(aW.sq (b:=false)) sm hq⟩,QH (cp:=[some (.int (i:Int))]) (λj H' zs=>zs=((rs.take j).map λq=>q.getD i 0).map V.int) ((aW.sq (b:=false)) sm hq) (by lia) rf (λj H' zs e=>by rw[e,bu,bu,gy];lia) ?_ ?_⟩
    ·rintro j y H2 yz hy gK rfl;obtain⟨q,qa,B6,rfl,tU⟩:=uW hA hy;have ME:i<q.length:=by rw[(hR q (dP B6)).1];exact hi
     refine l4 ⟨_,rf,_,rf,qa,_,(i:Int),_,rf,rf,(sm.trans gK).bc tU,bX (pY ME),⟨[_],rf,rf⟩,gK,?_⟩;rw[gO,B6];simp
    rintro H2 yz gK rfl lq tV;rw[cB,iU];refine⟨lq,_,rf,.inl ⟨.of bb,λlt cE=>?_⟩⟩;refine⟨_,rf,(by show 1<=sizeLine;lia),λl1 h1=>⟨lt,l1,((rs.map λq=>q.getD i 0).map V.int),[.int (r.getD i 0)],rfl,rfl,(aW.upd h1).bc (.of bb),.of bb,?_,λt H3 gZ ht=>?_⟩⟩
    ·rw[bu,bu];show rs.length+1<=sizeLine;lia
    have de:=((gK.trans (aW.upd tV)).trans (aW.upd cE)).trans ((aW.upd h1).trans gZ);refine⟨⟨[_,_],rf,rf⟩,sm.trans de,?_⟩;rw[r9,du,du];refine(h.mono de).append (.cons (sP ?_) .nil);show bq K H3 t ((rs.map (λq=>q.getD i 0)++[r.getD i 0]).map V.int);rw[du];exact ht
   rintro H1 AS o6 B7 la wN;rw[ex]at B7;have gK:aW H (upd H1 la (.lst AS)):=o6.trans (.upd wN);have g2:(upd H1 la (.lst AS)) la=some (.lst AS):=bb;have B8:=B7.mono (aW.upd wN (o:=.lst AS));generalize upd H1 la (.lst AS)=H2 at gK g2 B8 |-;have B9:fY p (rs.length+1) ((List.range n).map (kK rs r)):=λx hx=>by
    obtain⟨j,hj,rfl⟩:=dD.mp hx;exact Rl p0 hR zG
   refine⟨by decide,λl1 h1=>⟨_,rf,l1,(rs.length:Int),_,rf,rf,bb,by lia,by lia,(by show 1*((rs.length:Nat):Int).toNat<=sizeLine;lia),λlf vB=>?_⟩⟩;have e0:(List.replicate ((rs.length:Nat):Int).toNat [V.int 0]).flatten=(List.replicate rs.length (0:Int)).map V.int:=by rw[CU,J9,List.map_replicate]
   rw[e0];have gZ:aW H2 (upd (upd H2 l1 (.lst [.int 0])) lf (.lst ((List.replicate rs.length (0:Int)).map V.int))):=(aW.upd h1).trans (.upd vB);have g3:(upd (upd H2 l1 (.lst [.int 0])) lf (.lst ((List.replicate rs.length (0:Int)).map V.int))) lf=some (.lst ((List.replicate rs.length (0:Int)).map V.int)):=bb;have n3:H2 lf=none:=i6 (aW.upd h1) vB;generalize upd (upd H2 l1 (.lst [.int 0])) lf (.lst ((List.replicate rs.length (0:Int)).map V.int))=H3 at gZ g3 |-;refine⟨_,rf,_,rf,p,la,true,AS,_,rs.length+1,rf,pp,.of (gZ _ _ g2),B8.mono gZ,by rw[bu,r6];lia,by lia,B9,λt H4 DS j9 ht hD=>?_⟩;have RO:=A0 pp B9;obtain⟨ls,EC⟩:=RO.yH;generalize ng p ((List.range n).map (kK rs r))=D at RO EC hD;have eD:=kR hD;refine⟨t,rf,⟨_,ht⟩,HM (xs:=DS) (λi σ H'=>aW H2 H'/\bq K H' t DS/\cW K H' DS (D.map gY)/\∃s4 s7 fs,σ=[some (.int p),some (.ref a),some (.ref b'),some (.int (rs.length:Int)),s4,some (.ref la),some (.ref lf),s7]/\H' lf=some (.lst (List.map V.int fs))/\FI p rs.length D ls i fs) ⟨gZ.trans j9,ht,hD,_,_,List.replicate rs.length 0,rf,j9 _ _ g3,FI.start p0⟩ (λi σ H' _ h=>h.2.1) ?_ ?_⟩
   ·rintro i x σ H5 hx ⟨ik,Ca,xA,s4,s7,fs,rfl,g5,hF⟩;obtain⟨q,qa,ju,rfl,tU⟩:=uW xA hx;have tW:=RO.rws q (dP ju);have qV:i<ls.length:=by rw[EC.len];exact(dC.mp ju).1
    have oY:ls[i]?=some ls[i]:=cP qV;have Cb:=EC.lt _ (dP oY);obtain⟨o1,o0⟩:=EC.one i q _ ju oY;generalize ls[i]=l at oY Cb o1 o0;obtain⟨tl,kq⟩:=Rc tW.1 Cb o1 o0;refine⟨_,rf,qa,q,l,tl,rf,tU,by rw[tW.1];lia,kq,λH6 iy=>?_⟩;refine⟨_,rf,_,rf,rf,_,rf,uK (λhe=>?_) (λcZ=>?_)⟩
    ·have hl:l=rs.length:=by
      have:=V.int.inj (aL he)
      lia
     rw[hl]at o1 o0;refine k.1 H6 ((gK.trans ik).trans iy) λf h=>Ri pp RO (dP ju) o1 o0 f λx hx=>?_;obtain⟨j,hj,rfl⟩:=dD.mp hx;rw[Ea,D9];exact h j (mj.mp hj)
    ·have nh:l<rs.length:=by
      have:l≠rs.length:=λz=>cZ (aD (by rw[z]))
      lia
     refine⟨_,rf,_,rf,qa,_,(rs.length:Int),_,rf,rf,iy.bc tU,bX (pY (by rw[tW.1];lia)),_,rfl,_,rfl,lf,_,(l:Int),l,rfl,rfl,iy _ _ g5,?_,?_⟩
     ·unfold oQ;rw[af (by lia),af (by rw[bu,hF.rw.1];lia)];simp
     ·refine⟨(ik.trans iy).write n3,bq.wr (iy.bc Ca) (iy _ _ g5),cW.wr (iy _ _ g5) (xA.mono iy),_,_,fs.set l (q.getD rs.length 0),rf,by rw[bb,List.map_set],hF.step p0 EC.up tW oY ju nh⟩
   ·rintro σ H5 ⟨ik,Ca,xA,s4,s7,fs,rfl,g5,hF⟩;refine⟨_,rf,lf,_,rf,.inl ⟨.of g5,λlt cE=>k.2 lt fs _ ((gK.trans ik).trans (.upd cE)) (.of bb) hF.rw λj hj=>?_⟩⟩;rw[eD]at hF;have MF:∀l∈ls,l<rs.length:=λl hl=>by
     obtain⟨i,hi,rfl⟩:=List.mem_iff_getElem.mp hl;exact hF.lt i _ (by rw[<- EC.len];exact hi) (cP hi)
    have:=Rk RO EC MF (kK rs r j) (dD.mpr ⟨j,mj.mpr hj,rfl⟩)
    rw[Ea,D9]at this;have e:dot (fn fs) (fn (rs.map λq=>q.getD j 0)) rs.length=dot (λk=>o5 (jr D ls) k rs.length) (fn (rs.map λq=>q.getD j 0)) rs.length:=pS λk _=>by
     show fs.getD k 0*_=_;rw[hF.done EC.up EC.len k]
    rw[e];exact this
inductive MG(K:Frag)(p:Int)(x:Str)(ps:List V)(H:Hp)(Q:VK):Prop where
 |times (n:Int) (hx:x="times") (hp:ps=[.int n]) (q:∀v H',aW H H'->Ss K H' v 1 1 [[1,n]]->Q (.ref v) H'):MG K p x ps H Q
 |box (l r:Nat) (aY:LL) (hx:(x,l,r,aY)∈ip) (q:∀v H',aW H H'->Ss K H' v l r aY->Q (.ref v) H'):MG K p x ps H Q
def Vn(K:Frag):Sp:=λvs H Q _=>∃(p:Int)(x:Str)(pa:Addr)(ps:List V),vs=[.int p,.str x,.ref pa]/\bq K H pa ps/\MG K p x ps H Q
theorem Vo{aB fW:Addr}{Cc:FuncData}(F:cJ K "form" "form" JJ f fd)(B:tI K mg aS aB)
  (GW:cc P w K mg base cb 5 fW Cc ["words"] (So K)) (kW:Kp K fW) (bW:Binds K Cc ["words"] []) (mW:Mg mg "wires" fW):cc P w K mg base cb 6 f fd ["p","word","parts"] (Vn K):=by
 refine F.ok acB (λvs H Q E h=>?_) (λcz A outer s H vs Q E hr h=>?_)
 ·obtain⟨p,x,pa,ps,rfl,_⟩:=h;rfl
 ·obtain⟨p,x,pa,ps,rfl,EE,D⟩:=h;refine⟨_,bo (dj (cS eB (pv 1) dh (cM _)) Dj dz) (bo (dj (cS eB (pv 1) dh (cM _)) Dj dz) (bo (dj (cS eB (pv 1) dh (cM _)) Dj dz) (bo (dj (cS eB (pv 1) dh (cM _)) (bY (cC (cU (aV ba (aV ba (aV (cU (aV (cU (aV ba (aV (br (cj K rf) (pv 2) ba) aZ) KA)) aZ Sv)) aZ Sv) KA) KA)))) dz) (bY (cC (bQ (eN K rf) (cK GW hr rf mW kW bW .nil cL (aV (cU (aV (pv 1) aZ)) aZ)) (cU (aV (Jy B.acv (pJ (v:=.ref _) rf B.nmB rf) (pv 1) (λ_ _=>rf)) aZ)))))))),?_⟩;cases D with
  |times n hx hp q=>
   subst hx hp;refine⟨_,rf,rf,_,rf,tJ ts1 ⟨_,rf,rf,_,rf,tJ ts2 ⟨_,rf,rf,_,rf,tJ ts3 ⟨_,rf,rf,_,rf,Ky ?_⟩⟩⟩⟩;refine⟨_,rf,pa,_,0,_,rf,rf,EE,bX (j:=0) rf,(by show 2<=sizeLine;decide),λt1 g1=>⟨(by show 1<=sizeLine;decide),λt2 g2=>⟨(by show 3<=sizeLine;decide),λt3 g3=>?_⟩⟩⟩;exact q t3 _ ((aW.upd g1).trans ((aW.upd g2).trans (.upd g3))) ⟨t2,[.ref t1],.of bb,(aW.upd g3).bc (.of bb),.cons (sP (r:=[1,n]) ((aW.upd g3).bc ((aW.upd g2).bc (.of bb)))) .nil⟩
  |box l r aY hx q=>
   obtain⟨n1,n2,n3,n4⟩:=Su _ hx;refine⟨_,rf,rf,_,rf,tJ n1 ⟨_,rf,rf,_,rf,tJ n2 ⟨_,rf,rf,_,rf,tJ n3 ⟨_,rf,rf,_,rf,tJ n4 ?_⟩⟩⟩⟩;obtain⟨_,t,e,ht⟩:=B.at_ hx;refine⟨_,rf,(by show 1<=sizeLine;decide),λt1 g1=>⟨t1,x,l,r,aY,rfl,.of bb,hx,λv H1 s1 hv=>?_⟩⟩;refine⟨_,rf,x,_,rf,rf,e,(by show 1<=sizeLine;decide),λt2 g2=>⟨v,t2,_,_,rfl,rfl,(aW.upd g2).bc hv,.of bb,(by show 2+1<=sizeLine;decide),λt3 H3 s3 vA=>?_⟩⟩;obtain⟨RS,k1,k2⟩:=ht H3;exact q t3 H3 ((aW.upd g1).trans (s1.trans ((aW.upd g2).trans s3))) ⟨t,RS,vA,k1,k2⟩
def MH(p:Int)(n:Nat)(rs:LL)(r:List Int):Prop:=∃f:Fn,∀j,j<n->p∣dot f (fn (rs.map λq=>q.getD j 0)) rs.length-r.getD j 0
inductive FG(ws:List V)(i:Nat):Nat->Nat->LL->Prop where
 |times (n:Int) (h:ws[i]?=some (.str "times")) (h':ws[i+1]?=some (.int n)):FG ws i 1 1 [[1,n]]
 |box (x:Str) (l r:Nat) (aY:LL) (h:ws[i]?=some (.str x)) (hx:(x,l,r,aY)∈ip):FG ws i l r aY
def Vp(K:Frag):Sp:=λvs H Q _=>∃(p:Int)(aw:Addr)(i:Nat)(ra:Addr)(ws:List V)(l r:Nat)(aY:LL)(y:List Int),vs=[.int p,.ref aw,.int (i:Int),.ref ra]/\p∈ig/\bq K H aw ws/\FG ws i l r aY/\fY p (l+r) aY/\aY.length<=900/\l+r<=900/\bq K H ra (y.map V.int)/\Rw p (l+r) y/\
 ∀(b:Bool) H',aW H H'->(b=true↔MH p (l+r) aY y)->Q (.bl b) H'
theorem Vq:dy ["p","words","place","row","rows"] ["p","words","place","row"] (cu JP):=dI rfl rfl rfl (by decide +kernel) rfl
theorem Vr{fM fF:Addr}{ff nj:FuncData}(F:cJ K "content" "content" JP f fd)
  (GM:cc P w K mg base cb 6 fM ff ["p","word","parts"] (Vn K)) (kM:Kp K fM) (bM:Binds K ff ["p","word","parts"] []) (mM:Mg mg "form" fM)
  (GF:cc P w K mg base cb 4 fF nj ["p","rows","row"] (Mz K)) (kF:Kp K fF) (bF:Binds K nj ["p","rows","row"] []) (mF:Mg mg "factors_of" fF):cc P w K mg base cb 7 f fd ["p","words","place","row"] (Vp K):=by
 refine F.ok Vq (λvs H Q E h=>?_) (λcz A outer s H vs Q E hr h=>?_)
 ·obtain⟨p,aw,i,ra,ws,l,r,aY,y,rfl,_⟩:=h;rfl
 ·obtain⟨p,aw,i,ra,ws,l,r,aY,y,rfl,pp,hw,hB,hR,hz,hn,hy,hY,q⟩:=h;have Cd:eO 4 _:=hr.mono (by decide);refine⟨_,bo (cv (i:=4) Vq.nd rf (.inl rf) (br (cj K rf) (cK GM hr rf mM kM bM .nil cL (aV (pv 0) (aV (br (cj K rf) (pv 1) (pv 2)) (aV (nT (sZ K rf) (pv 1) (lT (bQ eM (pv 2) ba)) (lT (bQ eM (pv 2) ba))) aZ)))) ba)) (bY (cC (qN ZK (cK GF Cd rf mF kF bF .nil cL (aV (pv 0) (aV (pv 4) (aV (pv 3) aZ)))) Dh (cM _)))),?_⟩;have ec:∀n:V,ws[i+1]?=some n->iR ws (some ((i:Int)+1)) (some ((i:Int)+2))=[n]:=λn h=>by
   have hl:=(dC.mp h).1;rw[show(i:Int)+1=((i+1:Nat):Int) by lia,show(i:Int)+2=((i+2:Nat):Int) by lia];unfold iR;rw[HT.wu,HT.wu,Ab (by lia),Ab (by lia),show i+2-(i+1)=1 by lia,C2 hl,List.take_succ_cons,List.take_zero];rw[cP hl]at h;rw[dq h]
  have fin:∀(t:Addr)(RS:List V) H1 H2,aW H H1->bq K H1 t RS->cW K H1 RS (aY.map gY)->aW H1 H2->Mz K [.int p,.ref t,.ref ra] H2 (λx H3=>(V.df:V)=.df/\Q (.bl (!decide (x=.df))) H3) E0:=λt RS H1 H2 s1 k1 k2 s2=>by
   refine⟨p,t,ra,false,RS,aY,y,l+r,rf,pp,s2.bc k1,k2.mono s2,hR,hz,hn,(s1.trans s2).bc hy,hY,λH3 s3 Ay=>?_,λu fs H3 s3 _ _ hf=>?_⟩
   ·exact⟨rf,q false H3 ((s1.trans s2).trans s3) ⟨λz=>(iJ z).elim,λ⟨f,hf⟩=>absurd hf (Ay f)⟩⟩
   ·exact⟨rf,q true H3 ((s1.trans s2).trans s3) ⟨λ_=>⟨_,hf⟩,λ_=>rf⟩⟩
  cases hB with
  |times n h h'=>
   refine⟨_,rf,_,rf,_,rf,aw,_,(i:Int),.str "times",rf,rf,hw,bX h,_,rf,_,rf,_,_,rf,rf,_,rf,_,rf,_,_,rf,rf,_,rf,aw,_,rf,hw,?_⟩;rw[ec _ h'];intro pt H1 s1 zH;refine⟨p,_,pt,_,rf,zH,.times n rf rf λv H2 s2 hv=>?_⟩;obtain⟨t,RS,k0,k1,k2⟩:=hv;exact⟨v,_,2,.ref t,rf,rf,k0,bX (j:=2) rf,_,rf,_,rf,_,rf,fin t RS _ _ (s1.trans s2) k1 k2 (.refl _)⟩
  |box x l r aY h hx=>
   refine⟨_,rf,_,rf,_,rf,aw,_,(i:Int),.str x,rf,rf,hw,bX h,_,rf,_,rf,_,_,rf,rf,_,rf,_,rf,_,_,rf,rf,_,rf,aw,_,rf,hw,?_⟩;intro pt H1 s1 zH;refine⟨p,_,pt,_,rf,zH,.box l r aY hx λv H2 s2 hv=>?_⟩;obtain⟨t,RS,k0,k1,k2⟩:=hv;exact⟨v,_,2,.ref t,rf,rf,k0,bX (j:=2) rf,_,rf,_,rf,_,rf,fin t RS _ _ (s1.trans s2) k1 k2 (.refl _)⟩
section
variable{p:Int}
theorem Vs{n:Nat}{rs:LL}{y:List Int}(hR:Bw.fY p n rs)(hy:Rw p n y):MH p n rs y↔Sp p (RS rs) (fn y):=by
 constructor
 ·rintro⟨f,hf⟩;refine .eQ (Rn f rs.length (cn _)) λj=>?_;by_cases hj:j<n
  ·exact hf j hj
  ·have e0:fn y j=0:=hy.out (by lia);have e1:dot f (qW rs j) rs.length=0:=ab9 f hR (by lia);rw[e0,e1];exact⟨0,by lia⟩
 ·intro h;obtain⟨f,hf⟩:=abH h;exact⟨f,λj _=>hf j⟩
theorem aeu{m:Nat}(p0:0<p)(h:Rw p m ns):Rw p L.length (oA ns L):=⟨bu _,λx hx=>by
 obtain⟨i,_,rfl⟩:=dD.mp hx
 have:=h.at p0 i
 rwa[eG]at this⟩
theorem Vt{l r:Nat}(hl:L.length=l)(hr:R.length=r):fn (oA ns (L++R))=λj=>if j<l then atS (fn ns) L j else if j<l+r then atS (fn ns) R (j-l)else 0:=by
 funext j
 have e:oA ns (L++R)=(L++R).map (fn ns):=uw λi _=>by unfold fn;rw[eG]
 rw[e];unfold fn atS;rw[eG,du,List.getElem?_append,bu,hl];by_cases h1:j<l
 ·rw[af h1,af h1];exact(eG ..).symm
 ·rw[ag h1,ag h1];by_cases h2:j<l+r
  ·rw[af h2];exact(eG ..).symm
  ·rw[ag h2,jJ (by rw[bu];lia)];rfl
end
noncomputable def xB:Drw->Bool
 | .box ..=>true
 | .times _=>true
 |_=>false
theorem aev(pp:p∈ig){M:Nat}(ok:tS p M e)(he:e∈LY d L R s 0)(hb:xB e.d=true)(hn:Rw p M ns):∃l r aY,FG d.aX e.pl l r aY/\Bw.fY p (l+r) aY/\aY.length<=900/\l+r<=900/\e.L.length=l/\e.R.length=r/\Rw p (l+r) (oA ns (e.L++e.R))/\(MH p (l+r) aY (oA ns (e.L++e.R))↔Fo p (fn ns) e):=by
 obtain⟨p2,dX⟩:=jf p pp;obtain⟨⟨r',hs⟩,mi⟩:=BQ he;obtain⟨pl,ed,eL,eR,es⟩:=e;have hg:=Drw.good pp ok.wf ok.sm;have hl:eL.length=ed.bh:=ok.l;have hr:eR.length=ed.bf:=ok.r;have hY:Rw p (ed.bh+ed.bf) (oA ns (eL++eR)):=by
  have:=aeu (L:=eL++eR) (show 0<p by lia) hn
  rwa[cm,hl,hr]at this
 cases ed with
 |box x l r aY=>
  have h1:l<=100:=hg.1;have h2:r<=100:=hg.2.1;have hR:Bw.fY p (l+r) aY:=hg.2.2.2;have hY:Rw p (l+r) (oA ns (eL++eR)):=hY;refine⟨l,r,aY,.box x l r aY mi ok.wf,hR,gn hg.2.2.1 (by decide),by lia,hl,hr,hY,(Vs hR hY).trans ?_⟩;rw[Vt (l:=l) (r:=r) hl hr];exact Iff.rfl
 |times n=>
  have MI:d.aX[pl+1]?=some (.int n):=by
   have h1:dm [.bK d] (pl+1)=.num n::r':=by rw[va,hs];rfl
   have h2:=wW (pl+1) [.bK d];have ew:([Itm.bK d]).flatMap Itm.aX=d.aX:=by simp[Itm.aX]
   rw[h1,ew]at h2
   have:(d.aX.drop (pl+1))[0]?=some (.int n):=by rw[<- h2];rfl
   rwa[List.getElem?_drop,Nat.add_zero]at this
  have hR:Bw.fY p (1+1) [[1,n]]:=hg.2.2.2;have hY:Rw p (1+1) (oA ns (eL++eR)):=hY;refine⟨1,1,[[1,n]],.times n mi MI,hR,by show 1<=900;decide,by decide,hl,hr,hY,(Vs hR hY).trans ?_⟩;rw[Vt (l:=1) (r:=1) hl hr,acQ];exact⟨λh=>h.1,λh=>⟨h,wX λj hj=>by rw[ag (by lia),ag (by lia)]⟩⟩
 |back a=>cases hb
 |cD a b=>cases hb
 |bj a b=>cases hb
theorem aew{v:Fn}(h:xB e.d=false):Fo p v e:=by
 obtain⟨pl,ed,eL,eR,es⟩:=e;cases ed<;>first|exact trivial|cases h
theorem aex{x:Str}(B:pd K mg aS)(hd:d.wf p)(hx:(Itm.bK d).head=.str x):(PyProof.Rows.KTD.datumAt x (kQ K aS)).isSome=xB d:=by
 obtain⟨nb,ns,nt⟩:=UB;cases d with
 |box y l r aY=>
  have hx:y=x:=V.str.inj hx;subst hx;obtain⟨t,e,_⟩:=B.at_ (adX hd);rw[e];rfl
 |times n=>
  have hx:_=x:=V.str.inj hx;subst hx;obtain⟨t,e,_⟩:=B.at_ (x := "times") (l:=1) (r:=1) cQ;rw[e];rfl
 |back a=>have hx:_=x:=V.str.inj hx;subst hx;rw[B.none nb];rfl
 |cD a b=>have hx:_=x:=V.str.inj hx;subst hx;rw[B.none ns];rfl
 |bj a b=>have hx:_=x:=V.str.inj hx;subst hx;rw[B.none nt];rfl
def Vu(p:Int)(d:Drw)(r m:List Int):Prop:=m.length=ck d/\BX p (fn (r++m)) d (List.range' 0 d.bh) (List.range' d.bh d.bf) (d.bh+d.bf)
def MJ(K:Frag):Sp:=λvs H Q _=>∃(p:Int)(aw ra sa:Addr)(d:Drw)(r m:List Int)(k:Nat),vs=[.int p,.ref aw,.ref ra,.ref sa]/\p∈ig/\d.wf p/\d.aX.length<64/\ck d<=900/\bq K H aw d.aX/\bq K H ra (r.map V.int)/\Rw p (d.bh+d.bf) r/\bq K H sa (m.map V.int)/\Rw p k m/\k<=900/\
 ∀(b:Bool) H',aW H H'->(b=true↔Vu p d r m)->Q (.bl b) H'
theorem npw:(["place","words"]:List Str).Nodup:=by decide +kernel
theorem aey:(["place","lying","numbers","p","words"]:List Str).Nodup:=by decide +kernel
noncomputable abbrev MK:List Str:=["p","words","row","setting","numbers","lying","boxes"]
theorem FH:dy MK ["p","words","row","setting"] (cu Bo):=dI rfl rfl rfl (by decide +kernel) rfl
theorem Vv{fL fI fD fC fW:Addr}{l7 ql iI tE Cc:FuncData}(F:cJ K "stands" "stands" Bo f fd)(T:Txt mg)(B:pd K mg aS)
  (GL:cc P w K mg base cb 1 fL l7 ["words"] (Sw K)) (kL:Kp K fL) (bL:Binds K l7 ["words"] []) (mL:Mg mg "refuse_late" fL)
  (GI:cc P w K mg base cb 5 fI ql ["words"] (LV K)) (kI:Kp K fI) (bI:Binds K ql ["words"] []) (mI:Mg mg "inner" fI)
  (GD:cc P w K mg base cb 4 fD iI ["words"] (U3 K)) (kD:Kp K fD) (bD:Binds K iI ["words"] []) (mD:Mg mg "laid" fD)
  (GC:cc P w K mg base cb 7 fC tE ["p","words","place","row"] (Vp K)) (kC:Kp K fC) (bC:Binds K tE ["p","words","place","row"] []) (mC:Mg mg "content" fC)
  (GW:cc P w K mg base cb 1 fW Cc ["numbers","lying"] (UW K)) (kW:Kp K fW) (bW:Binds K Cc ["numbers","lying"] []) (mW:Mg mg "at_wires" fW):cc P w K mg base cb 8 f fd ["p","words","row","setting"] (MJ K):=by
 refine F.ok FH (λvs H Q E h=>?_) (λcz A outer s H vs Q E hr h=>?_)
 ·obtain⟨p,aw,ra,sa,d,r,m,k,rfl,_⟩:=h;rfl
 ·obtain⟨p,aw,ra,sa,d,r,m,k,rfl,pp,hd,ji,Mn,hw,i0,kX,Vw,qm,hk,q⟩:=h;obtain⟨p2,dX⟩:=jf p pp;have kc:=oS hr;have iw:eO 1 _:=hr.mono (by decide);have Cd:eO 4 _:=hr.mono (by decide);have hr5:eO 5 _:=hr.mono (by decide);refine⟨_,bo (oJ (cK GL iw rf mL kL bL .nil cL (aV (pv 1) aZ))) (bo (dj (cS nP (eX (iM K rf) rf T.len iN (aV (pv 3) aZ)) (cK GI hr5 rf mI kI bI .nil cL (aV (pv 1) aZ)) (cM _)) (bY (cC pI)) dz) (bo (cv (i:=4) FH.nd rf (Or.inr rf) (bQ (eN K rf) (e9 (nc K rf) rf T.tuple j7 (aV (pv 2) aZ)) (e9 (nc K rf) rf T.tuple j7 (aV (pv 3) aZ)))) (bo (cv (i:=5) FH.nd rf (Or.inr rf) (cK GD Cd rf mD kD bD .nil cL (aV (pv 1) aZ))) (bo (K2 (wA (N:=["place","words"]) (own:=1) (caps:=[1]) (i:=6) rf FH.nd rf rf (tL (pv 5)) (show e8 MK (cu Bo) ["place","words"] 1 [1] _ from .mk' (by decide +kernel)) (λ_ _ _ _ _=>cH (i:=0) npw rf (.inl rf)) (λ_ _ _ _ _=>sJ (wc (Jz B.tab (br (cj K rf) (pv 1) (pv 0)) (pJ (v:=.ref _) rf B.nm rf)) rf)) (λ_ _ _ _ _=>pv 0))) (bY (cC (eX (QR K rf rf) rf T.all QS (aV (je (N:=["place","lying","numbers","p","words"]) (own:=1) (caps:=[5,4,0,1]) rf (jo K rf (pv 6)) (show e8 MK (cu Bo) ["place","lying","numbers","p","words"] 1 [5,4,0,1] _ from .mk' (by decide +kernel)) (λ_ _ _ _ _=>cH (i:=0) aey rf (.inl rf)) (λ_ _ _ _ _=>jz) (λ_ _ _ _ _=>cK GC hr rf mC kC bC .nil cL (aV (pv 3) (aV (pv 4) (aV (pv 0) (aV (cK GW iw rf mW kW bW .nil cL (aV (pv 2) (aV (gJ kc (pv 1) (pv 0)) aZ))) aZ)))))) aZ)))))))),?_⟩
  have zz:=i5;have qj:d.sm:=Drw.zb hd (by lia);have Vx:=Drw.zd hd;obtain⟨lw1,lw2⟩:=Drw.ij hd;refine⟨_,rf,aw,_,rf,hw,vV.mpr λv hv=>(Vx v hv).1,?_,?_⟩
  ·exact List.any_eq_false.mpr λv hv=>by rw[(Vx v hv).2];decide
  refine⟨_,rf,sa,_,rf,.inr Vw,_,rf,aw,d,rf,Drw.qi hd,by lia,hw,λH1 s1=>⟨rf,_,rf,?_⟩⟩;rw[bu];by_cases hm:m.length=ck d
  ·rw[show(!decide (V.int (m.length:Int)=V.int (ck d:Int)))=false by rw[hm,aD rfl];rfl];refine dB ?_;have Vy:=s1.bc i0;have Vz:=s1.bc Vw;have rl:=kX.1;refine⟨_,rf,ra,_,rf,.inr ⟨Vy,_,rf,sa,_,rf,.inr ⟨Vz,ra,sa,_,_,rf,rf,Vy,Vz,by rw[bu,bu];lia,λna H2 s2 jj=>?_⟩⟩⟩;rw[<- du]at jj;have VA:=(s1.trans s2).bc hw;refine⟨_,rf,p,aw,d,rf,hd,qj,ji,by lia,VA,λly kvs H3 s3 zF Ce D8 hD=>?_⟩;refine⟨ly,kvs,Ce,_,rf,ly,kvs,rf,Ce,λo=>?_⟩;have g1:(upd H3 ly (.cT o (.dK kvs))) ly=some (.cT o (.dK kvs)):=bb;have zI:=s3.bc VA;have aez:=s3.bc jj;have hwF:=(dF.uU (o:=.cT o (.dK kvs)) Ce).bc zI;have root:tS p (d.bh+d.bf+ck d) ⟨0,d,List.range' 0 d.bh,List.range' d.bh d.bf,d.bh+d.bf⟩:=⟨hd,qj,nJ,nJ,cn _,λn hn=>by
    have:=(zZ.mp hn).2
    lia,λn hn=>by
    have:=(zZ.mp hn).2
    lia⟩
   refine zk (cp:=[some (.ref aw)]) (λi H' zs=>∃es:List Nat,zs=es.map (λn:Nat=>V.int (n:Int))/\es.length<=i/\(∀n∈es,∃e∈nB d,n=e.pl/\xB e.d=true)/\(∀e∈nB d,xB e.d=true->(Sum.inl (e.pl:Int):Key)∈(kvs.take i).map Prod.fst->e.pl∈es)) g1 (by lia) ⟨[],rf,cn _,λn hn=>(by cases hn),λe _ _ h=>(by cases h)⟩ (λi H' zs ⟨es,e,h,_⟩=>by rw[e,bu];exact h) ?_ ?_
   ·rintro i kv H' zs zo sm ⟨es,rfl,hl,h1,h2⟩;obtain⟨e,he,ek⟩:=hD.keys kv.1 (oI (dP zo));rw[ek];obtain⟨_,mi⟩:=BQ he;obtain⟨x,hx⟩:=LN e.d;have hBe:=aex (mg:=mg) B (LO root he).wf hx;rw[hx]at mi;have VB:∀e'∈nB d,(Sum.inl (e'.pl:Int):Key)∈(kvs.take (i+1)).map Prod.fst->(Sum.inl (e'.pl:Int):Key)∈(kvs.take i).map Prod.fst\/e'=e:=λe' nk h=>by
     rw[gO,zo,du]at h;rcases(cN.mp h)with(z|z)
     ·exact .inl z
     ·have z:=cA.mp z;rw[ek]at z;exact .inr (LJ nk he (Ml.mp z))
    refine⟨_,rf,_,rf,aw,_,(e.pl:Int),_,rf,rf,sm.bc hwF,bX mi,x,rf,rf,_,rf,?_⟩;rw[hBe];cases hb:xB e.d with
    |false=>
     refine dB ⟨⟨[_],rf,rf⟩,sm,es,rf,by lia,h1,λe' nk ic iL=>?_⟩;rcases VB e' nk iL with z|z
     ·exact h2 e' nk ic z
     ·rw[z,hb]at ic;cases ic
    |true=>
     refine eC ⟨_,rf,⟨[_],rf,rf⟩,sm,es++[e.pl],by rw[du];rfl,by rw[cm];exact Nat.add_le_add_right hl 1,λn hn=>?_,λe' nk ic iL=>?_⟩
     ·rcases(cN.mp hn)with(z|z)
      ·exact h1 n z
      ·exact⟨e,he,cA.mp z,hb⟩
     ·rcases VB e' nk iL with z|z
      ·exact eV _ (h2 e' nk ic z)
      ·rw[z];exact dZ _ cQ
   ·rintro H' zs sm ⟨es,rfl,hl,h1,h2⟩ lp jh;have s4:=sm.trans (aW.upd (o:=.lst (es.map λn:Nat=>V.int (n:Int))) jh);refine⟨⟨o,s4 _ _ g1⟩,?_⟩;have sT:=vj Ce s4;have ne:lp≠ly:=λe=>by rw[e,sm _ _ g1]at jh;cases jh
    have ML:(upd (upd H' lp (.lst (es.map λn:Nat=>V.int (n:Int)))) ly (.dK kvs)) lp=some (.lst (es.map λn:Nat=>V.int (n:Int))):=by rw[bR ne];exact bb
    generalize upd (upd H' lp (.lst (es.map λn:Nat=>V.int (n:Int)))) ly (.dK kvs)=H4 at sT ML |-;rw[iU]at h2;have FJ:=sT.bc zI;have aeA:=sT.bc aez;have aeB:=sT _ _ Ce;have uI:Rw p (d.bh+d.bf+ck d) (r++m):=⟨by rw[cm,rl,hm],λx hx=>(cN.mp hx).elim (kX.2 x) (qm.2 x)⟩;refine⟨_,rf,lp,rf,⟨_,.of ML⟩,uS (cp:=[some (.ref ly),some (.ref na),some (.int p),some (.ref aw)]) (λi H' zs=>zs.length<=i/\∃bs:List Bool,zs=bs.map V.bl/\((∀b∈bs,b=true)↔∀e∈nB d,e.pl∈es.take i->Fo p (fn (r++m)) e)) (.of ML) (by rw[bu];lia) ⟨cn _,[],rfl,⟨λ_ e _ h=>(by cases h),λ_ b hb=>(by cases hb)⟩⟩ (λi H' zs h=>h.1) ?_ ?_⟩
    ·rintro i x H5 zs hx ik ⟨MM,bs,rfl,rH⟩;rw[dG]at hx;cases en:es[i]? with
     |none=>rw[en]at hx;cases hx
     |some n=>
      rw[en]at hx;cases hx;obtain⟨e,he,rfl,hb⟩:=h1 n (dP en);have ok:=LO root he;obtain⟨l,r',aY,hBA,hR,hz,VC,el,er,hY,VD⟩:=aev pp ok he hb uI;obtain⟨a,hv,xv⟩:=hD.at_ e he;have xv:=(xv.mono sT).mono ik;have dg:eI H5 ly (.int (e.pl:Int)) (some (.ref a)):=by have:=eI.k (k:=Sum.inl (e.pl:Int)) (ik _ _ aeB);rw[hv]at this;exact this
      refine l4 ⟨_,rf,_,rf,_,rf,_,rf,_,rf,_,rf,ly,.ref a,rf,dg,na,a,r++m,e.L,e.R,e.s,rf,ik.bc aeA,xv,by lia,λj hj=>?_,λy H6 s6 hy=>⟨p,aw,e.pl,y,d.aX,l,r',aY,_,rf,pp,(ik.trans s6).bc FJ,hBA,hR,hz,VC,hy,hY,λb H7 s7 VE=>⟨⟨[_],rf,rf⟩,(ik.trans s6).trans s7,?_,bs++[b],by rw[du];rfl,?_⟩⟩⟩
      ·rw[uI.1];exact(cN.mp hj).elim (ok.L j) (ok.R j)
      ·rw[cm];exact Nat.add_le_add_right MM 1
      ·rw[gO,en];constructor
       ·intro h e' nk B0;rcases cN.mp B0 with z|z
        ·exact rH.mp (λb hb=>h b (eV _ hb)) e' nk z
        ·rw[LJ nk he (cA.mp z)];exact VD.mp (VE.mp (h b (dZ _ cQ)))
       ·intro h b' ic;rcases cN.mp ic with z|z
        ·exact rH.mpr (λe' nk B0=>h e' nk (eV _ B0)) b' z
        ·rw[cA.mp z];exact VE.mpr (VD.mpr (h e he (dZ _ cQ)))
    ·rintro H5 zs ik ⟨_,bs,rfl,rH⟩ lb vC;rw[bu,iU]at rH;refine⟨lb,bs,rf,.of bb,q _ _ ((s1.trans (s2.trans s3)).trans (sT.trans (ik.trans (.upd vC)))) ?_⟩;rw[vV];refine Iff.trans rH ⟨λh=>⟨hm,(xu d _ _ _ 0).mpr λe he=>?_⟩,λh e he _=>(xu d _ _ _ 0).mp h.2 e he⟩;cases hb:xB e.d with
     |false=>exact aew hb
     |true=>
      obtain⟨a,hv,_⟩:=hD.at_ e he;exact h e he (h2 e he hb (Sa hv))
  ·rw[show(!decide (V.int (m.length:Int)=V.int (ck d:Int)))=true by rw[ae λz=>hm (by have:=V.int.inj z;lia)];rfl];exact eC (q false _ s1 ⟨λz=>(iJ z).elim,λh=>absurd h.1 hm⟩)
section
variable{p:Int}{d:Drw}
theorem VF{M:Nat}{h:Nat->Int}:∀{L:List Nat},L.Nodup->(∀x∈L,x<M)->(L.map h).sum=Sg (λs=>if s∈L then h s else 0) M
 | [],_,_=>by rw[qU λi _=>ag λz=>(nomatch z)];rfl
 |a::L,nd,hM=>by
  obtain⟨na,zm⟩:=xO.mp nd;rw[gN,List.sum_cons,VF zm λx hx=>hM x (dU _ hx),Bw.Jj (f:=λs=>if s∈a::L then h s else 0) (l:=a) (hM a cQ),af cQ]
  congr 1
  refine pS λi _=>?_;by_cases e:i=a
  ·rw[af e,ag (by rw[e];exact na)]
  ·rw[ag e];by_cases e2:i∈L
   ·rw[af e2,af (dU _ e2)]
   ·rw[ag e2,ag λz=>(cV.mp z).elim e e2]
theorem aeC{M:Nat}{R:dO}{f v:Fn}(hR:o9 R f)(hM:∀t∈R,t.1<M):(R.map λt=>t.2*v t.1).sum=dot f v M:=by
 have e:(R.map λt=>t.2*v t.1)=(R.map Prod.fst).map λs=>f s*v s:=by
  rw[mn];refine uw λt ht=>?_;show _=f t.1*v t.1;rw[hR.mem ht]
 rw[e,VF (M:=M) hR.nd λx hx=>by obtain⟨t,ht,rfl⟩:=dD.mp hx;exact hM t ht];refine pS λi _=>?_;by_cases h:i∈R.map Prod.fst
 ·rw[af h]
 ·rw[ag h,hR.no h,Int.zero_mul]
theorem aeD(hd:d.wf p){aY:List Fn}{D:List (Nat×Fn)}(h:EI p (aT d 0).2 (zf p (aT d 0).1) ((aT d 0).1.al.map Prod.fst++((aT d 0).1.cg++((aT d 0).1.l++(aT d 0).1.r).reverse)) aY D){t:Nat×Fn}(ht:t∈D)(hO:t.1∈(aT d 0).1.l++(aT d 0).1.r++(aT d 0).1.cg)
  {s:Nat} (hz:t.2 s≠0) (cZ:s≠t.1):s<(aT d 0).2/\o8 D s=none/\s∈(aT d 0).1.l++(aT d 0).1.r++(aT d 0).1.cg/\(t.1∈(aT d 0).1.l++(aT d 0).1.r->s∈(aT d 0).1.l++(aT d 0).1.r):=by
 have xq:=w8 hd;have zH:=λ(s:Nat) hv=>S6 (s:=s) hd hv;generalize (aT d 0).2=M at *;generalize (aT d 0).1=A at *;have aeE:A.all=A.l++A.r++A.cg++A.al.map Prod.fst:=rfl;rw[aeE]at xq zH;obtain⟨Kd,_,nd3⟩:=qG.mp xq;obtain⟨_,_,nd4⟩:=qG.mp Kd;generalize A.al.map Prod.fst=Z at *;have VG:s<M:=by
  by_cases e:s<M
  ·exact e
  ·exact absurd ((h.dr t ht s).2.2 (by lia)) hz
 have KD:(Z++(A.cg++(A.l++A.r).reverse)).takeWhile (λy=>decide (y≠t.1))=Z++(A.cg++(A.l++A.r).reverse).takeWhile (λy=>decide (y≠t.1)):=S7 λz=>nd3 t.1 hO t.1 z rfl;have hZ:s ∉ Z:=λz=>hz (h.sup t ht s (by rw[KD];exact eV _ z));have hs:=(cN.mp (zH s VG)).resolve_right hZ;refine⟨VG,?_,hs,λho=>?_⟩
 ·cases e:o8 D s with
  |none=>rfl
  |some g=>
   obtain⟨u,hu,e1,_⟩:=KS e;rcases h.uniq ht hu with rfl|z
   ·exact absurd e1.symm cZ
   ·rw[e1]at z;exact absurd z hz
 ·refine(cN.mp hs).resolve_right λz=>hz (h.sup t ht s ?_);rw[KD,S7 λz=>nd4 t.1 ho t.1 z rfl];exact dZ _ (eV _ z)
end
end S21
namespace L2
open PySem PySem.Spec PyProof.Rows PySem.W
variable{Q:Option Value->Shared->Prop}{s:Shared}
def vD(h:Heap)(z TI TO T:Addr)(f:Bool):Prop:=h.get? z=some { cls:=.type "zip",dict:=none,data:=.fields #[rawInt T,.bool f,.bool false,.ref TI,.ref TO],slots:=#[] }
section
variable{prog:Program}{w:World}{A:Around}{E:QV}{z TI TO T i1 i2:Addr}{mX nW:List Addr}{n1 n2 k:Nat}{P1 P2:Nat->Value->Prop}{S1 S2:Nat->Heap->Prop}{a b:Value}{f:Bool}
theorem FK{o:Obj}{Q:Option Obj->Shared->Prop}(ho:s.heap.get? T=some o)(h:Q (some o) s):wpAny (model prog w) A (Sem.loadIfAlive ((T:Int).toNat) Sem.pure) Q E s:=by
 rw[CU];exact kdx_alive ho h
theorem FN{α:Type}{F:Value->α->Sem (ForInStep α)}{x y:Value}{init:α}{Q:α->Shared->Prop}(h:wpAny (model prog w) A (F x init) (λr s'=>match r with | .done u=>Q u s' | .yield u=>wpAny (model prog w) A (F y u) (λr iQ=>match r with | .done v=>Q v iQ | .yield v=>Q v iQ) E s') E s) :
  wpAny (model prog w) A (forIn #[x,y] init F) Q E s:=by
 have e:forIn #[x,y] init F=(do match <- F x init with | .done u=>pure u | .yield u=>(do match <- F y u with | .done v=>pure v | .yield v=>pure v)):=by
  rw[<- Array.forIn_toList];rfl
 rw[e];refine ak (bj h λr s' q=>?_);cases r with
 |done u=>exact aq q
 |yield u=>
  refine ak (bj q λr iQ q=>?_);cases r with
  |done v=>exact aq q
  |yield v=>exact aq q
set_option maxHeartbeats 2000000 in
theorem aeF{oT:Obj}{Q:QV}(D1:PySem.Draws prog w A i1 mX n1 P1 S1)(D2:PySem.Draws prog w A i2 nW n2 P2 S2)(D:AI z TI TO i1 i2 mX nW)
  (hz:vD s.heap z TI TO T f) (hT:IsPair s.heap TI (.ref i1) (.ref i2)) (hA:s.heap.get? T=some oT) (h1:S1 k s.heap) (h2:S2 k s.heap) (l1:k<n1) (l2:k<n2)
  (q:∀x y h' t,P1 k x->P2 k y->vD h' z TI TO T true->S1 (k+1) h'->S2 (k+1) h'->IsPair h' s.heap.objs.size x y->h'.objs.size=s.heap.objs.size+1->(∀c o,c≠z->c≠i1->c≠i2->s.heap.get? c=some o->h'.get? c=some o)->
   Q (.ref s.heap.objs.size) { s with heap:=h',toks:=t }):wpAny (model prog w) A (Builtin.«zip.__next__» ⟨[.ref z],[]⟩) (λfin s'=>∃v,fin=.done (.ret v)/\Q v s') E s:=by
 obtain⟨h,g,dr,tk,os⟩:=s;have nX:h.get? z=some _:=hz;have IF:h.get? TI=some _:=hT;have Cf:h.get? T=some oT:=hA;cases f with
 |true=>
  obtain⟨h0,vE,MN,MO,z0,k0,e0⟩:∃h0:Heap,vD h0 z TI TO T true/\S1 k h0/\S2 k h0/\h0.objs.size=h.objs.size/\(∀c o,c≠z->h.get? c=some o->h0.get? c=some o)/\h0=h:=⟨h,hz,h1,h2,rfl,λ_ _ _ e=>e,rfl⟩;wp_walk using FK Cf,D1.item k _ _ _ l1,ao,FN
  all_goals rw[<- e0]
  ·exact MN
  intro x ha ta p1 sa ka;replace ka:Heap.SameBut i1 h0 ha:=ka;wp_walk using D2.item k _ _ _ l2,ao
  ·exact Draws.but D2 MO D.f1 ka
  intro y hb tb p2 sb kb;replace kb:Heap.SameBut i2 ha hb:=kb;wp_walk
  refine⟨_,rf,?_⟩;dsimp only;have sz:hb.objs.size=h.objs.size:=by rw[kb.1,ka.1,z0]
  have new:=fi hb (o:={ cls:=.type "tuple",data:=.seq #[x,y] }) rfl;have sL:=lM hb { cls:=.type "tuple",data:=.seq #[x,y] };have old:∀c o,hb.get? c=some o->(hb.push { cls:=.type "tuple",data:=.seq #[x,y] }).get? c=some o:=λc o e=>dt _ e;have AK:hb.get? z=some _:=((kb.2 z D.AJ.symm).trans (ka.2 z D.yo.symm)).trans vE;rw[sz]at new sL;have fin:=q x y (hb.push { cls:=.type "tuple",data:=.seq #[x,y] }) tb p1 p2 (old z _ AK) (D1.frame _ _ _ (Draws.but D1 sa D.f2 kb) λc hm o e=>old c o e) (D2.frame _ _ _ sb λc hm o e=>old c o e) new sL λc o m1 m2 m3 e=>old c o (((kb.2 c m3).trans (ka.2 c m2)).trans (k0 c o m1 e));rw[sz];exact fin
 |false=>
  have zz:=mm h z (Obj.mapFields λvs=>vs.setIfInBounds 1 (Value.bool true));have jO:vD (h.update z (Obj.mapFields λvs=>vs.setIfInBounds 1 (Value.bool true))) z TI TO T true:=by
   unfold vD;rw[qy _ nX rfl];simp[Obj.mapFields]
  obtain⟨h0,vE,MN,MO,z0,k0,e0⟩:∃h0:Heap,vD h0 z TI TO T true/\S1 k h0/\S2 k h0/\h0.objs.size=h.objs.size/\(∀c o,c≠z->h.get? c=some o->h0.get? c=some o)/\h0=h.update z (Obj.mapFields λvs=>vs.setIfInBounds 1 (Value.bool true)):=⟨_,jO,Draws.but D1 h1 D.fz.1 zz,Draws.but D2 h2 D.fz.2 zz,zz.1,λc o m e=>(zz.2 c m).trans e,rfl⟩;wp_walk using FK Cf,D1.item k _ _ _ l1,ao,FN
  all_goals rw[<- e0]
  ·exact MN
  intro x ha ta p1 sa ka;replace ka:Heap.SameBut i1 h0 ha:=ka;wp_walk using D2.item k _ _ _ l2,ao
  ·exact Draws.but D2 MO D.f1 ka
  intro y hb tb p2 sb kb;replace kb:Heap.SameBut i2 ha hb:=kb;wp_walk
  refine⟨_,rf,?_⟩;dsimp only;have sz:hb.objs.size=h.objs.size:=by rw[kb.1,ka.1,z0]
  have new:=fi hb (o:={ cls:=.type "tuple",data:=.seq #[x,y] }) rfl;have sL:=lM hb { cls:=.type "tuple",data:=.seq #[x,y] };have old:∀c o,hb.get? c=some o->(hb.push { cls:=.type "tuple",data:=.seq #[x,y] }).get? c=some o:=λc o e=>dt _ e;have AK:hb.get? z=some _:=((kb.2 z D.AJ.symm).trans (ka.2 z D.yo.symm)).trans vE;rw[sz]at new sL;have fin:=q x y (hb.push { cls:=.type "tuple",data:=.seq #[x,y] }) tb p1 p2 (old z _ AK) (D1.frame _ _ _ (Draws.but D1 sa D.f2 kb) λc hm o e=>old c o e) (D2.frame _ _ _ sb λc hm o e=>old c o e) new sL λc o m1 m2 m3 e=>old c o (((kb.2 c m3).trans (ka.2 c m2)).trans (k0 c o m1 e));rw[sz];exact fin
set_option maxHeartbeats 2000000 in
theorem aeG{oT:Obj}{Q:Fin->Shared->Prop}(D1:PySem.Draws prog w A i1 mX n1 P1 S1)(D:AI z TI TO i1 i2 mX nW)
  (hz:vD s.heap z TI TO T f) (hT:IsPair s.heap TI (.ref i1) (.ref i2)) (hA:s.heap.get? T=some oT) (h1:S1 n1 s.heap)
  (q:∀h' e t,(∀c o,c≠z->c≠i1->s.heap.get? c=some o->h'.get? c=some o)->(∃o,h'.get? e=some o/\o.cls=.type "StopIteration")->E (.ref e) { s with heap:=h',toks:=t }):wpAny (model prog w) A (Builtin.«zip.__next__» ⟨[.ref z],[]⟩) Q E s:=by
 obtain⟨h,g,dr,tk,os⟩:=s;have nX:h.get? z=some _:=hz;have IF:h.get? TI=some _:=hT;have Cf:h.get? T=some oT:=hA;have zz:=mm h z (Obj.mapFields λvs=>vs.setIfInBounds 1 (Value.bool true));cases f with
 |true=>
  wp_walk using FK Cf,D1.done,ao,FN
  ·exact h1
  intro hx e kx he;exact q hx e _ (λc o _ m2 y=>kx c o m2 y) he
 |false=>
  wp_walk using FK Cf,D1.done,ao,FN
  ·exact Draws.but D1 h1 D.fz.1 zz
  intro hx e kx he;exact q hx e _ (λc o m1 m2 y=>kx c o m2 ((zz.2 c m1).trans y)) he
end
def tX(b1 b2:Bool)(z TI TO i1 i2 l1 l2:Addr)(xs ys:Array Value)(i:Nat)(h:Heap):Prop:=
 ((IsZip h z TI TO .none/\∃a b,IsPair h TO a b)\/∃T f u v,vD h z TI TO T f/\IsPair h T u v/\T≠z/\T≠i1/\T≠i2)/\IsPair h TI (.ref i1) (.ref i2)/\(iX b1 h i1 l1 i/\jA b1 h l1 xs)/\(iX b2 h i2 l2 i/\jA b2 h l2 ys)
section
variable{prog:Program}{w:World}{A:Around}{E:QV}{z TI TO i1 i2 l1 l2 d:Addr}{xs ys:Array Value}{b1 b2:Bool}{i:Nat}
theorem tX.frame{h h':Heap}(st:tX b1 b2 z TI TO i1 i2 l1 l2 xs ys i h)(k:∀b o,b≠d->h.get? b=some o->h'.get? b=some o)(hd:∀u v,¬IsPair h d u v)(n:d ∉ [z,i1,i2,l1,l2]):tX b1 b2 z TI TO i1 i2 l1 l2 xs ys i h':=by
 have np:∀{c u v},IsPair h c u v->IsPair h' c u v:=λ{c u v} hp=>k c _ (λe=>hd u v (e▸hp)) hp;have nz:z≠d/\i1≠d/\i2≠d/\l1≠d/\l2≠d:=by
  refine⟨?_,?_,?_,?_,?_⟩<;>(intro e;exact n (by simp[<- e]))
 obtain⟨h1,h2,⟨h3,h4⟩,h5,h6⟩:=st;refine⟨?_,np h2,⟨k _ _ nz.2.1 h3,h4.up λo e=>k _ o nz.2.2.2.1 e⟩,k _ _ nz.2.2.1 h5,h6.up λo e=>k _ o nz.2.2.2.2 e⟩;rcases h1 with⟨g1,a,b,g2⟩|⟨T,f,u,v,g1,g2,g3⟩
 ·exact .inl ⟨k _ _ nz.1 g1,a,b,np g2⟩
 ·exact .inr ⟨T,f,u,v,k _ _ nz.1 g1,np g2,g3⟩
theorem aeH{x y:Value}(hh:A.in1.handled=none)(D:yw z TI TO i1 i2 l1 l2)(st:tX b1 b2 z TI TO i1 i2 l1 l2 xs ys i s.heap)(hx:xs[i]?=some x)(hy:ys[i]?=some y)
  (q:∀h' tk,tX b1 b2 z TI TO i1 i2 l1 l2 xs ys (i+1) h'->IsPair h' s.heap.objs.size x y->(∀c o,c≠z->c≠TO->c≠i1->c≠i2->s.heap.get? c=some o->h'.get? c=some o)->Q (some (.ref s.heap.objs.size)) { s with heap:=h',toks:=tk }):wpAny (model prog w) A (pyNext (.ref z)) Q E s:=by
 obtain⟨h1,h2,h3,h4⟩:=st;have lx:i<xs.size:=by
  have:=Array.getElem?_eq_some_iff.mp hx
  exact this.1
 have ly:i<ys.size:=by
  have:=Array.getElem?_eq_some_iff.mp hy
  exact this.1
 have g1:i1<s.heap.objs.size:=cX h3.1;have g2:i2<s.heap.objs.size:=cX h4.1;rcases h1 with⟨hz,a,b,hO⟩|⟨T,f,u,v,hz,hP,n1,n2,n3⟩
 ·have gz:z<s.heap.objs.size:=cX hz;refine yq ⟨_,hz,rf⟩ qA (az qA ⟨_,hz,rf⟩ F.entry_zip_next (Qj (nV b1 hh i1 l1 D.n1 xs) (nV b2 hh i2 l2 D.n2 ys) D.sep hz h2 hO h3 h4 lx ly λu' v' h' tk e1 e2 a1 a2 a3 a4 a5 a6 hk=>?_) (CZ _));rw[hx]at e1;rw[hy]at e2;cases e1;cases e2;exact q h' tk ⟨.inr ⟨_,false,x,y,a1,a5,lK gz,lK g1,lK g2⟩,hk _ _ D.sep.DP D.sep.Qf D.sep.ID D.sep.IE h2,a3,a4⟩ a5 hk
 ·refine yq ⟨_,hz,rf⟩ qA (az qA ⟨_,hz,rf⟩ F.entry_zip_next (aeF (nV b1 hh i1 l1 D.n1 xs) (nV b2 hh i2 l2 D.n2 ys) D.sep hz h2 hP h3 h4 lx ly λu' v' h' tk e1 e2 a1 a3 a4 a5 a6 hk=>?_) (CZ _));rw[hx]at e1;rw[hy]at e2;cases e1;cases e2;exact q h' tk ⟨.inr ⟨T,true,u,v,a1,hk _ _ n1 n2 n3 hP,n1,n2,n3⟩,hk _ _ D.sep.DP D.sep.ID D.sep.IE h2,a3,a4⟩ a5 λc o m1 _ m3 m4 e=>hk c o m1 m3 m4 e
theorem aeI(hh:A.in1.handled=none)(D:yw z TI TO i1 i2 l1 l2)(st:tX b1 b2 z TI TO i1 i2 l1 l2 xs ys xs.size s.heap)
  (q:∀h' tk,(∀c o,c≠z->c≠TO->c≠i1->c≠i2->s.heap.get? c=some o->h'.get? c=some o)->Q none { s with heap:=h',toks:=tk }):wpAny (model prog w) A (pyNext (.ref z)) Q E s:=by
 obtain⟨h1,h2,h3,h4⟩:=st;rcases h1 with⟨hz,a,b,hO⟩|⟨T,f,u,v,hz,hP,n1,n2,n3⟩
 ·exact yq ⟨_,hz,rf⟩ qA (az qA ⟨_,hz,rf⟩ F.entry_zip_next (Qp (nV b1 hh i1 l1 D.n1 xs) (nV b2 hh i2 l2 D.n2 ys) D.sep hz h2 hO h3 h4 (.inl rf) λh' e tk hk ⟨o,e1,e2⟩=>⟨e,o,rf,e1,e2,q h' tk λc o m1 m2 m3 m4 y=>hk c o m1 m2 m3 m4 y⟩) (CZ _))
 ·exact yq ⟨_,hz,rf⟩ qA (az qA ⟨_,hz,rf⟩ F.entry_zip_next (aeG (nV b1 hh i1 l1 D.n1 xs) D.sep hz h2 hP h3 λh' e tk hk ⟨o,e1,e2⟩=>⟨e,o,rf,e1,e2,q h' tk λc o m1 _ m3 _ y=>hk c o m1 m3 y⟩) (CZ _))
variable{κ:Type} [DecidableEq κ] {knd:KeyKind prog w κ}
theorem aeJ{ps:List (κ×Value)}{R:Result->Shared->Prop}(hh:A.handled=none)(D:yw z TI TO i1 i2 l1 l2)(nq:xs.size=ps.length)(jm:ys.size=ps.length)
  (hp:∀(j:Nat)(u v:Value)(kv:κ×Value),xs[j]?=some u->ys[j]?=some v->ps[j]?=some kv->knd.is kv.1 u=true/\kv.2=v) (hn:d ∉ [z,TO,i1,i2,l1,l2]) :
  ∀(k i:Nat)(s:Shared)(kvs:List (κ×Value)),ps.length-i=k->i<=ps.length->tX b1 b2 z TI TO i1 i2 l1 l2 xs ys i s.heap->s.heap.DictOf knd d kvs->kvs.length+(ps.length-i)<=sizeLine->
   (∀h' tk,(∀b o,b≠d->b≠z->b≠TO->b≠i1->b≠i2->s.heap.get? b=some o->h'.get? b=some o)->h'.DictOf knd d (merged kvs (ps.drop i))->R (.ok (.ret .none)) { s with heap:=h',toks:=tk })->
   codeAny (model prog w) A (.builtin "dict.update.loop" ⟨[.ref d,.ref z,rawInt (i:Int),.none],[]⟩) R s:=by
 have zg:A.in1.handled=none:=by simp[hh]
 have vi:A.in1.in1.handled=none:=by simp[hh]
 have nd:d≠z/\d≠TO/\d≠i1/\d≠i2:=by
  refine⟨?_,?_,?_,?_⟩<;>(intro e;exact hn (by simp[e]))
 have zm:d ∉ [z,i1,i2,l1,l2]:=λe=>hn (by
  simp only[cV,qz,aF]at e |-;rcases e with e|e|e|e|e<;>simp[e])
 have npr:∀{h:Heap}{kvs:List (κ×Value)},h.DictOf knd d kvs->∀u v,¬IsPair h d u v:=λ{h kvs} hd u v hq=>by
  obtain⟨od,es,ep,gd,cd,_⟩:=hd;have VH:h.get? d=some _:=hq;rw[gd]at VH;cases VH;exact absurd (show Value.type "tuple"=Value.type "dict" from cd.1) (by decide)
 intro k;induction k with
 |zero=>
  intro i s kvs hk hi hz hd hsz hR;have e:i=ps.length:=by lia
  subst e;refine aQ E3 ?_;rw[xQ vh _];show wpAny _ A.in1 (pyNext (.ref z) >>= _) _ _ s;rw[<- nq]at hz;refine ak (aeI vi D hz λh' tk hk=>?_);show wpAny _ A.in1 (Builtin.Dict.addKeywords d [] >>= _) _ _ _;refine ak (aq ?_);refine aq (hR h' tk (λb o _ m1 m2 m3 m4 e=>hk b o m1 m2 m3 m4 e) ?_);rw[List.drop_length];obtain⟨o,es,ep,e,r⟩:=hd;exact⟨o,es,ep,hk _ _ nd.1 nd.2.1 nd.2.2.1 nd.2.2.2 e,r⟩
 |succ k ih=>
  intro i s kvs hk hi hz hd hsz hR;have cE:i<ps.length:=by lia
  have hx:xs[i]?=some (xs[i]'(by rw[nq];exact cE)):=C7 _;have hy:ys[i]?=some (ys[i]'(by rw[jm];exact cE)):=C7 _;have hq:ps[i]?=some ps[i]:=cP cE;obtain⟨KZ,ev⟩:=hp i _ _ _ hx hy hq;refine aQ E3 ?_;rw[xQ vh _];show wpAny _ A.in1 (pyNext (.ref z) >>= _) _ _ s;have gz:z<s.heap.objs.size:=by
   rcases hz.1 with⟨h,_⟩|⟨_,_,_,_,h,_⟩
   ·exact cX h
   ·exact cX h
  have gd:d<s.heap.objs.size:=by
   obtain⟨o,es,ep,e,_⟩:=hd;exact cX e
  refine ak (aeH vi D hz hx hy λh1 tk jO Ft k1=>?_);have ot:h1.DictOf knd d kvs:=by
   obtain⟨o,es,ep,e,r⟩:=hd;exact⟨o,es,ep,k1 _ _ nd.1 nd.2.1 nd.2.2.1 nd.2.2.2 e,r⟩
  refine ak (ao (ak (wpAny_tryCatch ?_)));unfold Builtin.Dict.pairItems;refine ak (aA (s:={ s with heap:=h1,toks:=tk }) (T := "tuple") ⟨_,Ft,rf⟩ ?_);rw[af (by decide)];refine ak (wpAny_seqItems (s:={ s with heap:=h1,toks:=tk }) Ft rf (aq ?_));show wpAny _ _ (holding [xs[i],ys[i]] (dictSet d xs[i] ys[i])) _ _ _;refine ao (wpAny_dictSet_pairs (s:={ s with heap:=h1,toks:=tk }) (hsz:=by lia) KZ ot λh2 iD BB=>?_);refine aq ⟨aR vh _,?_⟩;have jm:(stored kvs ps[i].1 ys[i]).length<=kvs.length+1:=by
   unfold stored;split
   ·rw[bu];lia
   ·rw[cm];exact cn _
  refine ih (i+1) { s with heap:=h2,toks:=tk+1 } (stored kvs ps[i].1 ys[i]) (by lia) cE (jO.frame (λb o hb e=>(BB.2 b hb).trans e) (npr ot) zm) iD (by lia) λh' xg k' jc=>?_;refine hR h' xg (λb o m0 m1 m2 m3 m4 e=>k' b o m0 m1 m2 m3 m4 ((BB.2 b m0).trans (k1 b o m1 m2 m3 m4 e))) ?_;rw[C2 cE]
  have:merged kvs (ps[i]::ps.drop (i+1))=merged (stored kvs ps[i].1 ys[i]) (ps.drop (i+1)):=by rw[<- ev];rfl
  rw[this];exact jc
end
theorem aeK:typeLookup (.type "zip") "keys"=pure none:=by rw[typeLookup_type,aO];kernel_rfl
theorem aeL:typeLookup (.type "zip") "__getattr__"=pure none:=by rw[typeLookup_type,aO];kernel_rfl
theorem aeM:entryFor table "zip.__getattribute__"=some Builtin.«object.__getattribute__»:=entryFor_alias (id' := "object.__getattribute__") (by kernel_rfl) (by decide +kernel) (by decide +kernel) (by kernel_rfl)
theorem aeN(z TI TO:Addr)(f0:Value)(u:Tok) :
  Meets (Builtin.«object.__getattribute__» ⟨[.ref z,.str "keys" u],[]⟩) (λA R s=>IsZip s.heap z TI TO f0/\raisesAttr (.ref z) "keys" A R s):=
 Meets.of_wp λprog w A R s hs=>by
  obtain⟨hp,g,d,tk,os⟩:=s;obtain⟨hx,hs⟩:=hs;have gW:hp.get? z=some _:=hx;have ty:(⟨hp,g,d,tk,os⟩:Shared).TypeIs (.ref z) "zip":=⟨_,hx,rfl⟩;have km:=aeK;have agr:(["__module__","__name__","__qualname__","__doc__","__annotations__"]:List Str).contains "keys"=false:=by decide +kernel
  unfold Builtin.«object.__getattribute__»;repeat(any_goals (first|assumption|wp_step))
  exact wpAny_raiseAttrError hs.1 hs.2 (attrMsg_fits (by decide +kernel) (by decide +kernel))
section
variable{prog:Program}{w:World}{A:Around}{E:QV}{s:Shared}
theorem aeO{z TI TO:Addr}{f0:Value}(hx:IsZip s.heap z TI TO f0)(hA:A.handled=none)
  (h:∀h' tk,(∀b o,s.heap.get? b=some o->h'.get? b=some o)->Q none { s with heap:=h',toks:=tk }):wpAny (model prog w) A (getAttr? (.ref z) "keys") Q E s:=by
 obtain⟨hp,g,d,tk,os⟩:=s;have ty:∀t,(⟨hp,g,d,t,os⟩:Shared).TypeIs (.ref z) "zip":=λ_=>⟨_,hx,rfl⟩;have e1:=sub_AttributeError;have e2:=F.slot_zip_getattribute.lookup;have e3:=F.slot_zip_getattribute.bind (.ref z);have e4:=aeL;unfold getAttr? getAttrBy? getAttrBy;repeat(any_goals (first|assumption|exact ty _|((with_reducible show wpAny _ _ (call (Value.builtin "zip.__getattribute__") _ _) _ _ _);refine call_meets F.slot_zip_getattribute (ty _) aeM (F.args_zip_getattribute_2 _ _) (aeN z TI TO f0 _) ⟨hx,hA,λh' t e hn=>?_⟩)|wp_step))
 obtain⟨t1,t2,he⟩:=hn.there;show wpAny _ _ (getattributeRaised _ _ _ _ _ _ _) _ _ _;unfold getattributeRaised;repeat(any_goals (first|assumption|wp_step))
 exact h _ _ hn.keeps
variable{κ:Type} [DecidableEq κ] {knd:KeyKind prog w κ}
theorem aeP{b1 b2:Bool}{z TI TO i1 i2 l1 l2:Addr}{xs ys:Array Value}{ps:List (κ×Value)}{Q:QV}(hh:A.handled=none)(D:yw z TI TO i1 i2 l1 l2)(vE:IsZip s.heap z TI TO .none)(st:tX b1 b2 z TI TO i1 i2 l1 l2 xs ys 0 s.heap)(qT:TO<s.heap.objs.size)(nq:xs.size=ps.length)(jm:ys.size=ps.length)
  (hp:∀(j:Nat)(u v:Value)(kv:κ×Value),xs[j]?=some u->ys[j]?=some v->ps[j]?=some kv->knd.is kv.1 u=true/\kv.2=v) (hz:ps.length<=sizeLine)
  (h:∀h' tk,(∀b o,b≠z->b≠TO->b≠i1->b≠i2->s.heap.get? b=some o->h'.get? b=some o)->h'.DictOf knd s.heap.objs.size (merged [] ps)->Q (.ref s.heap.objs.size) { s with heap:=h',toks:=tk }) :
  wpAny (model prog w) A (call (.type "dict") [.ref z]) Q E s:=by
 refine callType_codes (Q₁:=λobj s₁=>obj=.ref s.heap.objs.size/\s₁={ s with heap:=s.heap.push { cls:=.type "dict",data:=.dict #[] } }) F.kt_called_dict (F.kt_typeCall_dict_1 _) F.entry_dict_init (kt_code_dict_new _ ⟨rf,rf⟩) ?_;rintro obj s₁ ⟨rfl,rfl⟩;have kr:(s.heap.push { cls:=.type "dict",data:=.dict #[] }).DictOf knd s.heap.objs.size []:=Heap.DictOf.new s.heap;refine⟨kr.typeIs,F.args_dict_init_2 _ _,?_⟩;have k1:∀b o,s.heap.get? b=some o->(s.heap.push { cls:=.type "dict",data:=.dict #[] }).get? b=some o:=λb o e=>dt _ e;have gz:z<s.heap.objs.size:=cX vE;have g1:i1<s.heap.objs.size:=cX st.2.2.1.1;have g2:i2<s.heap.objs.size:=cX st.2.2.2.1;have g3:l1<s.heap.objs.size:=let ⟨_,e⟩:=st.2.2.1.2.obj;cX e;have g4:l2<s.heap.objs.size:=let ⟨_,e⟩:=st.2.2.2.2.obj;cX e;have up:∀{h':Heap},(∀b o,s.heap.get? b=some o->h'.get? b=some o)->tX b1 b2 z TI TO i1 i2 l1 l2 xs ys 0 h':=λ{h'} k=>by
  obtain⟨a1,a2,⟨a3,a4⟩,a5,a6⟩:=st;refine⟨?_,k _ _ a2,⟨k _ _ a3,a4.up λo e=>k _ o e⟩,k _ _ a5,a6.up λo e=>k _ o e⟩;rcases a1 with⟨c1,a,b,c2⟩|⟨T,f,u,v,c1,c2,c3⟩
  ·exact .inl ⟨k _ _ c1,a,b,k _ _ c2⟩
  ·exact .inr ⟨T,f,u,v,k _ _ c1,k _ _ c2,c3⟩
 generalize s.heap.push { cls:=.type "dict",data:=.dict #[] }=MP at kr k1 |-;unfold Builtin.«dict.__init__»;refine ak ?_;unfold Builtin.Dict.selfAndRest;refine ak (wpAny_notOrdered_dict (s:={ s with heap:=MP }) kr.typeIs ?_);show wpAny _ _ (pure (s.heap.objs.size,[Value.ref z])) _ _ _;refine aq ?_;show wpAny _ _ (Builtin.Dict.updateFrom "dict.__init__" s.heap.objs.size (.ref z) [] .none) _ _ _;unfold Builtin.Dict.updateFrom;refine ak (aA (s:={ s with heap:=MP }) (T := "zip") ⟨_,k1 _ _ vE,rf⟩ ?_);rw[af (by decide)];have vi:A.in1.in1.handled=none:=by simp[hh]
 refine ak (aeO (s:={ s with heap:=MP }) (k1 _ _ vE) vi λMQ tk k2=>?_);have iD:MQ.DictOf knd s.heap.objs.size []:=by
  obtain⟨o,es,ep,e,r⟩:=kr;exact⟨o,es,ep,k2 _ _ e,r⟩
 have kk:∀b o,s.heap.get? b=some o->MQ.get? b=some o:=λb o e=>k2 b o (k1 b o e);rw[af (by rfl)];refine ak (wpAny_rule ?_);refine ak (wpAny_pyIter_zip (s:={ s with heap:=MQ,toks:=tk }) (kk _ _ vE) ?_);refine aq ⟨aR vh _,?_⟩;refine aeJ (knd:=knd) (ps:=ps) (b1:=b1) (b2:=b2) (xs:=xs) (ys:=ys) (by simp[hh]) D nq jm hp ?_ ps.length 0 _ [] (by lia) (jv _) (up kk) iD (by simpa using hz) λh' xg k3 xh=>?_
 ·intro e;simp only[cV,qz,aF]at e;rcases e with e|e|e|e|e|e
  ·exact lK gz e
  ·exact lK qT e
  ·exact lK g1 e
  ·exact lK g2 e
  ·exact lK g3 e
  ·exact lK g4 e
 ·refine⟨rf,h h' xg (λb o m1 m2 m3 m4 e=>?_) xh⟩;have hb:b<s.heap.objs.size:=cX e;exact k3 b o (fK hb) m1 m2 m3 m4 (kk b o e)
end
section
variable{X:Cx}{K:Frag}
def aeQ(K:Frag)(b1 b2:Bool)(ta:TA):TE:=λσ H Q=>ta σ H λvs H1=>∃l1 l2 ys,∃ks:List Key,vs=[.ref l1,.ref l2]/\Sq b1 K H1 l1 (ks.map kV)/\Sq b2 K H1 l2 ys/\ks.length=ys.length/\∀p,H1 p=none->Q (.ref p) (upd H1 p (.dK (iF [] (ks.zip ys))))
theorem VJ:∀{ks:List Key}{ys:List V}{us:List Value},Vals ys us->ks.length=ys.length->KV (ks.zip ys) (ks.zip us)
 | [],[],_,.nil,_=>.nil
 |k::ks,y::ys,_,.cons r rr,h=>.cons ⟨rfl,r⟩ (VJ rr (by simpa using h))
theorem aeR(hK:X.K=K)(hc:X.calm=true)(b1 b2:Bool){a b:Expr}{ta:TA}{p1 p2 aeS FO:Pos}(hg:Gl X "dict")(hm:X.mg "dict"=none)(hg2:Gl X "zip")(hm2:X.mg "zip"=none)(ha:PA X [a,b] ta)
  (hs:starEach [a,b] X.env=[(false,eval a X.env),(false,eval b X.env)]:=by rfl) (sN:starEach [b] X.env=[(false,eval b X.env)]:=by rfl) (VL:starEach [.Call (.Name "zip" p2) [a,b] [] FO] X.env=[(false,eval (.Call (.Name "zip" p2) [a,b] [] FO) X.env)]:=by rfl) :
  PE X (.Call (.Name "dict" p1) [.Call (.Name "zip" p2) [a,b] [] FO] [] aeS) (aeQ K b1 b2 ta):=by
 subst hK;intro aU s σ H Q I h;refine av (sg I hg hm zl ?_);refine zT ?_ (by rw[VL];rfl) (by rfl);rw[VL];refine CT ?_;refine Call_ (sg I hg2 hm2 Qw (zT (bj (ha FO aU s σ H _ I h) λus s1 ⟨vs,H1,I1,r1,q1⟩=>?_) (by rw[hs,sN]) (by rw[sN];rfl)));obtain⟨l1,l2,ys,ks,e,lX,lY,cB,q⟩:=q1;subst e;cases r1 with
 |cons r rr=>
  cases rr with
  |cons r' rr=>
   cases rr;cases r;cases r';obtain⟨lZ,oW,p1,jO⟩:=I1.sq lX;obtain⟨uQ,wC,p2,pR⟩:=I1.sq lY;have a1:l1<s1.heap.objs.size:=by obtain⟨_,e⟩:=p1.obj;exact cX e
   have a2:l2<s1.heap.objs.size:=by obtain⟨_,e⟩:=p2.obj;exact cX e
   refine Qt b1 b2 p1 p2 λh' N=>?_;refine Calls.spliced_nil ?_;have DZ:yw (s1.heap.objs.size+4) (s1.heap.objs.size+2) (s1.heap.objs.size+3) s1.heap.objs.size (s1.heap.objs.size+1) l1 l2:=⟨⟨fV 2 4,fV 3 4,fV 0 4,fV 1 4,fV 2 3,fV 2 0,fV 2 1,fV 3 0,fV 3 1,fV 0 1,⟨oX (fV 4 0) (mY 4 a1),oX (fV 4 1) (mY 4 a2)⟩,⟨oX (fV 3 0) (mY 3 a1),oX (fV 3 1) (mY 3 a2)⟩,oX (fV 1 0) (mY 1 a1),oX (fV 0 1) (mY 0 a2)⟩,fK a1,fK (zW a2)⟩;have IJ:=oW.length;have ll2:=wC.length;rw[bu]at IJ;have I2:Inv X aU σ H1 { s1 with heap:=h' }:=I1.kept (t':=s1.toks) N.old;have hf:∀c∈[s1.heap.objs.size+4,s1.heap.objs.size+3,s1.heap.objs.size,s1.heap.objs.size+1],iV X aU H1 c:=λc hc=>by
    refine I1.jZ ?_ (I1.cq.fresh ?_);all_goals (simp only[cV,qz,aF]at hc;rcases hc with rfl|rfl|rfl|rfl)
    all_goals first|exact cn _|exact rZ _ _
   refine aeP (knd:=iu X.prog X.w) (ps:=ks.zip uQ) (s:={ s1 with heap:=h' }) (I1.ok.hd hc) DZ N.zip ⟨.inl ⟨N.zip,_,_,N.out⟩,N.Qs,⟨N.one,p1.up λo e=>N.old _ o e⟩,N.two,p2.up λo e=>N.old _ o e⟩ (cX N.out) ?_ ?_ ?_ ?_ λh2 tk k2 iD=>?_
   ·rw[eK,zX];lia
   ·rw[eK,zX];lia
   ·intro j u v kv e1 e2 e3;rw[List.getElem?_toArray]at e1 e2;obtain⟨e4,e5⟩:=Hu.mp e3;rw[e2]at e5;have e6:(ks.map kV)[j]?=some (kV kv.1):=by rw[dG,e4];rfl
    obtain⟨u',zJ,ru⟩:=oW.get e6;rw[zJ]at e1;cases e1;exact⟨sW ru,(dq e5).symm⟩
   ·rw[zX]
    have:ks.length<=sizeLine:=by rw[bu]at jO;exact jO
    lia
   ·have I3:Inv X aU σ H1 { s1 with heap:=h2,toks:=tk }:=Inv.AM (s:={ s1 with heap:=h' }) (ch:=[s1.heap.objs.size+4,s1.heap.objs.size+3,s1.heap.objs.size,s1.heap.objs.size+1]) I2 (λc o hc e=>by
     simp only[cV,qz,aF,not_or]at hc;exact k2 c o hc.1 hc.2.1 hc.2.2.1 hc.2.2.2 e) hf
    have fp:iV X aU H1 h'.objs.size:=I2.jZ (cn _) I2.fresh;have ml:=Bg (ks.zip ys) [];have lz:(ks.zip ys).length<=sizeLine:=by rw[zX,bu]at *;lia
    have I4:=I3.wB (o:=.dK (iF [] (ks.zip ys))) fp (Bd (by have:([]:List (Key×V)).length=0:=rfl;lia) (beq_eq_false_iff_ne.mpr (Ne.symm (fK I2.big))) (KV.merge (VJ wC cB) .nil) iD);exact⟨.ref _,_,I4,rf,q _ fp.1⟩
end
end L2
namespace S21
open PySem L2 Bw
variable{A:iP}{D:Ends}{H H':Hp}{L:List (Str×List Int)}{N i n:Nat}{O:List Nat}{Q:VK}{X:Cx}{a b c f:Addr}{as:List (Nat×Nat)}{fd:FuncData}{kvs:List (Key×V)}{ns:List iP}{p:Int}{r:List Int}{c9 dH eT fh eU s8 s9:Option V}{t u:TS}{te:TE}{v:V}{x y:Str}{σ:St}
def aeT(kvs:List (Key×V))(R:dO)(v:Fn):Prop:=∀t∈R,da kvs (Sum.inl (t.1:Int))=some (.int (v t.1))
def VM:Sp:=λvs H Q _=>∃(p:Int)(a b:Addr)(R:dO)(kvs:List (Key×V))(v:Fn),vs=[.int p,.ref a,.ref b]/\2<=p/\p<=97/\a≠b/\H a=some (.dK (R.map rK))/\(R.map Prod.fst).Nodup/\R.length<=900/\(∀t∈R,-1000<=t.2/\t.2<=1000)/\H b=some (.dK kvs)/\aeT kvs R v/\
 ∀H',aW H H'->Q (.bl (decide ((R.map λt=>t.2*v t.1).sum%p=0))) H'
theorem aeU:(["spot","row","values"]:List Str).Nodup:=by decide +kernel
noncomputable abbrev VN:List Str:=["p","row","values"]
theorem aeV:dy VN ["p","row","values"] (cu Ep):=dI rfl rfl rfl (by decide +kernel) rfl
theorem aeW(i:Int):decide (V.int i=V.int 0)=decide (i=0):=by
 by_cases h:i=0
 ·rw[aD h,aD (aj V.int h)]
 ·rw[ae h,ae λz=>h (V.int.inj z)]
theorem aeX(F:cJ K "_law_zero" "_law_zero" Ep f fd)(T:Txt mg):cc P w K mg base cb 1 f fd ["p","row","values"] VM:=by
 refine F.ok aeV (λvs H Q E h=>?_) (λcz A outer s H vs Q E hr h=>?_)
 ·obtain⟨p,a,b,R,kvs,v,rfl,_⟩:=h;rfl
 ·obtain⟨p,a,b,R,kvs,v,rfl,p2,dX,nab,ga,nd,lR,hb,gb,hv,q⟩:=h;have zz:=i5;have hu:=oS hr;refine⟨_,bY (cC (qN eB (bQ j5 (eX (AR K rf rf) rf T.sum AY (aV (zj (je (N:=["spot","row","values"]) (own:=1) (caps:=[1,2]) rf (tL (pv 1)) (show e8 VN (cu Ep) ["spot","row","values"] 1 [1,2] _ from .mk' (by decide +kernel)) (λ_ _ _ _ _=>cH (i:=0) aeU rf (.inl rf)) (λ_ _ _ _ _=>jz) (λ_ _ _ _ _=>bQ lQ (gJ hu (pv 1) (pv 0)) (gJ hu (pv 2) (pv 0))))) aZ)) (pv 0)) ba (cM _))),?_⟩
  refine⟨a,R.map rK,ga,_,rf,a,_,rf,ga,λo=>?_⟩;have g1:(upd H a (.cT o (.dK (R.map rK)))) a=some (.cT o (.dK (R.map rK))):=bb;have gb1:(upd H a (.cT o (.dK (R.map rK)))) b=some (.dK kvs):=by rw[bR nab.symm];exact gb
  refine zk (cp:=[some (.ref a),some (.ref b)]) (λi H' zs=>zs=((R.take i).map λt=>t.2*v t.1).map V.int) g1 (by rw[bu];lia) rfl (λi H' zs e=>by rw[e,bu,bu,gy];exact Nat.min_le_left _ _) ?_ ?_
  ·rintro i kv H' zs hk sm rfl;rw[dG]at hk;cases e:R[i]? with
   |none=>rw[e]at hk;cases hk
   |some t=>
    rw[e]at hk;cases hk;have ht:=dP e;have b1:=hb t ht;refine l4 ⟨_,rf,_,rf,a,.int t.2,rf,by have:=rh (k:=Sum.inl (t.1:Int)) (sm _ _ g1);rw[p9 nd ht]at this;exact this,_,rf,_,rf,b,.int (v t.1),rf,by have:=eI.k (k:=Sum.inl (t.1:Int)) (sm _ _ gb1);rw[hv t ht]at this;exact this,_,_,rf,rf,.inl ⟨by lia,by lia⟩,⟨[_],rf,rf⟩,sm,?_⟩;rw[gO,e,du,du];rfl
  ·rintro H' zs sm rfl lz i7;rw[bu,iU];have s1:=sm.trans (aW.upd (o:=.lst ((R.map λt=>t.2*v t.1).map V.int)) i7);have s2:=vj ga s1;have ne:lz≠a:=λe=>by rw[e,sm _ _ g1]at i7;cases i7
   refine⟨⟨o,s1 _ _ g1⟩,lz,_,rf,.of (by rw[bR ne];exact bb),_,rf,_,_,rf,rf,(by show(0:Int)<p;lia),rfl,?_⟩;rw[aeW];exact q _ s2
noncomputable def jC(O:List Nat)(r:List Int):Fn:=λs=>(((O.zip r).find? λt=>decide (t.1=s)).map (·.2)).getD 0
theorem aeY(nd:O.Nodup)(hl:O.length=r.length):atS (jC O r) O=fn r:=by
 funext j
 unfold atS fn;rw[eG,eG,dG];by_cases hj:j<O.length
 ·have e1:O[j]?=some O[j]:=cP hj;have e2:r[j]?=some (r[j]'(by lia)):=cP (by lia);have e3:(O.zip r)[j]?=some (O[j],r[j]'(by lia)):=Hu.mpr ⟨e1,e2⟩;rw[e1,e2];show jC O r O[j]=r[j]'(by lia);have ndz:((O.zip r).map Prod.fst).Nodup:=by rw[List.map_fst_zip (by lia)];exact nd
  unfold jC;rw[E7 ndz (dP e3)];rfl
 ·rw[jJ (l:=O) (by lia),jJ (l:=r) (by lia)];rfl
theorem aeZ(hl:O.length=r.length){s:Nat}(hs:s∈O):da ((O.zip r).map rK) (Sum.inl (s:Int))=some (.int (jC O r s)):=by
 rw[BC];unfold jC;cases e:(O.zip r).find? λt=>decide (t.1=s) with
 |some t=>rfl
 |none=>
  have h:s∈(O.zip r).map Prod.fst:=by rw[List.map_fst_zip (by lia)];exact hs
  obtain⟨t,ht,e1⟩:=dD.mp h
  have:=xP.mp e t ht
  simp[e1]at this
theorem ae0:(O.map λ(s:Nat)=>(Sum.inl (s:Int):Key)).zip (r.map V.int)=(O.zip r).map rK:=by
 induction O generalizing r with
 |nil=>rfl
 |cons a O ih=>cases r with
  |nil=>rfl
  |cons b r=>exact aj (List.cons _) ih
theorem ae1(O:List Nat):cx O=(O.map λ(s:Nat)=>(Sum.inl (s:Int):Key)).map kV:=by unfold cx;rw[mn];rfl
def Hand(H:Hp)(a:Addr)(n:Nat):Prop:=∃x0 x1 x2:Int,H a=some (.lst [.int x0,.int x1,.int x2])/\0<=x0/\x0<=(n:Int)/\0<=x1/\x1<1000000007
def Ci:Sp:=λvs H Q _=>∃c k:Int,vs=[.int c,.int k]/\0<=k/\k<=100/\∀a H',aW H H'->H a=none->Hand H' a 0->Q (.ref a) H'
theorem ae2:dy ["cell","k"] ["cell","k"] (cu JQ):=dI rfl rfl rfl (by decide +kernel) rfl
theorem VO(F:cJ K "_law_hand" "_law_hand" JQ f fd):cc P w K mg base cb 1 f fd ["cell","k"] Ci:=by
 refine F.ok ae2 (λvs H Q E h=>?_) (λcz A outer s H vs Q E hr h=>?_)
 ·obtain⟨c,k,rfl,_⟩:=h;rfl
 ·obtain⟨c,k,rfl,k0,k1,q⟩:=h;refine⟨_,bY (cC (gT (aV ba (aV (bQ j5 (bQ lQ (bQ eM (bQ eM (bQ j5 (pv 0) ba) (bQ lQ ba (pv 1))) ba) ba) ba) (aV (pv 0) aZ))))),?_⟩;have m0:0<=c%1000000007:=qB _ (by decide);have m1:c%1000000007<1000000007:=qC _ (by decide);refine⟨_,rf,_,_,rf,rf,(by show(0:Int)<1000000007;decide),_,rfl,_,_,rfl,rfl,.inl ⟨by decide,by decide⟩,_,_,rfl,rfl,_,_,rfl,rfl,_,_,rfl,rfl,.inr ⟨by decide,by decide⟩,_,_,rfl,rfl,(by show(0:Int)<1000000007;decide),_,rfl,(by show 3<=sizeLine;decide),λa ha=>?_⟩;exact q a _ (.upd ha) ha ⟨0,_,c,bb,by decide,by decide,qB _ (by decide),qC _ (by decide)⟩
def nE:Sp:=λvs H Q _=>∃(a:Addr)(lim:Int)(n:Nat),vs=[.ref a,.int lim]/\Hand H a n/\n<=1000000/\1<=lim/\lim<=1000/\∀(d:Int)(xs:List V),0<=d->d<lim->Hand (upd H a (.lst xs)) a (n+1)->Q (.int d) (upd H a (.lst xs))
theorem VP:dy ["hand","limit","found"] ["hand","limit"] (cu JR):=dI rfl rfl rfl (by decide +kernel) rfl
theorem rJ(F:cJ K "_law_draw" "_law_draw" JR f fd):cc P w K mg base cb 1 f fd ["hand","limit"] nE:=by
 refine F.ok VP (λvs H Q E h=>?_) (λcz A outer s H vs Q E hr h=>?_)
 ·obtain⟨a,lim,n,rfl,_⟩:=h;rfl
 ·obtain⟨a,lim,n,rfl,⟨x0,x1,x2,ha,b0,b1,b2,b3⟩,hn,l0,l1,q⟩:=h;refine⟨_,bo (dj (PW.pt (wd (cS ZJ (br (eY K rf) (pv 0) ba) ba (cM _)) (xY (cS Ds (br (eY K rf) (pv 0) ba) (nN nO ba) (cM _))))) (bo (cv (i:=2) VP.nd rf (.inl rf) (bQ j5 (br (eY K rf) (pv 0) ba) (pv 1))) (bo (my (bQ OZ (br (eY K rf) (pv 0) ba) (pv 1)) (x4 (pv 0) ba yf)) (bY (cC (pv 2))))) dz) (bo (my (bQ eM (br (eY K rf) (pv 0) ba) ba) (x4 (pv 0) ba yf)) (bo (my (bQ j5 (bQ eM (bQ eM (bQ lQ (br (eY K rf) (pv 0) ba) (br (eY K rf) (pv 0) ba)) (bQ lQ ba (br (eY K rf) (pv 0) ba))) ba) ba) (x4 (pv 0) ba yf)) (bY (cC (bQ j5 (bQ OZ (br (eY K rf) (pv 0) ba) ba) (pv 1)))))),?_⟩;have lp:0<lim:=by lia
  refine(λbig=>⟨_,rf,a,_,2,_,rf,rf,.of ha,bX (j:=2) rf,_,_,rf,rf,_,rf,uK (λ_=>eC big) (λ_=>⟨_,rf,a,_,2,_,rf,rf,.of ha,bX (j:=2) rf,_,rf,_,_,rf,rf,_,rf,uK (λ_=>big) (λ_=>?small)⟩)⟩) ?big
  case big=>
   refine⟨_,rf,a,_,2,_,rf,rf,.of ha,bX (j:=2) rf,_,rf,_,_,rf,rf,lp,?_⟩;refine⟨_,rf,a,_,2,_,rf,rf,.of ha,bX (j:=2) rf,_,rf,_,_,rf,rf,⟨lp,by lia⟩,_,rf,a,_,2,2,rf,rf,ha,rf,?_⟩;exact⟨_,rf,q _ _ (qB _ (by lia)) (qC _ lp) ⟨x0,x1,x2/lim,bb,b0,by lia,b2,b3⟩⟩
  case small=>
   refine⟨_,rf,a,_,0,_,rf,rf,.of ha,bX (j:=0) rf,_,_,rf,rf,_,rf,a,_,0,0,rf,rf,ha,rf,?_⟩;have g1:(upd H a (.lst [.int (x0+1),.int x1,.int x2])) a=some (.lst [.int (x0+1),.int x1,.int x2]):=bb;refine⟨_,rf,a,_,1,_,rf,rf,.of g1,bX (j:=1) rf,_,rf,a,_,1,_,rf,rf,.of g1,bX (j:=1) rf,_,_,rf,rf,.inl ⟨by lia,by lia⟩,_,rf,a,_,0,_,rf,rf,.of g1,bX (j:=0) rf,_,_,rf,rf,.inl ⟨by decide,by decide⟩,_,_,rf,rf,_,_,rf,rf,_,_,rf,rf,(by show(0:Int)<1000000007;decide),_,rfl,a,_,1,1,rfl,rfl,g1,rfl,?_⟩;rw[C9];have g2:(upd H a (.lst [.int (x0+1),.int ((x1*x1+7*(x0+1)+11)%1000000007),.int x2])) a=some (.lst [.int (x0+1),.int ((x1*x1+7*(x0+1)+11)%1000000007),.int x2]):=bb;refine⟨_,rf,a,_,1,_,rf,rf,.of g2,bX (j:=1) rf,_,_,rf,rf,⟨by decide,by decide⟩,_,rf,_,_,rf,rf,lp,?_⟩;exact q _ _ (qB _ (by lia)) (qC _ lp) ⟨_,_,x2,bb,by lia,by lia,qB _ (by decide),qC _ (by decide)⟩
theorem Hand.new{o:HO}(h:Hand H a n)(hb:H b=none):Hand (upd H b o) a n:=by
 obtain⟨x0,x1,x2,e,r⟩:=h;exact⟨x0,x1,x2,by rw[bR (fj e hb)];exact e,r⟩
theorem Hand.at_(h:Hand H a n):∃xs,H a=some (.lst xs):=let ⟨_,_,_,e,_⟩:=h;⟨_,e⟩
noncomputable def vF:List Int:=[2,3,5,7,11,13,17,19,23,29,31,37,41,43,47,53,59,61,67,71,73,79,83,89,97]
theorem ae3:∀j:Nat,j<25->∃q,vF[j]?=some q/\q∈ig:=by decide +kernel
theorem cw.trans{H1 H2:Hp}(s:cw a H H1)(t:cw a H1 H2):cw a H H2:=λb o h n=>t b o (s b o h n) n
theorem cw.put{o:HO}:cw a H (upd H a o):=λb u h n=>by rw[bR n];exact h
def VQ:Sp:=λvs H Q _=>∃(a:Addr)(n:Nat),vs=[.ref a]/\Hand H a n/\n<=900/\∀p H',p∈ig->cw a H H'->Hand H' a (n+3)->Q (.int p) H'
theorem VR:dy ["hand","primes"] ["hand"] (cu JZ):=dI rfl rfl rfl (by decide +kernel) rfl
theorem ae4{fD:Addr}{iI:FuncData}(F:cJ K "_law_prime" "_law_prime" JZ f fd)
  (GD:cc P w K mg base cb 1 fD iI ["hand","limit"] nE) (kD:Kp K fD) (bD:Binds K iI ["hand","limit"] []) (mD:Mg mg "_law_draw" fD):cc P w K mg base cb 2 f fd ["hand"] VQ:=by
 refine F.ok VR (λvs H Q E h=>?_) (λcz A outer s H vs Q E hr h=>?_)
 ·obtain⟨a,n,rfl,_⟩:=h;rfl
 ·obtain⟨a,n,rfl,hH,hn,q⟩:=h;refine⟨cF (dM (QP vF) (cG 1)) (fQ (cO (sE K) (bg 1) (cO (sE K) (gI (bz (jL nE [] E0 (bz (bg 0) (bz (tC (.int 4)) cy))) (bz (jL nE [] E0 (bz (bg 0) (bz (tC (.int 25)) cy))) cy))) (jL nE [] E0 (bz (bg 0) (bz (tC (.int 2)) cy)))))),bo ?_ ?_,?_⟩
  ·refine cv ?_ ?_ ?_ ?_ ?_ ?_
   ·exact VR.nd
   ·rfl
   ·exact Or.inl rf
   ·refine abn ?_;exact pai (by kernel_rfl)
   ·rfl
   ·exact .inl rf
  ·refine bY ?_;refine cC ?_;refine br ?_ ?_ ?_ ?_
   ·exact eY K rf
   ·exact pv 1
   ·refine br ?_ ?_ ?_ ?_
    ·exact eY K rf
    ·exact gT (aV (cK GD hr rf mD kD bD .nil cL (aV (pv 0) (aV ba aZ))) (aV (cK GD hr rf mD kD bD .nil cL (aV (pv 0) (aV ba aZ))) aZ))
    ·exact cK GD hr rf mD kD bD .nil cL (aV (pv 0) (aV ba aZ))
    ·exact λ_ _=>rf
   ·exact λ_ _=>rf
  refine⟨(by show 25<=sizeLine;decide),λl hl=>?_⟩;have cZ:l≠a:=λz=>by
   obtain⟨xs,e⟩:=hH.at_;rw[z,e]at hl;cases hl
  refine⟨_,rf,_,rf,a,4,n,rf,hH.new hl,by lia,by decide,by decide,λd1 xs1 p0 p1 h1=>?_⟩;refine⟨_,rf,a,25,n+1,rf,h1,by lia,by decide,by decide,λd2 FQ r0 r1 h2=>?_⟩;rw[C9]at h2 |-;refine⟨(by show 2<=sizeLine;decide),λl2 jm=>⟨_,rfl,a,2,n+2,rfl,h2.new jm,by lia,by decide,by decide,λd3 MR t0 t1 h3=>?_⟩⟩;have na2:l2≠a:=λz=>by rw[z,bb]at jm;cases jm
  have FR:∀b o,(upd H l (.lst (vF.map V.int))) b=some o->b≠a->(upd (upd (upd (upd H l (.lst (vF.map V.int))) a (.lst FQ)) l2 (.lst [.int d1,.int d2])) a (.lst MR)) b=some o:=λb o e nb=>by
   have e1:(upd (upd H l (.lst (vF.map V.int))) a (.lst FQ)) b=some o:=by rw[bR nb];exact e
   rw[bR nb,bR (fj e1 jm)];exact e1
  have gl:=FR l _ bb cZ;have VT:(upd (upd (upd (upd H l (.lst (vF.map V.int))) a (.lst FQ)) l2 (.lst [.int d1,.int d2])) a (.lst MR)) l2=some (.lst [.int d1,.int d2]):=by rw[bR na2];exact bb
  have sm:cw a H (upd (upd (upd (upd H l (.lst (vF.map V.int))) a (.lst FQ)) l2 (.lst [.int d1,.int d2])) a (.lst MR)):=λb o e nb=>FR b o (by rw[bR (fj e hl)];exact e) nb;have fin:∀d:Int,0<=d->d<25->∃pr,pr∈ig/\(vF.map V.int)[d.toNat]?=some (.int pr):=λd e0 e1=>by
   obtain⟨pr,z1,z2⟩:=ae3 d.toNat (by lia);exact⟨pr,z2,by rw[dG,z1];rfl⟩
  have d01:d3=0\/d3=1:=by lia
  rcases d01 with rfl|rfl
  ·obtain⟨pr,hp,hi⟩:=fin d1 p0 (by lia);have ed:d1=((d1.toNat:Nat):Int):=by lia
   refine⟨l2,_,0,_,rf,rf,.of VT,bX (j:=0) rf,l,_,d1,_,rf,rf,.of gl,?_,q pr _ hp sm h3⟩;rw[ed];exact bX (j:=d1.toNat) hi
  ·obtain⟨pr,hp,hi⟩:=fin d2 r0 r1;have ed:d2=((d2.toNat:Nat):Int):=by lia
   refine⟨l2,_,1,_,rf,rf,.of VT,bX (j:=1) rf,l,_,d2,_,rf,rf,.of gl,?_,q pr _ hp sm h3⟩;rw[ed];exact bX (j:=d2.toNat) hi
noncomputable def Ck:List Expr->Option (List Str)
 | []=>some []
 | .Constant (.str x) _ _::es=>(Ck es).map (x::·)
 |_=>none
def MS(xs:List Str):TE:=gI (λ_ H Q=>Q (xs.map V.str) H)
theorem VU{X:Cx}:∀(es:List Expr)(xs:List Str),Ck es=some xs->PA X es (λ_ H Q=>Q (xs.map V.str) H)
 | [],xs,h=>by cases h;exact aZ
 |e::es,xs,h=>by
  unfold Ck at h;split at h
  case h_1=>rename_i z;cases z
  case h_2 x _ _ es' z=>
   cases z;cases e:Ck es with
   |none=>rw[e]at h;cases h
   |some ys=>
    rw[e]at h;cases h;exact aV dh (VU es ys e)
  case h_3=>cases h
theorem ae5{es:List Expr}{xs:List Str}{pos:Pos}(h:Ck es=some xs):PE X (.List es pos) (MS xs):=gT (VU es xs h)
noncomputable def MT:Option Expr->Option Str
 |some (.Constant (.str x) _ _)=>some x
 |_=>none
noncomputable def MU:Expr->Option (List Int)
 | .Tuple es _ _=>yF es
 |_=>none
noncomputable def FU:List (Option Expr)->List Expr->Option (List (Str×List Int))
 | [],[]=>some []
 |k::ks,v::vs=>match MT k,MU v,FU ks vs with
  |some x,some r,some ps=>some ((x,r)::ps)
  |_,_,_=>none
 |_,_=>none
noncomputable def VW:Expr->Option (List (Str×List Int))
 | .Dict ks vs _=>FU ks vs
 |_=>none
def MV(ns:List Int):TE:=fo (λ_ H Q=>Q (ns.map V.int) H)
noncomputable def pk:List (Str×List Int)->List (TE×TE)
 | []=>[]
 |p::ps=>(tC (.str p.1),MV p.2)::pk ps
theorem ae6{k:Option Expr}(h:MT k=some x):∃e,k=some e/\PE X e (tC (.str x)):=by
 unfold MT at h;split at h
 case h_2=>exact nomatch h
 case h_1 y i pos=>cases h;exact⟨_,rf,dh⟩
theorem ae7{v:Expr}(h:MU v=some r):PE X v (MV r):=by
 unfold MU at h;split at h
 case h_2=>exact nomatch h
 case h_1 es i pos=>exact cU (IY es r h)
theorem VX{X:Cx}{pos:Pos}:∀(ks:List (Option Expr))(vs:List Expr)(L:List (Str×List Int)),FU ks vs=some L->
  Bf X pos ks vs (pk L)/\ks.all (·.isSome)=true/\ks.length=L.length/\vs.length=L.length
 | [],[],L,h=>by cases h;exact⟨yQ,rf,rf,rf⟩
 | [],_::_,_,h=>nomatch h
 |_::_,[],_,h=>nomatch h
 |k::ks,v::vs,L,h=>by
  unfold FU at h;split at h
  case h_2=>exact nomatch h
  case h_1 x r ps h1 h2 h3=>
   cases h;obtain⟨e,rfl,he⟩:=ae6 (X:=X) h1;obtain⟨g1,g2,g3,g4⟩:=VX (X:=X) (pos:=pos) ks vs ps h3;exact⟨qY he (ae7 h2) g1,by rw[List.all_cons,g2];rfl,aj (· + 1) g3,aj (· + 1) g4⟩
theorem VY{e:Expr}(h:VW e=some L)(h0:L≠[])(Jv:L.length<=15):PE X e (pW (pk L)):=by
 unfold VW at h;split at h
 case h_2=>exact nomatch h
 case h_1 ks vs pos=>
  obtain⟨g1,g2,g3,g4⟩:=VX (X:=X) (pos:=pos) ks vs L h;exact yR g1 g2 (g3.trans g4.symm) (λz=>by rw[z]at g3;exact h0 (List.eq_nil_of_length_eq_zero g3.symm)) (by rw[g3];exact Jv)
inductive jG(K:Frag)(H:Hp):List (Str×List Int)->List (Key×V)->Prop where
 |nil:jG K H [] []
 |cons {x:Str} {r:List Int} {v:Addr} {L:List (Str×List Int)} {kvs:List (Key×V)} (h:bq K H v (r.map V.int)) (t:jG K H L kvs):jG K H ((x,r)::L) ((.inr x,.ref v)::kvs)
section
variable{K:Frag}{H H':Hp}{L:List (Str×List Int)}{kvs:List (Key×V)}
theorem jG.tup(h:jG K H L kvs)(s:dF H H'):jG K H' L kvs:=by
 induction h with
 |nil=>exact .nil
 |cons h t ih=>exact .cons (s.bc h) ih
theorem jG.keys(h:jG K H L kvs):kvs.map (·.1)=L.map λp=>(Sum.inr p.1:Key):=by
 induction h with
 |nil=>rfl
 |cons h t ih=>rw[gN,gN,ih]
theorem jG.get(h:jG K H L kvs)(x:Str):(∃r v,L.lookup x=some r/\da (κ:=Key) kvs (.inr x)=some (.ref v)/\bq K H v (r.map V.int))\/(L.lookup x=none/\da (κ:=Key) kvs (.inr x)=none):=by
 induction h with
 |nil=>exact .inr ⟨rf,rf⟩
 | @cons y r v L kvs h t ih=>
  by_cases e:y=x
  ·subst e;exact .inl ⟨r,v,by simp,n6 rf,h⟩
  ·have n:(x==y)=false:=beq_eq_false_iff_ne.mpr λz=>e z.symm;rw[vT,n,og (p:=(Sum.inr y,V.ref v)) (λz=>e (Sum.inr.inj z))];exact ih
end
theorem VZ:∀(ia kvs:List (Key×V)),((kvs++ia).map (·.1)).Nodup->iF kvs ia=kvs++ia
 | [],kvs,_=>by rw[iT];rfl
 |p::ia,kvs,h=>by
  have hv:da kvs p.1=none:=by
   unfold da;rw[Option.map_eq_none_iff,xP];intro q hq z;rw[aJ]at z;rw[du,gN,qG]at h;exact h.2.2 q.1 (oI hq) p.1 cQ z
  show iF (eS kvs p.1 p.2) ia=_;rw[Eb _ hv,VZ ia (kvs++[(p.1,p.2)]) (by rw[i4];exact h),i4];rfl
theorem V0{K:Frag}{σ:St}:∀(L:List (Str×List Int)){H:Hp}{Q:List (V×V)->Hp->Prop},(∀p∈L,p.2.length<=1000)->(∀kvs H',aW H H'->jG K H' L kvs->Q (kvs.map λkv=>(kV kv.1,kv.2)) H')->wJ (pk L) σ H Q
 | [],H,Q,_,q=>by
  unfold pk wJ;exact q [] H (.refl _) .nil
 |p::L,H,Q,hl,q=>by
  have h0:=hl p cQ;have h:MV p.2 σ H (λy H2=>wJ (pk L) σ H2 λps H3=>Q ((.str p.1,y)::ps) H3):=by
   refine⟨by rw[bu];exact gn h0 (by decide),λt ht=>?_⟩;exact V0 (K:=K) L (λx hx=>hl x (dU _ hx)) λkvs H' s h=>q ((.inr p.1,.ref t)::kvs) H' ((aW.upd ht).trans s) (.cons (s.bc (.of bb)) h)
  unfold pk wJ;exact h
theorem V1{K:Frag}(nd:(L.map (·.1)).Nodup)(hL:L.length<=15)(hl:∀p∈L,p.2.length<=1000)(q:∀p kvs H',aW H H'->H' p=some (.dK kvs)->jG K H' L kvs->Q (.ref p) H'):pW (pk L) σ H Q:=by
 intro p hp;have hs:aW H (upd H p (.dK [])):=.upd hp;have DR:(upd H p (.dK [])) p=some (.dK []):=bb;generalize upd H p (.dK [])=H0 at hs DR;refine V0 (K:=K) L hl λkvs H1 s1 r=>?_;have V2:=s1 _ _ DR;have ek:=r.keys;refine⟨V2,kvs,rf,?_,?_⟩
 ·have:=aj List.length ek
  rw[bu,bu]at this;lia
 ·rw[VZ kvs [] (by
   rw[jX,ek];rw[show(L.map λp=>(Sum.inr p.1:Key))=(L.map (·.1)).map Sum.inr by rw[mn];rfl];exact List.Pairwise.map _ (λa b (h:a≠b) (z:Sum.inr a=Sum.inr b)=>h (Sum.inr.inj z)) nd),jX]
  exact q p kvs _ (aW.put (hs.trans s1) hp) bb (r.tup (dF.uU V2))
theorem fu(h:te σ H λx H1=>u D (σ.set i (some x)) H1):cF (dM te (cG i)) u D σ H:=h
theorem FV{g:TG}(h:te σ H λx H1=>g x σ H1 (u D)):cF (dM te g) u D σ H:=h
theorem lH{c:TT}(h:c σ H λb H1=>if b=true then t { D with nx:=u D } σ H1 else u D σ H1):cF (eA c t gG) u D σ H:=h
theorem qo(h:te σ H D.rt):fQ te D σ H:=h
theorem V3{K:Frag}{j:Nat}{v:Addr}{x y:V}{R:St->Hp->Prop}(h:bq K H v [x,y])(q:R ((σ.set i (some x)).set j (some y)) H):si K 2 (jK (cG i) (jK (cG j) uE)) (.ref v) σ H R:=⟨v,_,rfl,h,rfl,_,_,rfl,_,_,rfl,rfl,q⟩
theorem V4{K:Frag}{j k:Nat}{v:Addr}{x y z:V}{R:St->Hp->Prop}(h:bq K H v [x,y,z])(q:R (((σ.set i (some x)).set j (some y)).set k (some z)) H):si K 3 (jK (cG i) (jK (cG j) (jK (cG k) uE))) (.ref v) σ H R:=⟨v,_,rfl,h,rfl,_,_,rfl,_,_,rfl,_,_,rfl,rfl,q⟩
def tY(i:Nat)(t:TE):TE:=jL nE [] E0 (bz (bg i) (bz t cy))
section
variable{K:Frag}{σ:St}{H:Hp}{a:Addr}{n:Nat}
theorem cw.bc{ys:List V}(s:cw a H H')(hH:Hand H a n)(h:bq K H b ys):bq K H' b ys:=by
 obtain⟨xs,e⟩:=hH.at_;rcases h with(h|⟨o,h⟩)|h
 ·exact .inl (.inl (s _ _ h λz=>by rw[z,e]at h;cases h))
 ·exact .inl (.inr ⟨o,s _ _ h λz=>by rw[z,e]at h;cases h⟩)
 ·exact .inr h
theorem aW.de(s:aW H H'):cw a H H':=λb o e _=>s b o e
theorem pq{t:TE}{lim:Int}(h3:σ[i]?=some (some (.ref a)))(ht:∀R:VK,R (.int lim) H->t σ H R)(hH:Hand H a n)(hn:n<=900000)(l0:1<=lim)(l1:lim<=1000)(q:∀d H',0<=d->d<lim->cw a H H'->Hand H' a (n+1)->Q (.int d) H'):tY i t σ H Q:=
 ⟨_,h3,ht _ ⟨a,lim,n,rfl,hH,by lia,l0,l1,λd xs d0 d1 h=>q d _ d0 d1 cw.put h⟩⟩
theorem xC(hH:Hand H a n)(hb:H b=none):b≠a:=λz=>by
 obtain⟨xs,e⟩:=hH.at_;rw[z,e]at hb;cases hb
def ae8:List V->Hp->VK->Prop:=λxs H Q=>(∃i,xs=[.int i]/\Q (.int i) H)\/∃k,xs=[.bl k]/\Q (.int (if k then 1 else 0)) H
def zK(i:Nat)(x:Str):TE:=pP ae8 (bz (cO j6 (bg i) (tC (.str x))) cy)
theorem MW{ta tb:TE}{i j:Int}(h1:fe ta σ H i)(h2:fe tb σ H j)(hi:-(2^60)<i/\i<2^60):fe (cO (rI Ap λi j=>.int (i*j)) ta tb) σ H (i*j):=λH' s _ q=>h1 H' s _ (h2 H' s _ ⟨i,j,rfl,rfl,.inl ⟨by lia,by lia⟩,q⟩)
theorem MX{ta tb:TE}{i j:Int}(h1:fe ta σ H i)(h2:fe tb σ H j):fe (cO (jx λi j=>.int (i-j)) ta tb) σ H (i-j):=λH' s _ q=>h1 H' s _ (h2 H' s _ ⟨i,j,rfl,rfl,q⟩)
theorem Hand.mono(h:Hand H a n)(s:aW H H'):Hand H' a n:=let ⟨x0,x1,x2,e,r⟩:=h;⟨x0,x1,x2,s _ _ e,r⟩
theorem FW(h:σ[i]?=some (some (.str y))):fe (zK i x) σ H (if y=x then 1 else 0):=λH' s R q=>by
 refine⟨_,h,rf,.inr ⟨_,rf,?_⟩⟩;by_cases e:y=x
 ·rw[af e]at q;rw[aD (aj V.str e)];exact q
 ·rw[ag e]at q;rw[ae λz=>e (V.str.inj z)];exact q
theorem ae9{Q:Bool->Hp->Prop}(h:σ[i]?=some (some (.str y)))(q:Q (decide (y=x)) H):gH (cO j6 (bg i) (tC (.str x))) σ H Q:=by
 refine⟨_,h,rf,_,rf,?_⟩;simpa using q
theorem FX{c:Prop} [Decidable c] {A B:Prop} (h1:c->A) (h2:¬c->B):if decide c=true then A else B:=by
 by_cases h:c
 ·rw[aD h];exact eC (h1 h)
 ·rw[ae h];exact dB (h2 h)
end
def gh(K:Frag)(H:Hp)(v:Addr)(d:Drw):Prop:=∃aw,bq K H v [.ref aw,.int (d.bh:Int),.int (d.bf:Int)]/\bq K H aw d.aX
section
variable{K:Frag}{H H':Hp}{v:Addr}{d:Drw}
theorem gh.mono(h:gh K H v d)(s:aW H H'):gh K H' v d:=let ⟨aw,h1,h2⟩:=h;⟨aw,s.bc h1,s.bc h2⟩
theorem gh.tup(h:gh K H v d)(s:dF H H'):gh K H' v d:=let ⟨aw,h1,h2⟩:=h;⟨aw,s.bc h1,s.bc h2⟩
theorem gh.de(h:gh K H v d)(hH:Hand H a n)(s:cw a H H'):gh K H' v d:=let ⟨aw,h1,h2⟩:=h;⟨aw,cw.bc s hH h1,cw.bc s hH h2⟩
end
def Drw.mid(s:Int):Drw->Prop
 | .box _ _ _ _=>True
 | .times _=>True
 | .back d=>d.mid s
 | .cD a b=>a.mid s/\b.mid s
 | .bj a b=>a.mid s/\b.mid s/\(a.bf:Int)<=s
theorem Drw.pw{p s:Int}(s2:2<=s):∀{d:Drw},d.wf p->d.aX.length<=3->d.mid s
 | .box _ _ _ _,_,_=>True.intro
 | .times _,_,_=>True.intro
 | .back d,h,hl=>Drw.pw (d:=d) s2 h (by simp only[Drw.aX,dW]at hl;lia)
 | .cD a b,h,hl=>by
  simp only[Drw.aX,dW,cm]at hl;exact⟨Drw.pw s2 h.1 (by lia),Drw.pw s2 h.2 (by lia)⟩
 | .bj a b,h,hl=>by
  simp only[Drw.aX,dW,cm]at hl;have hb:=b.pos;have hf:=(Drw.ij h.1).2;exact⟨Drw.pw s2 h.1 (by lia),Drw.pw s2 h.2.1 (by lia),by lia⟩
noncomputable abbrev xD:List Str:=["id","swap","copy","end","add","none","times","cup","empty","copy","add","times"]
noncomputable abbrev iA:List (Str×List Int):=[("id",[1,1]),("swap",[2,2]),("copy",[1,2]),("end",[1,0]),("add",[2,1]),("none",[0,1])]
theorem V5:(iA.map (·.1)).Nodup:=by decide +kernel
theorem FY:iA.length<=15:=by show 6<=15;decide
theorem V6:iA≠[]:=λz=>nomatch z
theorem V7:∀p∈iA,p.2.length<=1000:=by decide +kernel
theorem afa:∀j:Nat,j<12->∃x,xD[j]?=some x/\(x="times"\/∃e∈ip,e.1=x/\x ≠ "times"):=by
 have h:∀j:Nat,j<12->(match xD[j]? with|some x=>decide (x="times")||ip.any λe=>decide (e.1=x) && !decide (x="times")|none=>false)=true:=by decide +kernel
 intro j hj;have z:=h j hj;cases e:xD[j]? with
 |none=>rw[e]at z;cases z
 |some x=>
  rw[e]at z;refine⟨x,rf,?_⟩;simp only[Bool.or_eq_true,aJ,List.any_eq_true,gM,Bool.not_eq_true',aI]at z;exact z
theorem V8:iA.lookup ("times":Str)=none:=by decide +kernel
theorem V9:("times":Str) ≠ "cup":=by decide +kernel
theorem Wa:∀e∈ip,iA.lookup e.1=some [(e.2.1:Int),(e.2.2.1:Int)]\/(iA.lookup e.1=none/\(e.2.1:Int)=0/\(e.2.2.1:Int)=2*(if e.1="cup" then 1 else 0)):=by decide +kernel
def zL(K:Frag):Sp:=λvs H Q _=>∃(a:Addr)(n:Nat)(p:Int),vs=[.ref a,.int p]/\Hand H a n/\n<=800/\2<=p/\p<=97/\
 ∀v d H' n',d.wf p->d.aX.length<=3->d.bh<=2->d.bf<=2->cw a H H'->Hand H' a n'->n'<=n+3->gh K H' v d->Q (.ref v) H'
theorem tZ:dy ["hand","p","some","word","times","sizes","left","right","words"] ["hand","p"] (cu JS):=dI rfl rfl rfl (by decide +kernel) rfl
abbrev MY:R2:=rI Ap λi j=>.int (i*j)
def Cm:TE:=Bh (bg 5) (bg 3) (fo (bz (bg 4) (bz (kf (bg 4) (cO MY (tC (.int 2)) (zK 3 "cup"))) cy)))
def FZ(K:Frag):TS:=cF (dM (MS xD) (cG 2)) (cF (dM (cO (sE K) (bg 2) (tY 0 (tC (.int 12)))) (cG 3)) (cF (dM (zK 3 "times") (cG 4)) (cF (dM (pW (pk iA)) (cG 5)) (cF (dM (Cm) (si K 2 (jK (cG 6) (jK (cG 7) uE)))) (cF (dM (fo (bz (bg 3) cy)) (cG 8)) (cF (eA (gH (cO j6 (bg 3) (tC (.str "times")))) (dM (fo (bz (bg 3) (bz (tY 0 (bg 1)) cy))) (cG 8)) gG) (cF (eA (gH (cO j6 (tY 0 (tC (.int 3))) (tC (.int 1)))) (fQ (fo (bz (g8 K (fo (bz (tC (.str "back")) cy)) (bg 8)) (bz (bg 7) (bz (bg 6) cy))))) gG) (fQ (fo (bz (bg 8) (bz (bg 6) (bz (bg 7) cy))))))))))))
theorem afb{d:Addr}{tm l r:Int}(h3:σ[3]?=some (some (.str x)))(h4:σ[4]?=some (some (.int tm)))(h5:σ[5]?=some (some (.ref d)))(hd:H d=some (.dK kvs))(hD:jG K H iA kvs)
  (hs:iA.lookup x=some [l,r]\/(iA.lookup x=none/\l=tm/\r=tm+2*(if x="cup" then 1 else 0))) (q:∀v H',aW H H'->bq K H' v [.int l,.int r]->Q (.ref v) H'):Cm σ H Q:=by
 unfold Cm Bh;refine⟨_,h5,d,rf,.inl ⟨_,.of hd⟩,_,h3,_,h4,?_⟩;refine ke (i:=tm) (j:=2*(if x="cup" then 1 else 0)) (eE h4) (MW jR (FW h3) (by decide)) H (.refl _) _ ?_
 refine⟨by show 2<=sizeLine;decide,λt ht=>?_⟩;have st:=aW.upd (o:=.tup [.int tm,.int (tm+2*(if x="cup" then 1 else 0))]) ht
 refine⟨_,eI.k (k:=.inr x) (st _ _ hd),?_⟩;rcases hD.get x with⟨row,v,e1,e2,e3⟩|⟨e1,e2⟩
 ·rcases hs with hs|⟨hs,_⟩
  ·rw[e1]at hs;cases hs;rw[e2];exact q v _ st (st.bc e3)
  ·rw[e1]at hs;cases hs
 ·rcases hs with hs|⟨_,rfl,rfl⟩
  ·rw[e1]at hs;cases hs
  ·rw[e2];exact q t _ st (.of bb)
theorem afc(hH:Hand H a n)(hn:n<=800)(p2:2<=p)(dX:p<=97)(q:∀v d H' n',d.wf p->d.aX.length<=3->d.bh<=2->d.bf<=2->cw a H H'->Hand H' a n'->n'<=n+3->gh K H' v d->D.rt (.ref v) H') :
  FZ K D [some (.ref a),some (.int p),none,none,none,none,none,none,none] H:=by
 unfold FZ;refine fu ?_;refine⟨by show 12<=sizeLine;decide,λl0 Bs=>?_⟩;refine fu ⟨_,rf,?_⟩;refine pq rf (λR h=>h) (hH.new Bs) (by lia) (by decide) (by decide) λj H1 j0 j1 s1 g1=>?_;obtain⟨x,hx,hw⟩:=afa j.toNat (by lia);refine⟨l0,xD.map V.str,j,.str x,rf,rf,.of (s1 _ _ bb (xC hH Bs)),?_,?_⟩
 ·rw[show j=((j.toNat:Nat):Int) by lia];refine bX (j:=j.toNat) ?_;rw[dG,hx];rfl
 have sA:cw a H H1:=λb o e nb=>s1 b o (by rw[bR (fj e Bs)];exact e) nb;refine fu ?_;refine FW (y:=x) (x := "times") rf H1 (.refl _) _ ?_;refine fu ?_;refine V1 (K:=K) V5 FY V7 ?_;intro dk kvs H2 s2 hd hD;have g2:Hand H2 a (n+1):=g1.mono s2;have sB:cw a H H2:=cw.trans sA (aW.de s2);obtain⟨l,r,aY,hsz,hE⟩:∃(l r:Nat)(aY:LL),(iA.lookup x=some [(l:Int),(r:Int)]\/(iA.lookup x=none/\(l:Int)=(if x="times" then 1 else 0)/\(r:Int)=(if x="times" then 1 else 0)+2*(if x="cup" then 1 else 0)))/\((x="times"/\l=1/\r=1)\/(x ≠ "times"/\(x,l,r,aY)∈ip)):=by
  rcases hw with rfl|⟨e,he,rfl,cZ⟩
  ·exact⟨1,1,[],.inr ⟨V8,by rw[af rf];rfl,by rw[af rfl,ag V9];rfl⟩,.inl ⟨rfl,rfl,rfl⟩⟩
  ·refine⟨e.2.1,e.2.2.1,e.2.2.2,?_,.inr ⟨cZ,he⟩⟩;rw[ag cZ];rcases Wa e he with z|⟨z1,z2,z3⟩
   ·exact .inl z
   ·exact .inr ⟨z1,z2,by rw[z3,qD]⟩
 refine FV ?_;refine afb (K:=K) (x:=x) rf rf rf hd hD hsz ?_;intro v3 H3 s3 MZ;have g3:Hand H3 a (n+1):=g2.mono s3;have sC:cw a H H3:=cw.trans sB (aW.de s3);refine V3 MZ ?_;refine fu ⟨_,rf,by show 1<=sizeLine;decide,λw4 FJ=>?_⟩;have s4:=aW.upd (o:=.tup [.str x]) FJ;have g4:Hand (upd H3 w4 (.tup [.str x])) a (n+1):=g3.new FJ;have xE:bq K (upd H3 w4 (.tup [.str x])) w4 [.str x]:=.of bb;have sD:cw a H (upd H3 w4 (.tup [.str x])):=cw.trans sC (aW.de s4);generalize upd H3 w4 (.tup [.str x])=H4 at s4 g4 xE sD |-;have eW:∀(d:Drw)(ws:Addr)(H5:Hp)(m:Nat),d.wf p->d.aX.length<=2->d.bh=l->d.bf=r->l<=2->r<=2->cw a H H5->Hand H5 a m->m<=n+2->bq K H5 ws d.aX->
   cF (eA (gH (cO j6 (tY 0 (tC (.int 3))) (tC (.int 1)))) (fQ (fo (bz (g8 K (fo (bz (tC (.str "back")) cy)) (bg 8)) (bz (bg 7) (bz (bg 6) cy))))) gG) (fQ (fo (bz (bg 8) (bz (bg 6) (bz (bg 7) cy))))) D
    [some (.ref a),some (.int p),some (.ref l0),some (.str x),some (.int (if x="times" then 1 else 0)),some (.ref dk),some (.int (l:Int)),some (.int (r:Int)),some (.ref ws)] H5:=by
  intro d ws H5 m hd ji el er l2 r2 sm hm hmn xE;refine lH ?_;refine pq rf (λR h=>h) hm (by lia) (by decide) (by decide) λj H6 j0 j1 s6 g6=>⟨rf,_,rf,?_⟩;have Wb:=cw.bc s6 hm xE;have iy:=cw.trans sm s6;by_cases ej:j=1
  ·rw[aD (aj V.int ej)];refine eC ⟨by show 1<=sizeLine;decide,λb hb=>⟨_,rfl,?_⟩⟩;have sb:=aW.upd (o:=.tup [.str "back"]) hb;refine⟨b,ws,_,_,rf,rf,.of bb,sb.bc Wb,?_,λc H7 s7 hc=>?_⟩
   ·have:(1000:Nat)<=sizeLine:=by decide
    show 1+d.aX.length<=sizeLine;lia
   refine⟨_,rf,_,rf,by show 3<=sizeLine;decide,λv hv=>?_⟩;have sv:=(sb.trans s7).trans (aW.upd (o:=.tup [.ref c,.int (r:Int),.int (l:Int)]) hv);refine q v (.back d) _ (m+1) hd (by simp only[Drw.aX,dW];lia) (by show d.bf<=2;lia) (by show d.bh<=2;lia) (cw.trans iy (aW.de sv)) (g6.mono sv) (by lia) ⟨c,?_,(aW.upd hv).bc hc⟩;refine .of ?_;rw[bb];show some (HO.tup _)=some (HO.tup [_,.int (d.bf:Int),.int (d.bh:Int)]);rw[el,er]
  ·rw[ae λz=>ej (V.int.inj z)];refine dB ⟨_,rf,_,rf,_,rf,by show 3<=sizeLine;decide,λv hv=>?_⟩;have sv:=aW.upd (o:=.tup [.ref ws,.int (l:Int),.int (r:Int)]) hv;refine q v d _ (m+1) hd (by lia) (by lia) (by lia) (cw.trans iy (aW.de sv)) (g6.mono sv) (by lia) ⟨ws,?_,sv.bc Wb⟩;refine .of ?_;rw[bb,el,er]
 refine lH ?_;refine ae9 (y:=x) rf (FX (λct=>?_) λct=>?_)
 ·rcases hE with⟨_,rfl,rfl⟩|⟨cZ,_⟩
  ·refine⟨_,rf,?_⟩;refine pq rf (λR h=>⟨_,rf,h⟩) g4 (by lia) (by lia) (by lia) λm H5 m0 m1 s5 g5=>?_;refine⟨by show 2<=sizeLine;decide,λw5 Wc=>?_⟩;have s6:=aW.upd (o:=.tup [.str x,.int m]) Wc;refine eW (.times m) w5 _ (n+1+1) ⟨m0,m1⟩ (by show 2<=2;decide) rfl rfl (by decide) (by decide) (cw.trans sD (cw.trans s5 (aW.de s6))) (g5.new Wc) (by lia) ?_;rw[ct];exact .of bb
  ·exact absurd ct cZ
 ·rcases hE with⟨gW,_⟩|⟨_,hb⟩
  ·exact absurd gW ct
  ·obtain⟨b1,b2,_⟩:=ER _ hb;exact eW (.box x l r aY) w4 H4 (n+1) hb (by show 1<=2;decide) rfl rfl b1 b2 sD g4 (by lia) xE
noncomputable abbrev Wd:List Str:=["words","sizes","parts","rows","alias","count","at","word","one","other","k","times","left","right","row"]
theorem kh:dy Wd ["words"] (cu Ek):=dI rfl rfl rfl (by decide +kernel) rfl
theorem afd:(["port","count","row"]:List Str).Nodup:=by decide +kernel
abbrev We(K:Frag)(i n:Nat):TE:=cO (sE K) (bg i) (tC (.int (n:Int)))
abbrev vG(a b:TE):TE:=cO (jx λi j=>.int (i+j)) a b
abbrev afe(a b:TE):TE:=cO (jx λi j=>.int (i-j)) a b
abbrev i8(x:Str):TT:=gH (cO j6 (bg 7) (tC (.str x)))
abbrev F0(K:Frag):TE:=DA K "list" DC (bg 2)
abbrev Ga(K:Frag)(te:TE):TS:=wg (AA K "list" yh (bg 2) (bz te cy))
abbrev ki(K:Frag)(i n:Nat):TE:=cO (sH K) (bg i) (tC (.int (n:Int)))
abbrev Wf(K:Frag)(te:TE):TE:=pP (λxs H Q=>∃p ys,xs=[.ref p]/\(dQ K H p ys\/bq K H p ys)/\Q (.int ys.length) H) (bz te cy)
abbrev rLR:List V->Hp->VK->Prop:=λxs H Q=>∃p i j,xs=[.ref p]/\H p=some (.mr i j)/\(-(2^62)<=i/\i<2^62/\-(2^62)<=j/\j<2^62)/\j-i<=16777216/\∀l,H l=none->Q (.ref l) (upd H l (.lst ((List.range (j-i).toNat).map λ(k:Nat)=>V.int (i+k))))
abbrev rR2:List V->Hp->VK->Prop:=λxs H Q=>∃i j:Int,xs=[.int i,.int j]/\∀p,H p=none->Q (.ref p) (upd H p (.mr i j))
abbrev M0(a b:TE):TE:=pP rLR (bz (pP rR2 (bz a (bz b cy))) cy)
def vH(K:Frag):TS:=cF (dM (F0 K) (cG 8)) (Ga K (fo (bz (ki K 8 1) (bz (ki K 8 0) (bz (ki K 8 2) cy)))))
def Gb(K:Frag):TS:=Ga K (fo (bz (cO uG (ki K 8 0) (ki K 9 0)) (bz (cO uG (ki K 8 1) (ki K 9 1)) (bz (cO uG (ki K 8 2) (ki K 9 2)) cy))))
def Gd(K:Frag):TS:=cF (wm (OV (bz (Wf K (ki K 8 1)) cy)) (cG 10) (Rv (bg 4) (cO (sE K) (ki K 9 0) (bg 10)) (cO (sE K) (ki K 8 1) (bg 10)))) (Ga K (fo (bz (ki K 8 0) (bz (ki K 9 1) (bz (cO uG (cO uG (ki K 8 2) (ki K 8 1)) (ki K 9 2)) cy)))))
def vI(K:Frag):TS:=cF (dM (F0 K) (cG 8)) (cF (dM (F0 K) (cG 9)) (eA (i8 "beside") (Gb K) (Gd K)))
def Cn(K:Frag):TE:=pP (K1 K) (bz (To (DM (Te (bg 14)) 1 [5,14] (cG 0) uO (fo (bz (vG (bg 1) (bg 0)) (bz (Js (bg 2) (bg 0)) cy))))) cy)
def Co:TE:=Bh (bg 1) (bg 7) (fo (bz (bg 11) (bz (kf (bg 11) (cO MY (tC (.int 2)) (zK 7 "cup"))) cy)))
def M1(K:Frag):TE:=jL Lm [] E0 (bz (bg 7) (bz (cO (sH K) (g8 K (bg 0) (fo (bz (tC (.int 0)) cy))) (vG (bg 6) (tC (.int 1)))) cy))
def M5(K:Frag):TS:=wg (AA K "list" yh (bg 3) (bz (Cn K) cy))
def M6(K:Frag):TS:=cF (Ga K (fo (bz (M0 (bg 5) (vG (bg 5) (bg 12))) (bz (M0 (vG (bg 5) (bg 12)) (vG (vG (bg 5) (bg 12)) (bg 13))) (bz (gI cy) cy))))) (dM (vG (vG (bg 5) (bg 12)) (bg 13)) (cG 5))
def vJ(K:Frag):TS:=cF (dM (zK 7 "times") (cG 11)) (cF (dM Co (si K 2 (jK (cG 12) (jK (cG 13) uE)))) (cF (wm (An K (M1 K)) (cG 14) (M5 K)) (M6 K)))
section
variable{B H:Hp}{ap ar al aw dk:Addr}{F:FP}{D:Ends}
noncomputable abbrev jU(aw dk ap ar al:Addr)(N k:Nat)(v:V)(s8 s9 c9 dH eT fh eU:Option V):St:=[some (.ref aw),some (.ref dk),some (.ref ap),some (.ref ar),some (.ref al),some (.int (N:Int)),some (.int (k:Int)),some v,s8,s9,c9,dH,eT,fh,eU]
theorem ua(l m:List Nat):cx l++cx m=cx (l++m):=by unfold cx;rw[du]
theorem kj(l:List Nat):(cx l).length=l.length:=by unfold cx;rw[bu]
theorem Wg{l:List Nat}{s:Nat}(h:l[i]?=some s):(cx l)[i]?=some (.int (s:Int)):=by unfold cx;rw[dG,h];rfl
theorem Cp{R:VK}(h2:σ[2]?=some (some (.ref ap)))(h:dY K B ap ar al F H)(hp:F.parts=A::ns)
  (q:∀t a b c PS H',dJ [ap,ar,al] H'=dJ [ap,ar,al] H->dY K B ap ar al ⟨ns,F.aY,F.al,F.N⟩ H'->H' ap=some (.lst PS)->jT K (dJ [ap,ar,al] H') PS ns.reverse->bq K (dJ [ap,ar,al] H') t [.ref a,.ref b,.ref c]->dJ [ap,ar,al] H' a=some (.lst (cx A.l))->dJ [ap,ar,al] H' b=some (.lst (cx A.r))->dJ [ap,ar,al] H' c=some (.lst (cx A.cg))->R (.ref t) H') :
  F0 K σ H R:=by
 obtain⟨PS,g,hP⟩:=h.p;rw[hp,C3]at hP;obtain⟨lE,u,rfl,Wh,t,a,b,c,rfl,ht,ha,hb,hc⟩:=hP.init;have e:dJ [ap,ar,al] (upd H ap (.lst lE))=dJ [ap,ar,al] H:=tR Ly;refine⟨_,h2,.inl ⟨rf,_,.of g⟩,ap,lE++[.ref t],.ref t,rf,rf,g,by simp,?_⟩;rw[List.dropLast_concat];exact q t a b c lE _ e (h.Up Wh) bb (by rw[e];exact Wh) (by rw[e];exact ht) (by rw[e];exact ha) (by rw[e];exact hb) (by rw[e];exact hc)
theorem Ge{PS:List V}{aY:List dO}{Q:Hp->Prop}(h:dY K B ap ar al ⟨ns,aY,as,N⟩ H)(g:H ap=some (.lst PS))(hP:jT K (dJ [ap,ar,al] H) PS ns.reverse)(hl:ns.length<=1000)
  (ha:dJ [ap,ar,al] H a=some (.lst (cx A.l))) (hb:dJ [ap,ar,al] H b=some (.lst (cx A.r))) (hc:dJ [ap,ar,al] H c=some (.lst (cx A.cg))) (q:∀H',dY K B ap ar al ⟨A::ns,aY,as,N⟩ H'->Q H') :
  ([V.ref a,V.ref b,V.ref c]).length<=sizeLine/\∀t,H t=none->yh (.ref ap) [.ref t] (upd H t (.tup [.ref a,.ref b,.ref c])) (λ_ H'=>Q H'):=by
 have z:=i5;refine⟨by show 3<=sizeLine;lia,λt ht=>?_⟩;have s2:=aW.upd (o:=.tup [.ref a,.ref b,.ref c]) ht;refine⟨ap,PS,.ref t,rf,rf,s2 _ _ g,by have:=hP.1;rw[Aa]at this;lia,?_⟩;refine q _ ((h.grow s2).Up (ns:=A::ns) ?_);rw[C3];exact(hP.mono (ow s2)).snoc ⟨t,a,b,c,rf,.of (qg bb (h.out ht)),ow s2 _ _ ha,ow s2 _ _ hb,ow s2 _ _ hc⟩
theorem aff{k:Nat}(h:dY K B ap ar al F H)(hp:F.parts=A::ns)(hl:F.parts.length<=1000)
  (q:∀s8 H',dY K B ap ar al ⟨⟨A.r,A.l,A.cg,A.aY,A.al⟩::ns,F.aY,F.al,F.N⟩ H'->D.nx (jU aw dk ap ar al N k v s8 s9 c9 dH eT fh eU) H'):vH K D (jU aw dk ap ar al N k v s8 s9 c9 dH eT fh eU) H:=by
 unfold vH;refine fu (Cp rf h hp λt a b c PS H1 e1 h1 g1 nu ht ha hb hc=>?_);have iq:=qf.bc ht;refine⟨_,rf,.inl ⟨rf,_,.of g1⟩,_,rf,t,_,1,.ref b,rf,rf,iq,bX (j:=1) rf,_,rf,t,_,0,.ref a,rf,rf,iq,bX (j:=0) rf,_,rf,t,_,2,.ref c,rf,rf,iq,bX (j:=2) rf,?_⟩;exact Ge (A:=⟨A.r,A.l,A.cg,A.aY,A.al⟩) h1 g1 nu (by rw[hp,dW]at hl;lia) hb ha hc λH' h'=>q _ H' h'
theorem afg{k:Nat}{C:iP}{t t' a' b' c':Addr}{PS:List V}{aY rw':List dO}{aa:List (Nat×Nat)}{M:Nat}(h1:dY K B ap ar al ⟨ns,aY,as,M⟩ H)(g1:H ap=some (.lst PS))(nu:jT K (dJ [ap,ar,al] H) PS ns.reverse)(hl:ns.length<=1000)
  (ht:bq K (dJ [ap,ar,al] H) t [.ref a,.ref b,.ref c]) (ha:dJ [ap,ar,al] H a=some (.lst (cx A.l))) (hb:dJ [ap,ar,al] H b=some (.lst (cx A.r))) (hc:dJ [ap,ar,al] H c=some (.lst (cx A.cg)))
  (ni:bq K (dJ [ap,ar,al] H) t' [.ref a',.ref b',.ref c']) (Gf:dJ [ap,ar,al] H a'=some (.lst (cx C.l))) (ic:dJ [ap,ar,al] H b'=some (.lst (cx C.r))) (lN:dJ [ap,ar,al] H c'=some (.lst (cx C.cg)))
  (l1:A.l.length+A.r.length+A.cg.length<=900) (l2:C.l.length+C.r.length+C.cg.length<=900)
  (q:∀H',dY K B ap ar al ⟨⟨A.l++C.l,A.r++C.r,A.cg++C.cg,rw',aa⟩::ns,aY,as,M⟩ H'->D.nx (jU aw dk ap ar al N k v (some (.ref t)) (some (.ref t')) c9 dH eT fh eU) H'):Gb K D (jU aw dk ap ar al N k v (some (.ref t)) (some (.ref t')) c9 dH eT fh eU) H:=by
 have z:=i5;have iq:=qf.bc ht;have uc:=qf.bc ni;unfold Gb;refine⟨_,rf,.inl ⟨rf,_,.of g1⟩,_,rf,t,_,0,.ref a,rf,rf,iq,bX (j:=0) rf,_,rf,t',_,0,.ref a',rf,rf,uc,bX (j:=0) rf,a,a',_,_,rf,rf,(lC ha).2,(lC Gf).2,by rw[kj,kj];lia,λx k1=>?_⟩;have s1:=aW.upd (o:=.lst (cx A.l++cx C.l)) k1;refine⟨_,rf,t,_,1,.ref b,rf,rf,s1.bc iq,bX (j:=1) rf,_,rf,t',_,1,.ref b',rf,rf,s1.bc uc,bX (j:=1) rf,b,b',_,_,rf,rf,s1 _ _ (lC hb).2,s1 _ _ (lC ic).2,by rw[kj,kj];lia,λy k2=>?_⟩;have s2:=aW.upd (o:=.lst (cx A.r++cx C.r)) k2;have sA:=s1.trans s2;refine⟨_,rf,t,_,2,.ref c,rf,rf,sA.bc iq,bX (j:=2) rf,_,rf,t',_,2,.ref c',rf,rf,sA.bc uc,bX (j:=2) rf,c,c',_,_,rf,rf,sA _ _ (lC hc).2,sA _ _ (lC lN).2,by rw[kj,kj];lia,λu k3=>?_⟩;have s3:=aW.upd (o:=.lst (cx A.cg++cx C.cg)) k3;have sB:=sA.trans s3;refine Ge (A:=⟨A.l++C.l,A.r++C.r,A.cg++C.cg,rw',aa⟩) (h1.grow sB) (sB _ _ g1) (nu.mono (ow sB)) hl (qg ?_ (h1.out k1)) (qg ?_ (h1.out (i6 s1 k2))) (qg ?_ (h1.out (i6 sA k3))) λH' h'=>q H' h'
 ·rw[<- ua];exact(s2.trans s3) _ _ bb
 ·rw[<- ua];exact s3 _ _ bb
 ·rw[<- ua];exact bb
theorem afh{k:Nat}{C:iP}{t t' a' b' c':Addr}{PS:List V}{aY rw':List dO}{aa:List (Nat×Nat)}{M:Nat}(h1:dY K B ap ar al ⟨ns,aY,as,M⟩ H)(g1:H ap=some (.lst PS))(nu:jT K (dJ [ap,ar,al] H) PS ns.reverse)(hl:ns.length<=1000)
  (ht:bq K (dJ [ap,ar,al] H) t [.ref a,.ref b,.ref c]) (ha:dJ [ap,ar,al] H a=some (.lst (cx A.l))) (hb:dJ [ap,ar,al] H b=some (.lst (cx A.r))) (hc:dJ [ap,ar,al] H c=some (.lst (cx A.cg)))
  (ni:bq K (dJ [ap,ar,al] H) t' [.ref a',.ref b',.ref c']) (Gf:dJ [ap,ar,al] H a'=some (.lst (cx C.l))) (ic:dJ [ap,ar,al] H b'=some (.lst (cx C.r))) (lN:dJ [ap,ar,al] H c'=some (.lst (cx C.cg)))
  (l1:A.l.length+A.r.length+A.cg.length<=900) (l2:C.l.length+C.r.length+C.cg.length<=900) (hm:A.r.length=C.l.length) (las:as.length<=900)
  (q:∀c9 H',dY K B ap ar al ⟨⟨A.l,C.r,A.cg++A.r++C.cg,rw',aa⟩::ns,aY,as++C.l.zip A.r,M⟩ H'->D.nx (jU aw dk ap ar al N k v (some (.ref t)) (some (.ref t')) c9 dH eT fh eU) H'):Gd K D (jU aw dk ap ar al N k v (some (.ref t)) (some (.ref t')) c9 dH eT fh eU) H:=by
 have z:(3000:Nat)<=sizeLine:=by decide
 unfold Gd;refine⟨_,rf,t,_,1,.ref b,rf,rf,qf.bc ht,bX (j:=1) rf,b,_,rf,.inl (.of (lC hb).2),((A.r.length:Nat):Int),by rw[kj],by lia,by lia,?_⟩;refine Dn (n:=A.r.length) (lo:=0) (λi σ H'=>∃c9,σ=jU aw dk ap ar al N k v (some (.ref t)) (some (.ref t')) c9 dH eT fh eU/\dY K B ap ar al ⟨ns,aY,as++(C.l.zip A.r).take i,M⟩ H'/\dJ [ap,ar,al] H'=dJ [ap,ar,al] H/\H' ap=some (.lst PS)) ⟨c9,rf,by rw[List.take_zero,iT];exact h1,rf,g1⟩ ?_ ?_
 ·rintro i σ H2 hi ⟨c9,rfl,h2,e2,g2⟩;have ex:A.r[i]?=some (A.r[i]'hi):=cP hi;have ey:C.l[i]?=some (C.l[i]'(by lia)):=cP (by lia);have ez:(C.l.zip A.r)[i]?=some (C.l[i]'(by lia),A.r[i]'hi):=by rw[Hu];exact⟨ey,ex⟩
  rw[<- e2]at ht ni hb Gf;rw[qD];refine⟨_,rf,t,_,1,.ref b,rf,rf,qf.bc ht,bX (j:=1) rf,_,rf,b,_,(i:Int),_,rf,rf,.of (lC hb).2,bX (Wg ex),_,rf,_,rf,t',_,0,.ref a',rf,rf,qf.bc ni,bX (j:=0) rf,_,rf,a',_,(i:Int),_,rf,rf,.of (lC Gf).2,bX (Wg ey),al,_,rf,l6.k (k:=Sum.inl ((C.l[i]'(by lia):Nat):Int)) h2.a ?_,_,rf,?_,?_,?_⟩
  ·refine Nat.lt_of_le_of_lt (Bg _ _) ?_;rw[bu,bu];show 0+(as++(C.l.zip A.r).take i).length<sizeLine;rw[cm,gy];lia
  ·have h3:=h2.adP (C.l[i]'(by lia),A.r[i]'hi);rw[gO,ez];show dY K B ap ar al ⟨ns,aY,as++((C.l.zip A.r).take i++[(C.l[i]'(by lia),A.r[i]'hi)]),M⟩ _;rw[<- i4];exact h3
  ·rw[tR LA];exact e2
  ·rw[bR h2.ne.2.1];exact g2
 ·rintro σ H2 ⟨c9,rfl,h2,e2,g2⟩;rw[<- e2]at ht ni ha hb hc ic lN nu;rw[pz (by rw[zX];lia)]at h2;have iq:=qf.bc ht;have uc:=qf.bc ni;refine⟨_,rf,.inl ⟨rf,_,.of g2⟩,_,rf,t,_,0,.ref a,rf,rf,iq,bX (j:=0) rf,_,rf,t',_,1,.ref b',rf,rf,uc,bX (j:=1) rf,_,rf,t,_,2,.ref c,rf,rf,iq,bX (j:=2) rf,_,rf,t,_,1,.ref b,rf,rf,iq,bX (j:=1) rf,c,b,_,_,rf,rf,(lC hc).2,(lC hb).2,by rw[kj,kj];lia,λx k1=>?_⟩;have s1:=aW.upd (o:=.lst (cx A.cg++cx A.r)) k1;refine⟨_,rf,t',_,2,.ref c',rf,rf,s1.bc uc,bX (j:=2) rf,x,c',_,_,rf,rf,bb,s1 _ _ (lC lN).2,by rw[cm,kj,kj,kj];lia,λy k2=>?_⟩;have s2:=aW.upd (o:=.lst (cx A.cg++cx A.r++cx C.cg)) k2;have sA:=s1.trans s2;refine Ge (A:=⟨A.l,C.r,A.cg++A.r++C.cg,rw',aa⟩) (h2.grow sA) (sA _ _ g2) (nu.mono (ow sA)) hl (ow sA _ _ ha) (ow sA _ _ ic) (qg ?_ (h2.out (i6 s1 k2))) λH' h'=>q _ H' h';rw[<- ua,<- ua];exact bb
theorem afi{d:Addr}{tm l r:Int}(h7:σ[7]?=some (some (.str x)))(Wi:σ[11]?=some (some (.int tm)))(h1:σ[1]?=some (some (.ref d)))(hd:H d=some (.dK kvs))(hD:jG K H iA kvs)
  (hs:iA.lookup x=some [l,r]\/(iA.lookup x=none/\l=tm/\r=tm+2*(if x="cup" then 1 else 0))) (q:∀v H',aW H H'->bq K H' v [.int l,.int r]->Q (.ref v) H'):Co σ H Q:=by
 unfold Co Bh;refine⟨_,h1,d,rf,.inl ⟨_,.of hd⟩,_,h7,_,Wi,?_⟩;refine ke (i:=tm) (j:=2*(if x="cup" then 1 else 0)) (eE Wi) (MW jR (FW h7) (by decide)) H (.refl _) _ ?_
 refine⟨by show 2<=sizeLine;decide,λt ht=>?_⟩;have st:=aW.upd (o:=.tup [.int tm,.int (tm+2*(if x="cup" then 1 else 0))]) ht
 refine⟨_,eI.k (k:=.inr x) (st _ _ hd),?_⟩;rcases hD.get x with⟨row,v,e1,e2,e3⟩|⟨e1,e2⟩
 ·rcases hs with hs|⟨hs,_⟩
  ·rw[e1]at hs;cases hs;rw[e2];exact q v _ st (st.bc e3)
  ·rw[e1]at hs;cases hs
 ·rcases hs with hs|⟨_,rfl,rfl⟩
  ·rw[e1]at hs;cases hs
  ·rw[e2];exact q t _ st (.of bb)
theorem Wj{a b:TE}{l:Nat}(h1:fe a σ H (N:Int))(h2:fe b σ H ((N+l:Nat):Int))(hN:N+l<=10000)(q:∀x H',aW H H'->H x=none->H' x=some (.lst (cx (List.range' N l)))->Q (.ref x) H'):M0 a b σ H Q:=by
 refine h1 H (.refl _) _ (h2 H (.refl _) _ ⟨(N:Int),((N+l:Nat):Int),rf,λp hp=>?_⟩);refine⟨p,(N:Int),((N+l:Nat):Int),rf,bb,⟨by lia,by lia,by lia,by lia⟩,by lia,λx hx=>?_⟩;have s1:=aW.upd (o:=.mr (N:Int) ((N+l:Nat):Int)) hp;have e:(List.range (((N+l:Nat):Int)-(N:Int)).toNat).map (λ(k:Nat)=>V.int ((N:Int)+k))=cx (List.range' N l):=by
  rw[show(((N+l:Nat):Int)-(N:Int)).toNat=l by lia];unfold cx;rw[List.range'_eq_map_range,mn];refine uw λi _=>?_;show V.int _=V.int _
  congr 1
 rw[e];exact q x _ (s1.trans (aW.upd (o:=.lst (cx (List.range' N l))) hx)) (i6 s1 hx) bb
theorem afj{k:Nat}{ra:Addr}{S:dO}(g:H ra=some (.dK (S.map rK)))(nd:(S.map Prod.fst).Nodup)(hl:S.length<=100)
  (q:∀x H',aW H H'->H x=none->H' x=some (.dK ((iz N S).map rK))->Q (.ref x) H'):Cn K (jU aw dk ap ar al N k v s8 s9 c9 dH eT fh (some (.ref ra))) H Q:=by
 have z:=i5;unfold Cn;refine⟨ra,S.map rK,g,_,rf,ra,_,rf,g,λo=>?_⟩;have g1:(upd H ra (.cT o (.dK (S.map rK)))) ra=some (.cT o (.dK (S.map rK))):=bb;refine zk (cp:=[some (.int (N:Int)),some (.ref ra)]) (λi H' zs=>md K H' zs ((iz N (S.take i)).map rK)) g1 (by rw[bu];lia) .nil (λi H' zs h=>?_) ?_ ?_
 ·rw[h.1,bu];unfold iz;rw[bu,gy];exact Nat.min_le_left _ _
 ·intro i kv H' zs hk sm hP;rw[dG]at hk;cases e:S[i]? with
  |none=>rw[e]at hk;cases hk
  |some t=>
   rw[e]at hk;cases hk;have ht:=dP e;refine l4 ⟨_,rf,_,rf,(N:Int),(t.1:Int),rf,rf,_,rf,_,rf,ra,.int t.2,rf,by have:=rh (k:=Sum.inl (t.1:Int)) (sm _ _ g1);rw[p9 nd ht]at this;exact this,by show 2<=sizeLine;lia,λx hx=>?_⟩;have s1:=aW.upd (o:=.tup [.int ((N:Int)+(t.1:Int)),.int t.2]) hx;refine⟨⟨[_],rf,rf⟩,sm.trans s1,?_⟩;rw[gO,e];unfold iz;rw[du,du];refine(hP.mono s1).snoc (.of ?_);rw[bb];show some (HO.tup [.int ((N:Int)+(t.1:Int)),.int t.2])=some (HO.tup [.int ((N+t.1:Nat):Int),.int t.2]);rw[uA]
 ·intro H' zs sm hP lz i7;rw[bu,iU]at hP;have s1:=sm.trans (aW.upd (o:=.lst zs) i7);have s2:=vj g s1;have ne:lz≠ra:=λe=>by rw[e,sm _ _ g1]at i7;cases i7
  refine⟨⟨o,s1 _ _ g1⟩,lz,zs,(iz N S).map rK,rf,by rw[bR ne];exact bb,?_,λx hx=>?_⟩
  ·refine⟨hP.1,λi y kv e1 e2=>?_⟩;obtain⟨t,e,gt⟩:=hP.2 i y kv e1 e2;exact⟨t,e,bq.K7 ((aW.upd (o:=.lst zs) i7).bc gt) (s1 _ _ g1)⟩
  ·rw[vm _ [] (by rw[jX];exact xi _ (Lr nd)),jX];exact q x _ (s2.trans (aW.upd (o:=.dK ((iz N S).map rK)) hx)) (i6 s2 hx) bb
theorem afk{k:Nat}{f:V}{n:Int}{ws:List V}(h:dY K B ap ar al F H)(hw:bq K B aw ws)(yi:ws.length<=1000)(hf:(ws++[.int 0])[k+1]?=some f)(hv:x="times"->f=.int n)(hR:F.aY.length<=1000)
  (q:∀eU H',dY K B ap ar al ⟨F.parts,F.aY++(dR x n).map (iz N),F.al,F.N⟩ H'->u D (jU aw dk ap ar al N k (.str x) s8 s9 c9 dH eT fh eU) H') :
  cF (wm (An K (M1 K)) (cG 14) (M5 K)) u D (jU aw dk ap ar al N k (.str x) s8 s9 c9 dH eT fh eU) H:=by
 have z:=i5;have M7:=h.sm.bc hw;have Wk:∀{b:Addr},H b=none->b ∉ [ap,ar,al]:=λhb=>h.out hb;refine⟨_,rf,_,rf,by show 1<=sizeLine;lia,λt0 k0=>?_⟩;have s0:=aW.upd (o:=.tup [.int 0]) k0;refine⟨aw,t0,_,_,rf,rf,s0.bc M7,.of bb,by show _+1<=sizeLine;lia,λt1 H2 s2 h1=>?_⟩;have sA:=s0.trans s2;refine⟨_,rf,(k:Int),1,rf,rf,t1,_,((k+1:Nat):Int),f,rf,aj V.int (by lia),h1,bX hf,?_⟩;refine⟨x,f,n,rf,hv,λt RS H3 s3 nt nv gt hE=>?_⟩;have sB:=sA.trans s3;have h3:=h.grow sB;have gtd:dJ [ap,ar,al] H3 t=some (.lst RS):=qg gt (Wk (i6 sA nt));have hEd:jt (dJ [ap,ar,al] H3) RS (dR x n):=⟨hE.1,λi y q' e1 e2=>by
  obtain⟨a,e,g⟩:=hE.2 i y q' e1 e2;exact⟨a,e,qg g (Wk (i6 sA (nv y (dP e1) a e)))⟩⟩
 have eR:=hE.1;have fR:=Lq x n;refine⟨t,rf,⟨RS,.of gt⟩,?_⟩;refine so (K:=K) (xs:=RS) (λi σ H'=>∃eU,σ=jU aw dk ap ar al N k (.str x) s8 s9 c9 dH eT fh eU/\dY K B ap ar al ⟨F.parts,F.aY++((dR x n).take i).map (iz N),F.al,F.N⟩ H'/\aW (dJ [ap,ar,al] H3) (dJ [ap,ar,al] H')) ⟨eU,rf,by rw[List.take_zero,rY,iT];exact h3,.refl _⟩ ?_ ?_ ?_
 ·rintro i σ H' _ ⟨_,_,_,sm⟩;exact .of (qf _ _ (sm _ _ gtd))
 ·rintro i y σ H' hy ⟨Wl,rfl,h',sm⟩;have hi:i<(dR x n).length:=by rw[<- eR];exact(dC.mp hy).1
  have hq:(dR x n)[i]?=some (dR x n)[i]:=cP hi;obtain⟨nd,l3⟩:=Lp _ (dP hq);obtain⟨ra,rfl,BI⟩:=hEd.2 i y _ hy hq;obtain⟨hJ,gR,nG⟩:=h'.r;refine⟨_,rf,.inl ⟨rf,_,.of gR⟩,?_⟩;refine afj (lC (sm _ _ BI)).2 nd (by lia) λx' H4 s4 nx gx=>?_;refine⟨ar,hJ,.ref x',rf,rf,s4 _ _ gR,?_,_,rf,?_,?_⟩
  ·rw[nG.1];show(F.aY++((dR x n).take i).map (iz N)).length<sizeLine;rw[cm,bu,gy];lia
  ·have hk:=(h'.grow s4).adO ((nG.mono (ow s4)).snoc (qg gx (h'.out nx)));rw[gO,hq];show dY K B ap ar al ⟨F.parts,F.aY++((dR x n).take i++[(dR x n)[i]]).map (iz N),F.al,F.N⟩ _;rw[du,<- i4];exact hk
  ·rw[tR Lz];exact sm.trans (ow s4)
 ·rintro σ H' ⟨Wl,rfl,h',_⟩;rw[eR,iU]at h';exact q Wl H' h'
theorem jG.sm(h:jG K H L kvs)(s:aW H H'):jG K H' L kvs:=by
 induction h with
 |nil=>exact .nil
 |cons h t ih=>exact .cons (s.bc h) ih
theorem Wm{k l r:Nat}{f:V}{n:Int}{ws:List V}(h:dY K B ap ar al F H)(hw:bq K B aw ws)(yi:ws.length<=1000)(hf:(ws++[.int 0])[k+1]?=some f)(hv:x="times"->f=.int n)(hR:F.aY.length<=1000)(hd:B dk=some (.dK kvs))(hD:jG K B iA kvs)
  (hs:iA.lookup x=some [(l:Int),(r:Int)]\/(iA.lookup x=none/\(l:Int)=(if x="times" then 1 else 0)/\(r:Int)=(if x="times" then 1 else 0)+2*(if x="cup" then 1 else 0))) (hl:F.parts.length<=1000) (hN:N+l+r<=10000)
  (q:∀dH eT fh eU H',dY K B ap ar al ⟨⟨List.range' N l,List.range' (N+l) r,[],(dR x n).map (iz N),[]⟩::F.parts,F.aY++(dR x n).map (iz N),F.al,N+l+r⟩ H'->D.nx (jU aw dk ap ar al (N+l+r) k (.str x) s8 s9 c9 dH eT fh eU) H') :
  vJ K D (jU aw dk ap ar al N k (.str x) s8 s9 c9 dH eT fh eU) H:=by
 unfold vJ;refine fu ?_;refine FW (y:=x) (x := "times") rf H (.refl _) _ ?_;refine FV ?_;refine afi (K:=K) (x:=x) rf rf rf (h.sm _ _ hd) (hD.sm h.sm) hs ?_;intro v3 H3 s3 MZ;refine V3 MZ ?_;refine afk (h.grow s3) hw yi hf hv hR λeU H4 h4=>?_;unfold M6;obtain⟨PS,g4,hP4⟩:=h4.p;refine⟨_,rf,.inl ⟨rf,_,.of g4⟩,?_⟩;refine Wj (N:=N) (l:=l) (eE rf) (by rw[uA];exact ke (eE rf) (eE rf)) (by lia) λa H5 s5 na ga=>?_;refine Wj (N:=N+l) (l:=r) (by rw[uA];exact ke (eE rf) (eE rf)) (by rw[uA,uA];exact ke (ke (eE rf) (eE rf)) (eE rf)) hN λb H6 s6 nb gb=>?_;refine⟨by show 0<=sizeLine;exact jv _,λc hc=>?_⟩;have s7:=aW.upd (o:=.lst []) hc;have sA:=s5.trans (s6.trans s7);refine Ge (A:=⟨List.range' N l,List.range' (N+l) r,[],(dR x n).map (iz N),[]⟩) (h4.grow sA) (sA _ _ g4) (hP4.mono (ow sA)) hl (qg ((s6.trans s7) _ _ ga) (h4.out na)) (qg (s7 _ _ gb) (h4.out (i6 s5 nb))) (qg bb (h4.out (i6 (s5.trans s6) hc))) λH' h'=>?_;refine ke (ke (eE rf) (eE rf)) (eE rf) H' (.refl _) _ ?_;have e:((N+l+r:Nat):Int)=(N:Int)+(l:Int)+(r:Int):=by lia
 show D.nx [some (.ref aw),some (.ref dk),some (.ref ap),some (.ref ar),some (.ref al),some (.int ((N:Int)+(l:Int)+(r:Int))),some (.int (k:Int)),some (.str x),s8,s9,c9,_,_,_,eU] H';rw[<- e];exact q _ _ _ eU H' (h'.adQ _)
end
def Gg(K:Frag):TT:=tB (pP (λxs H Q=>∃(x:V)(b:Bool),xs=[x,.ty "int"]/\((∃i,x=.int i/\kitOne K (.type "int") (.type "int")=some b)\/∃s,x=.str s/\kitOne K (.type "str") (.type "int")=some b)/\Q (.bl b) H) (bz (bg 7) (bz (tC (.ty "int")) cy)))
def Gh(K:Frag):TS:=cF (dM (cO (sH K) (bg 0) (bg 6)) (cG 7)) (cF (eA (Gg K) xZ gG) (eA (i8 "back") (vH K) (eA (pM (i8 "beside") (i8 "then")) (vI K) (vJ K))))
def Gi(K:Frag):TS:=cF (dM (pW (pk iA)) (cG 1)) (cF (dM (gI cy) (cG 2)) (cF (dM (gI cy) (cG 3)) (cF (dM Ju (cG 4)) (cF (dM (tC (.int 0)) (cG 5)) (cF (wm (RD (bz (afe (Wf K (bg 0)) (tC (.int 1))) (bz BN (bz BN cy)))) (cG 6) (Gh K)) (fQ (gI (bz (We K 2 0) (bz (bg 3) (bz (bg 4) cy))))))))))
theorem afl:∀e∈ip,e.1 ≠ "back"/\e.1 ≠ "beside"/\e.1 ≠ "then"/\e.1 ≠ "times":=by decide +kernel
section
variable{B H:Hp}{ap ar al aw dk:Addr}{D:Ends}
theorem Cq(h7:σ[7]?=some (some v))(hs:Dr v (.str x)=true)(n:v≠.str x)(h:u D σ H):eA (i8 x) t u D σ H:=⟨_,h7,hs,_,rfl,by rw[ae n];exact dB h⟩
theorem Wn(h7:σ[7]?=some (some (.str x)))(h:t D σ H):eA (i8 x) t u D σ H:=⟨_,h7,rfl,_,rfl,Ky h⟩
theorem Wo{z:Str}(h7:σ[7]?=some (some (.str z)))(e:z=x\/z=y)(h:t D σ H):eA (pM (i8 x) (i8 y)) t u D σ H:=by
 refine⟨_,h7,rf,_,rf,?_⟩;by_cases c:z=x
 ·rw[aD (aj V.str c)];exact eC (eC h)
 ·rw[ae λe=>c (V.str.inj e)];refine dB ⟨_,h7,rf,_,rf,?_⟩;rw[aD (aj V.str (e.resolve_left c))];exact eC h
theorem Wq{z:Str}(h7:σ[7]?=some (some (.str z)))(n1:z≠x)(n2:z≠y)(h:u D σ H):eA (pM (i8 x) (i8 y)) t u D σ H:=by
 refine⟨_,h7,rf,_,rf,?_⟩;rw[ae λe=>n1 (V.str.inj e)];refine dB ⟨_,h7,rf,_,rf,?_⟩;rw[ae λe=>n2 (V.str.inj e)];exact dB h
theorem afm{d:Drw}{k:Nat}{s7:Option V}(hd:d.wf p)(hl:d.aX.length<=99)(hk:k<d.aX.length)(h:dY K B ap ar al (bV (dm [.bK d] (k+1))) H)(hw:bq K B aw d.aX)(Gj:B dk=some (.dK kvs))(hD:jG K B iA kvs)
  (q:∀s7 s8 s9 c9 dH eT fh eU H',dY K B ap ar al (bV (dm [.bK d] k)) H'->D.nx [some (.ref aw),some (.ref dk),some (.ref ap),some (.ref ar),some (.ref al),some (.int ((bV (dm [.bK d] k)).N:Int)),some (.int (k:Int)),s7,s8,s9,c9,dH,eT,fh,eU] H')
  (qc:∀s7 s8 s9 c9 dH eT fh eU H',dY K B ap ar al (bV (dm [.bK d] k)) H'->D.ct [some (.ref aw),some (.ref dk),some (.ref ap),some (.ref ar),some (.ref al),some (.int ((bV (dm [.bK d] k)).N:Int)),some (.int (k:Int)),s7,s8,s9,c9,dH,eT,fh,eU] H') :
  Gh K D [some (.ref aw),some (.ref dk),some (.ref ap),some (.ref ar),some (.ref al),some (.int ((bV (dm [.bK d] (k+1))).N:Int)),some (.int (k:Int)),s7,s8,s9,c9,dH,eT,fh,eU] H:=by
 have ew:([Itm.bK d]).flatMap Itm.aX=d.aX:=by simp[Itm.aX]
 have kg:∀t∈[Itm.bK d],t.zw p:=λt ht=>by rw[cA.mp ht];exact hd
 obtain⟨t,r,e1,e2,e3⟩:=vb (ts:=[.bK d]) (i:=k) (by rw[ew];exact hk);rw[ew]at e2;have Wr:=Lx k kg;have afn:=Lx (k+1) kg;have fl:∀i,((dm [Itm.bK d] i).flatMap Itm.aX).length<=99:=λi=>by rw[wW,ew,jW];lia
 obtain⟨f1,f2,f3,f4⟩:=Fl afn;obtain⟨_,M8,_,_⟩:=Fl Wr;have fk:=fl (k+1);have fk':=fl k;have ht:=Wr t (by rw[e1];exact cQ);rw[e1]at q qc M8;rw[e3]at h f1 f2 f3 f4 |-;have M7:=h.sm.bc hw;unfold Gh;refine⟨_,rf,_,rf,aw,_,(k:Int),t.head,rf,rf,M7,bX e2,?_⟩;show(cF (eA (Gg K) xZ gG) (eA (i8 "back") (vH K) (eA (pM (i8 "beside") (i8 "then")) (vI K) (vJ K)))) D (jU aw dk ap ar al (bV (t.kids++r)).N k t.head s8 s9 c9 dH eT fh eU) H;refine lH ?_;have str:∀{z:Str},t.head=.str z->(eA (i8 "back") (vH K) (eA (pM (i8 "beside") (i8 "then")) (vI K) (vJ K))) D (jU aw dk ap ar al (bV (t.kids++r)).N k (.str z) s8 s9 c9 dH eT fh eU) H->Gg K (jU aw dk ap ar al (bV (t.kids++r)).N k t.head s8 s9 c9 dH eT fh eU) H λb H1=>if b=true then xZ { D with nx:=(eA (i8 "back") (vH K) (eA (pM (i8 "beside") (i8 "then")) (vI K) (vJ K))) D } (jU aw dk ap ar al (bV (t.kids++r)).N k t.head s8 s9 c9 dH eT fh eU) H1 else(eA (i8 "back") (vH K) (eA (pM (i8 "beside") (i8 "then")) (vI K) (vJ K))) D (jU aw dk ap ar al (bV (t.kids++r)).N k t.head s8 s9 c9 dH eT fh eU) H1:=λ{z} e go=>by
  rw[e];exact⟨_,rf,.str z,false,rf,.inr ⟨z,rf,QI K⟩,false,rf,dB go⟩
 cases t with
 |num m=>
  exact⟨_,rf,.int m,true,rf,.inl ⟨m,rf,IX K⟩,true,rf,eC (qc _ _ _ _ _ _ _ _ H h)⟩
 |bK c=>
  cases c with
  |box x l r' aY=>
   have hb:(x,l,r',aY)∈ip:=ht;obtain⟨n1,n2,n3,n4⟩:=afl _ hb;refine str rf (Cq rf rf (λe=>n1 (V.str.inj e)) (Wq rf n2 n3 ?_));obtain⟨f,hf⟩:∃f,(d.aX++[.int 0])[k+1]?=some f:=⟨_,cP (by rw[cm];show k+1<_+1;lia)⟩;have hs:iA.lookup x=some [(l:Int),(r':Int)]\/(iA.lookup x=none/\(l:Int)=(if x="times" then 1 else 0)/\(r':Int)=(if x="times" then 1 else 0)+2*(if x="cup" then 1 else 0)):=by
    have n4':¬x="times":=n4;rw[ag n4'];rcases Wa _ hb with z|⟨z1,z2,z3⟩
    ·exact .inl z
    ·exact .inr ⟨z1,z2,by rw[qD];exact z3⟩
   have hN:(bV r).N+l+r'<=4*_:=M8;exact Wm (n:=0) h hw (by lia) hf (λe=>absurd e n4) (by show(bV r).aY.length<=_;have:(bV r).aY.length<=_:=f1;lia) Gj hD hs (by have:(bV r).parts.length<=_:=f4;show(bV r).parts.length<=_;lia) (by lia) λdH eT fh eU H' h'=>q _ _ _ _ _ _ _ _ H' (by
    have h':dY K B ap ar al ⟨_,_,(bV r).al,_⟩ H':=h';rw[<- iT (bV r).al]at h';exact h')
  |times m=>
   refine str rf (Cq rf rf (λe=>absurd (V.str.inj e) (by decide +kernel)) (Wq rf (by decide +kernel) (by decide +kernel) ?_));have hf:(d.aX++[.int 0])[k+1]?=some (.int m):=by
    have e:=wW (k+1) [.bK d];rw[e3,ew]at e;have e:V.int m::r.flatMap Itm.aX=d.aX.drop (k+1):=e
    have:(d.aX.drop (k+1))[0]?=some (.int m):=by rw[<- e];rfl
    rw[List.getElem?_drop,Nat.add_zero]at this;rw[iK (dC.mp this).1];exact this
   have hN:(bV r).N+1+1<=4*_:=M8;exact Wm (n:=m) (l:=1) (r:=1) h hw (by lia) hf (λ_=>rf) (by show(bV r).aY.length<=_;have:(bV r).aY.length<=_:=f1;lia) Gj hD (.inr ⟨V8,by rw[af rfl];rfl,by rw[af rfl,ag V9];rfl⟩) (by have:(bV r).parts.length<=_:=f4;show(bV r).parts.length<=_;lia) (by show(bV r).N+1+1<=_;lia) λdH eT fh eU H' h'=>q _ _ _ _ _ _ _ _ H' (by
    have h':dY K B ap ar al ⟨_,_,(bV r).al,_⟩ H':=h';rw[<- iT (bV r).al]at h';exact h')
  |back c=>
   refine str rf (Wn rf ?_);exact aff h rf (by lia) λs8 H' h'=>q _ s8 _ _ _ _ _ _ H' h'
  |cD a b=>
   refine str rf (Cq rf rf (λe=>absurd (V.str.inj e) (by decide +kernel)) (Wo rf (.inl rf) ?_));have wa:a.wf p:=ht.1;have wb:b.wf p:=ht.2;have c1:=ox (d:=a) (N:=(aT b (bV r).N).2) wa;have c2:=ox (d:=b) (N:=(bV r).N) wb;have hN:(aT a (aT b (bV r).N).2).2<=4*_:=f2;have f4:(bV r).parts.length+1+1<=_:=f4;unfold vI;refine fu (Cp (ns:=(aT b (bV r).N).1::(bV r).parts) (A:=(aT a (aT b (bV r).N).2).1) rf h rf λt1 x1 y1 z1 PS1 H1 eq1 h1 g1 nu iq hx1 Cr jO=>?_);refine fu (Cp (ns:=(bV r).parts) (A:=(aT b (bV r).N).1) rf h1 rf λt2 x2 y2 z2 PS2 H2 Na h2 g2 Nb pj hx2 Nc pR=>?_);rw[<- Na]at iq hx1 Cr jO;refine Wn rf ?_;refine afg (A:=(aT a (aT b (bV r).N).2).1) (C:=(aT b (bV r).N).1) (rw':=(aT b (bV r).N).1.aY++(aT a (aT b (bV r).N).2).1.aY) (aa:=(aT b (bV r).N).1.al++(aT a (aT b (bV r).N).2).1.al) h2 g2 Nb (by lia) iq hx1 Cr jO pj hx2 Nc pR (by lia) (by lia) λH' h'=>q _ _ _ _ _ _ _ _ H' ?_;have er:(bV r).aY++(aT b (bV r).N).1.aY++(aT a (aT b (bV r).N).2).1.aY=(bV r).aY++((aT b (bV r).N).1.aY++(aT a (aT b (bV r).N).2).1.aY):=i4 _ _ _;have ea:(bV r).al++(aT b (bV r).N).1.al++(aT a (aT b (bV r).N).2).1.al=(bV r).al++((aT b (bV r).N).1.al++(aT a (aT b (bV r).N).2).1.al):=i4 _ _ _;have h':dY K B ap ar al ⟨_,(bV r).aY++(aT b (bV r).N).1.aY++(aT a (aT b (bV r).N).2).1.aY,(bV r).al++(aT b (bV r).N).1.al++(aT a (aT b (bV r).N).2).1.al,_⟩ H':=h';rw[er,ea]at h';exact h'
  |bj a b=>
   refine str rf (Cq rf rf (λe=>absurd (V.str.inj e) (by decide +kernel)) (Wo rf (.inr rf) ?_));have wa:a.wf p:=ht.1;have wb:b.wf p:=ht.2.1;have hm:a.bf=b.bh:=ht.2.2;have c1:=ox (d:=a) (N:=(aT b (bV r).N).2) wa;have c2:=ox (d:=b) (N:=(bV r).N) wb;obtain⟨_,u2⟩:=jD (d:=a) (N:=(aT b (bV r).N).2) wa;obtain⟨u3,_⟩:=jD (d:=b) (N:=(bV r).N) wb;have hN:(aT a (aT b (bV r).N).2).2<=4*_:=f2;have f3:((bV r).al++(aT b (bV r).N).1.al++(aT a (aT b (bV r).N).2).1.al).length<=(aT a (aT b (bV r).N).2).2:=f3;have f4:(bV r).parts.length+1+1<=_:=f4;unfold vI;refine fu (Cp (ns:=(aT b (bV r).N).1::(bV r).parts) (A:=(aT a (aT b (bV r).N).2).1) rf h rf λt1 x1 y1 z1 PS1 H1 eq1 h1 g1 nu iq hx1 Cr jO=>?_);refine fu (Cp (ns:=(bV r).parts) (A:=(aT b (bV r).N).1) rf h1 rf λt2 x2 y2 z2 PS2 H2 Na h2 g2 Nb pj hx2 Nc pR=>?_);rw[<- Na]at iq hx1 Cr jO;refine Cq rf rf (λe=>absurd (V.str.inj e) (by decide +kernel)) ?_;refine afh (A:=(aT a (aT b (bV r).N).2).1) (C:=(aT b (bV r).N).1) (rw':=(aT b (bV r).N).1.aY++(aT a (aT b (bV r).N).2).1.aY) (aa:=(aT b (bV r).N).1.al++(aT a (aT b (bV r).N).2).1.al++(aT b (bV r).N).1.l.zip (aT a (aT b (bV r).N).2).1.r) h2 g2 Nb (by lia) iq hx1 Cr jO pj hx2 Nc pR (by lia) (by lia) (by lia) (gn f3 (by lia)) λc9 H' h'=>q _ _ _ c9 _ _ _ _ H' ?_;have er:(bV r).aY++(aT b (bV r).N).1.aY++(aT a (aT b (bV r).N).2).1.aY=(bV r).aY++((aT b (bV r).N).1.aY++(aT a (aT b (bV r).N).2).1.aY):=i4 _ _ _;have ea:(bV r).al++(aT b (bV r).N).1.al++(aT a (aT b (bV r).N).2).1.al++(aT b (bV r).N).1.l.zip (aT a (aT b (bV r).N).2).1.r=(bV r).al++((aT b (bV r).N).1.al++(aT a (aT b (bV r).N).2).1.al++(aT b (bV r).N).1.l.zip (aT a (aT b (bV r).N).2).1.r):=by simp only[i4]
   have h':dY K B ap ar al ⟨_,(bV r).aY++(aT b (bV r).N).1.aY++(aT a (aT b (bV r).N).2).1.aY,(bV r).al++(aT b (bV r).N).1.al++(aT a (aT b (bV r).N).2).1.al++(aT b (bV r).N).1.l.zip (aT a (aT b (bV r).N).2).1.r,_⟩ H':=h';rw[er,ea]at h';exact h'
theorem afo{d:Drw}(hd:d.wf p)(hl:d.aX.length<=99)(hw:bq K H aw d.aX)(q:∀t H',aW H H'->Uj K H' t (aT d 0).1->D.rt (.ref t) H') :
  Gi K D [some (.ref aw),none,none,none,none,none,none,none,none,none,none,none,none,none,none] H:=by
 have z:=i5;unfold Gi;refine fu (V1 (K:=K) V5 FY V7 λdk kvs B s1 Gj hD=>?_);refine fu ⟨by decide,λap Ws=>?_⟩;refine fu ⟨by decide,λar Gk=>?_⟩;refine fu (λal oh=>?_);refine fu ?_;have u1:=aW.upd (o:=.lst []) Ws;have u2:=aW.upd (o:=.lst []) Gk;have u3:=aW.upd (o:=.dK []) oh;have n1:ap≠ar:=λe=>by rw[<- e,bb]at Gk;cases Gk
 have n2:ap≠al:=λe=>by rw[<- e,u2 _ _ bb]at oh;cases oh
 have n3:ar≠al:=λe=>by rw[<- e,bb]at oh;cases oh
 have h0:dY K B ap ar al ⟨[],[],[],0⟩ (upd (upd (upd B ap (.lst [])) ar (.lst [])) al (.dK [])):=
  ⟨⟨Ws,i6 u1 Gk,i6 (u1.trans u2) oh⟩,⟨n1,n2,n3⟩,u1.trans (u2.trans u3),⟨[],(u2.trans u3) _ _ bb,.nil⟩,⟨[],u3 _ _ bb,.nil⟩,bb⟩
 have Wt:=s1.bc hw;have Wu:=h0.sm.bc Wt;generalize upd (upd (upd B ap (.lst [])) ar (.lst [])) al (.dK [])=H1 at h0 Wu |-;have ew:([Itm.bK d]).flatMap Itm.aX=d.aX:=by simp[Itm.aX]
 have dp:=d.pos;refine⟨_,rf,aw,_,rf,.inr Wu,_,_,rf,rf,1,rf,1,rf,((d.aX.length-1:Nat):Int),?_,⟨by lia,by lia⟩,?_⟩
 ·show[V.int ((d.aX.length:Int)-1),V.int (-1),V.int (-1)]=_;rw[show(d.aX.length:Int)-1=((d.aX.length-1:Nat):Int) by lia]
 rw[show((((d.aX.length-1:Nat):Int)+1).toNat)=d.aX.length by lia];refine RF (λi σ H'=>i<=d.aX.length/\∃s6 s7 s8 s9 c9 dH eT fh eU,σ=[some (.ref aw),some (.ref dk),some (.ref ap),some (.ref ar),some (.ref al),some (.int ((bV (dm [.bK d] (d.aX.length-i))).N:Int)),s6,s7,s8,s9,c9,dH,eT,fh,eU]/\dY K B ap ar al (bV (dm [.bK d] (d.aX.length-i))) H') ⟨jv _,none,none,none,none,none,none,none,none,none,?_,?_⟩ ?_ ?_
 ·have e:=ET (ts:=[.bK d]);rw[ew]at e;rw[Nat.sub_zero,e];rfl
 ·have e:=ET (ts:=[.bK d]);rw[ew]at e;rw[Nat.sub_zero,e];exact h0
 ·rintro i σ H2 hi ⟨_,s6,s7,s8,s9,c9,dH,eT,fh,eU,rfl,h2⟩;dsimp only[cG];have ek:((d.aX.length-1:Nat):Int)-(i:Int)=((d.aX.length-1-i:Nat):Int):=by lia
  rw[ek];have e1:d.aX.length-i=(d.aX.length-1-i)+1:=by lia
  have e2:d.aX.length-(i+1)=d.aX.length-1-i:=by lia
  rw[e1]at h2 |-;have fin:∀(s7 s8 s9 c9 dH eT fh eU:Option V)(H':Hp),dY K B ap ar al (bV (dm [.bK d] (d.aX.length-1-i))) H'->i+1<=d.aX.length/\∃t6 t7 t8 t9 t10 t11 t12 t13 t14,([some (.ref aw),some (.ref dk),some (.ref ap),some (.ref ar),some (.ref al),some (.int ((bV (dm [.bK d] (d.aX.length-1-i))).N:Int)),some (.int ((d.aX.length-1-i:Nat):Int)),s7,s8,s9,c9,dH,eT,fh,eU]:St)=[some (.ref aw),some (.ref dk),some (.ref ap),some (.ref ar),some (.ref al),some (.int ((bV (dm [.bK d] (d.aX.length-(i+1)))).N:Int)),t6,t7,t8,t9,t10,t11,t12,t13,t14]/\dY K B ap ar al (bV (dm [.bK d] (d.aX.length-(i+1)))) H':=λs7 s8 s9 c9 dH eT fh eU H' h'=>by
   rw[e2];exact⟨hi,_,_,_,_,_,_,_,_,_,rf,h'⟩
  exact afm hd hl (by lia) h2 Wt Gj hD fin fin
 ·rintro σ H2 ⟨_,s6,s7,s8,s9,c9,dH,eT,fh,eU,rfl,h2⟩;rw[Nat.sub_self]at h2;obtain⟨PS,g,hP⟩:=h2.p;obtain⟨RS,gR,hR⟩:=h2.r;have hP:jT K (dJ [ap,ar,al] H2) PS [(aT d 0).1]:=hP;obtain⟨v,rfl⟩:∃v,PS=[v]:=by
   match PS,hP.1 with
   | [v],_=>exact⟨v,rf⟩
  obtain⟨t,a,b,c,rfl,ht,ha,hb,hc⟩:=(hP.2 0 v _ rfl rfl).mono qf;have hR:jt H2 RS (aT d 0).1.aY:=jt.mono hR qf;have ga:H2 al=some (.dK (iF [] (((aT d 0).1.al.map rn).map rK))):=h2.a;rw[vm _ [] (by
   rw[jX];refine xi _ ?_;rw[mn];exact(qG.mp (w8 hd)).2.1),jX]at ga
  refine⟨_,rf,ap,_,0,.ref t,rf,rf,.of g,bX (j:=0) rf,_,rf,_,rf,by show 3<=sizeLine;lia,λu hu=>?_⟩;have s9:=aW.upd (o:=.lst [.ref t,.ref ar,.ref al]) hu;exact q u _ (s1.trans (h2.sm.trans s9)) ⟨t,ar,al,a,b,c,RS,bb,s9.bc ht,s9 _ _ ha,s9 _ _ hb,s9 _ _ hc,s9 _ _ gR,hR.mono s9,s9 _ _ ga⟩
end
theorem Wv{fE:Addr}{B1:FuncData}(F:cJ K "_law_ports" "_law_ports" Ek f fd)(T:Txt mg)(rm:mg "dict"=none)
  (GE:cc P w K mg base cb 1 fE B1 ["word","number"] Lm) (kE:Kp K fE) (bE:Binds K B1 ["word","number"] []) (mE:Mg mg "_law_equations" fE):cc P w K mg base cb 2 f fd ["words"] (Ls K):=by
 refine F.ok kh (λvs H Q E h=>?_) (λcz A outer s H vs Q E hr h=>?_)
 ·obtain⟨p,aw,d,rfl,_⟩:=h;rfl
 ·obtain⟨p,aw,d,rfl,hd,hl,hw,q⟩:=h;have hu:=oS hr;refine⟨Gi K,?_,afo hd hl hw q⟩;unfold Gi;refine bo ?_ ?_
  ·refine cv (i:=1) (te:=pW (pk iA)) ?_ ?_ ?_ ?_ ?_ ?_
   ·exact kh.nd
   ·rfl
   ·exact Or.inl rf
   ·refine VY (L:=iA) ?_ ?_ ?_
    ·kernel_rfl
    ·exact V6
    ·exact FY
   ·rfl
   ·exact .inl rf
  refine bo ?_ ?_
  ·exact cv (i:=2) (te:=gI cy) kh.nd rf (.inl rf) (gT aZ)
  refine bo ?_ ?_
  ·exact cv (i:=3) (te:=gI cy) kh.nd rf (.inl rf) (gT aZ)
  refine bo ?_ ?_
  ·exact cv (i:=4) (te:=Ju) kh.nd rf (.inl rf) Be
  refine bo ?_ ?_
  ·exact cv (i:=5) (te:=tC (.int 0)) kh.nd rf (Or.inr rf) ba
  refine bo ?_ ?_
  ·refine jd jw rf ?_ (cH (i:=6) kh.nd rf (.inl rf)) ?_
   ·exact RE rf T.range (aV (bQ sr (eX (iM K rf) rf T.len iN (aV (pv 0) aZ)) ba) (aV (nN nO ba) (aV (nN nO ba) aZ)))
   unfold Gh;refine bo ?_ ?_
   ·exact cv (i:=7) kh.nd rf (.inl rf) (br (cj K rf) (pv 0) (pv 6))
   refine bo ?_ ?_
   ·refine dj ?_ ?_ dz
    ·unfold Gg;exact pK (eX (adM K rf (T := "int")) rf T.isinstance AX (aV (pv 7) (aV (AQ rf T.int wD) aZ)))
    ·exact bY HG
   refine bY ?_;refine dj ?_ ?_ ?_
   ·exact cS eB (pv 7) dh (cM _)
   ·unfold vH;refine bo ?_ ?_
    ·exact cv (i:=8) kh.nd rf (.inl rf) (DB oH PySem.F.slot_list_pop PySem.F.type_list_pop DD (pv 2))
    ·refine bY ?_;exact oJ (qQ oH uy uz qR (pv 2) (aV (cU (aV (br (cj K rf) (pv 8) ba) (aV (br (cj K rf) (pv 8) ba) (aV (br (cj K rf) (pv 8) ba) aZ)))) aZ))
   refine bY ?_;refine dj ?_ ?_ ?_
   ·exact PW.pt (wd (cS eB (pv 7) dh (cM _)) (xY (cS eB (pv 7) dh (cM _))))
   ·unfold vI;refine bo ?_ ?_
    ·exact cv (i:=8) kh.nd rf (.inl rf) (DB oH PySem.F.slot_list_pop PySem.F.type_list_pop DD (pv 2))
    refine bo ?_ ?_
    ·exact cv (i:=9) kh.nd rf (.inl rf) (DB oH PySem.F.slot_list_pop PySem.F.type_list_pop DD (pv 2))
    refine bY ?_;refine dj ?_ ?_ ?_
    ·exact cS eB (pv 7) dh (cM _)
    ·unfold Gb;refine bY ?_;exact oJ (qQ oH uy uz qR (pv 2) (aV (cU (aV (bQ mR (br (cj K rf) (pv 8) ba) (br (cj K rf) (pv 9) ba)) (aV (bQ mR (br (cj K rf) (pv 8) ba) (br (cj K rf) (pv 9) ba)) (aV (bQ mR (br (cj K rf) (pv 8) ba) (br (cj K rf) (pv 9) ba)) aZ)))) aZ))
    ·unfold Gd;refine bo ?_ ?_
     ·refine jd jw rf ?_ (cH (i:=10) kh.nd rf (.inl rf)) ?_
      ·exact wk rf T.range (aV (eX (iM K rf) rf T.len iN (aV (br (cj K rf) (pv 8) ba) aZ)) aZ)
      ·refine bY ?_;exact pV hu (pv 4) (br (eY K rf) (br (cj K rf) (pv 9) ba) (pv 10)) (br (eY K rf) (br (cj K rf) (pv 8) ba) (pv 10)) rf
     ·refine bY ?_;exact oJ (qQ oH uy uz qR (pv 2) (aV (cU (aV (br (cj K rf) (pv 8) ba) (aV (br (cj K rf) (pv 9) ba) (aV (bQ mR (bQ mR (br (cj K rf) (pv 8) ba) (br (cj K rf) (pv 8) ba)) (br (cj K rf) (pv 9) ba)) aZ)))) aZ))
   unfold vJ;refine bo ?_ ?_
   ·exact cv (i:=11) (te:=zK 7 "times") kh.nd rf (.inl rf) (e9 Dt rf T.int wD (aV (qN eB (pv 7) dh (cM _)) aZ))
   refine bo ?_ ?_
   ·refine my (te:=Co) ?_ ?_ ?_
    ·unfold Co;refine yS hu (pv 1) (pv 7) ?_ ?_
     ·refine cU ?_;refine aV (pv 11) ?_ ?_
      ·refine aV ?_ aZ ?_
       ·refine bQ eM (pv 11) ?_;refine bQ lQ ba ?_;exact e9 Dt rf T.int wD (aV (qN eB (pv 7) dh (cM _)) aZ)
       ·rfl
      ·rfl
     ·exact⟨rf,rf,rf,rf⟩
    ·exact nZ (n:=2) K rf rf (eZ (cH (i:=12) kh.nd rf (.inl rf)) (eZ (cH (i:=13) kh.nd rf (.inl rf)) ko))
    ·rfl
   refine bo ?_ ?_
   ·refine jd jw rf ?_ (cH (i:=14) kh.nd rf (Or.inr rf)) ?_
    ·refine jo K rf ?_;unfold M1;refine cK GE hr rf mE kE bE .nil cL ?_;refine aV (pv 7) ?_ ?_
     ·refine aV ?_ aZ ?_
      ·exact br (cj K rf) (bQ (eN K rf) (pv 0) (cU (aV ba aZ))) (bQ eM (pv 6) ba)
      ·rfl
     ·rfl
    ·unfold M5;refine bY ?_;refine oJ (te:=AA K "list" yh (bg 3) (bz (Cn K) cy)) ?_ ?_
     ·refine qQ oH uy uz qR (pv 3) ?_;refine aV ?_ aZ ?_
      ·unfold Cn;refine e9 (E5 (K:=K) rf rf) rf rm zl ?_;refine aV ?_ aZ ?_
       ·refine zj ?_;refine je (N:=["port","count","row"]) (own:=1) (caps:=[5,14]) rf ?_ ?_ ?_ ?_ ?_
        ·exact tL (pv 14)
        ·exact(show e8 Wd (cu Ek) ["port","count","row"] 1 [5,14] _ from .mk' (by decide +kernel))
        ·exact λ_ _ _ _ _=>cH (i:=0) afd rf (.inl rf)
        ·exact λ_ _ _ _ _=>jz
        ·intro _ _ _ _ _;exact cU (aV (bQ eM (pv 1) (pv 0)) (aV (gJ hu (pv 2) (pv 0)) aZ))
       ·rfl
      ·rfl
     ·rfl
   unfold M6;refine bo ?_ ?_
   ·exact oJ (qQ oH uy uz qR (pv 2) (aV (cU (aV (e9 (Qz rf) rf T.list AV (aV (e9 DU rf T.range AW (aV (pv 5) (aV (bQ eM (pv 5) (pv 12)) aZ))) aZ)) (aV (e9 (Qz rf) rf T.list AV (aV (e9 DU rf T.range AW (aV (bQ eM (pv 5) (pv 12)) (aV (bQ eM (bQ eM (pv 5) (pv 12)) (pv 13)) aZ))) aZ)) (aV (gT aZ) aZ)))) aZ))
   refine bY ?_;exact cv (i:=5) kh.nd rf (Or.inr rf) (bQ eM (bQ eM (pv 5) (pv 12)) (pv 13))
  refine bY ?_;exact cC (te:=gI (bz (We K 2 0) (bz (bg 3) (bz (bg 4) cy)))) (gT (aV (br (eY K rf) (pv 2) ba) (aV (pv 3) (aV (pv 4) aZ))))
section
variable{p:Int}{d:Drw}
theorem Ww{v:Fn}{A B:List Nat}(h:A.length=n):Cg p n (atS v A) (atS v (A++B)):=λj hj=>pZ (by rw[wY (by lia)])
theorem afp(hd:d.wf p){vals:List Int}(hl:vals.length=d.bh+d.bf+ck d) :
  Sat p (λs=>jC ((aT d 0).1.l++(aT d 0).1.r++(aT d 0).1.cg) vals (look (aT d 0).1.al s)) (aT d 0).1.aY↔BX p (fn vals) d (List.range' 0 d.bh) (List.range' d.bh d.bf) (d.bh+d.bf):=by
 obtain⟨l1,l2⟩:=jD (N:=0) hd;have l3:=qh (N:=0) hd;have nd:=w8 hd;unfold iP.all at nd;have Nd:=(qG.mp nd).1;have oh:∀t∈(aT d 0).1.al,p∣jC ((aT d 0).1.l++(aT d 0).1.r++(aT d 0).1.cg) vals (look (aT d 0).1.al t.1)-jC ((aT d 0).1.l++(aT d 0).1.r++(aT d 0).1.cg) vals (look (aT d 0).1.al t.2):=λt ht=>pZ (by
  obtain⟨u,hu,e1,e2⟩:=S4 (oI (f:=Prod.fst) ht)
  have:=ac5 hd hu ht e1
  subst this;rw[e2,KQ (EZ hd (dZ _ (wZ hd u ht)))])
 rw[zA hd oh,zB hd nJ nJ];have cB:((aT d 0).1.l++(aT d 0).1.r++(aT d 0).1.cg).length=vals.length:=by rw[cm,cm,l1,l2,l3,hl]
 have hv:=aeY Nd cB;have c:∀X:List Nat,(∀s∈X,s∈(aT d 0).1.l++(aT d 0).1.r++(aT d 0).1.cg)->atS (λs=>jC ((aT d 0).1.l++(aT d 0).1.r++(aT d 0).1.cg) vals (look (aT d 0).1.al s)) X=atS (jC ((aT d 0).1.l++(aT d 0).1.r++(aT d 0).1.cg) vals) X:=λX h=>acY λs hs=>by rw[KQ (EZ hd (h s hs))]
 rw[c _ λs hs=>eV _ (eV _ hs),c _ λs hs=>eV _ (dZ _ hs),c _ λs hs=>dZ _ hs];generalize jC ((aT d 0).1.l++(aT d 0).1.r++(aT d 0).1.cg) vals=v at hv |-;have k1:Cg p d.bh (atS v (aT d 0).1.l) (atS (fn vals) (List.range' 0 d.bh)):=λj hj=>by
  have h1:=Ww (p:=p) (v:=v) (B:=(aT d 0).1.r++(aT d 0).1.cg) l1 j hj;rw[<- i4,hv]at h1;have h2:=LD (p:=p) (v:=fn vals) 0 d.bh j hj;have e:sh 0 (fn vals) j=fn vals j:=by show fn vals (0+j)=_;rw[Nat.zero_add]
  rw[e]at h2;exact jM h1 h2 (by lia)
 have k2:Cg p d.bf (atS v (aT d 0).1.r) (atS (fn vals) (List.range' d.bh d.bf)):=λj hj=>by
  have e1:sh d.bh (fn vals)=atS v ((aT d 0).1.r++(aT d 0).1.cg):=by rw[<- hv,i4];exact vc l1
  have h1:=Ww (p:=p) (v:=v) (B:=(aT d 0).1.cg) l2 j hj;rw[<- e1]at h1;have h2:=LD (p:=p) (v:=fn vals) d.bh d.bf j hj;exact jM h1 h2 (by lia)
 have k3:atS v (aT d 0).1.cg=sh (d.bh+d.bf) (fn vals):=by rw[<- hv];exact(vc (by rw[cm,l1,l2])).symm
 rw[k3];exact⟨gw.eQ hd k1 k2 (.refl _ _),gw.eQ hd k1.symm k2.symm (.refl _ _)⟩
end
def Wx(K:Frag):Sp:=λvs H Q _=>∃(p:Int)(aw ra na:Addr)(d:Drw)(r m:List Int),vs=[.int p,.ref aw,.ref ra,.ref na]/\p∈ig/\d.wf p/\d.aX.length<=98/\bq K H aw d.aX/\bq K H ra (r.map V.int)/\Rw p (d.bh+d.bf) r/\bq K H na (m.map V.int)/\Rw p (ck d) m/\
 ∀(b:Bool) H',aW H H'->(b=true↔Vu p d r m)->Q (.bl b) H'
theorem afq:(["one","alias","p","values"]:List Str).Nodup:=by decide +kernel
noncomputable abbrev Wy:List Str:=["p","words","row","numbers","part","rows","alias","values"]
theorem Cs:dy Wy ["p","words","row","numbers"] (cu Er):=dI rfl rfl rfl (by decide +kernel) rfl
theorem afr{fP fM fZ:Addr}{qe ff Wz:FuncData}(F:cJ K "_law_stands" "_law_stands" Er f fd)(T:Txt mg)(rm:mg "dict"=none)
  (GP:cc P w K mg base cb 2 fP qe ["words"] (Ls K)) (kP:Kp K fP) (bP:Binds K qe ["words"] []) (mP:Mg mg "_law_ports" fP)
  (GM:cc P w K mg base cb 1 fM ff ["p","row","alias"] K8) (kM:Kp K fM) (bM:Binds K ff ["p","row","alias"] []) (mM:Mg mg "_law_merged" fM)
  (GZ:cc P w K mg base cb 1 fZ Wz ["p","row","values"] VM) (kZ:Kp K fZ) (bZ:Binds K Wz ["p","row","values"] []) (mZ:Mg mg "_law_zero" fZ):cc P w K mg base cb 3 f fd ["p","words","row","numbers"] (Wx K):=by
 refine F.ok Cs (λvs H Q E h=>?_) (λcz A outer s H vs Q E hr h=>?_)
 ·obtain⟨p,aw,ra,na,d,r,m,rfl,_⟩:=h;rfl
 ·obtain⟨p,aw,ra,na,d,r,m,rfl,pp,hd,hw,haw,i0,kX,jj,qm,q⟩:=h;obtain⟨p2,dX⟩:=jf p pp;have p0:0<p:=by lia
  have zz:=i5;have iw:eO 1 _:=hr.mono (by decide);refine⟨_,bo (my (cK GP hr rf mP kP bP .nil cL (aV (pv 1) aZ)) (Jb (n:=3) rf (eZ (cH (i:=4) Cs.nd rf (.inl rf)) (eZ (cH (i:=5) Cs.nd rf (.inl rf)) (eZ (cH (i:=6) Cs.nd rf (Or.inr rf)) ko))))) (bo (cv (i:=7) Cs.nd rf (Or.inr rf) (aeR (K:=K) rf rf true false rf rm rf T.zip (aV (bQ mR (bQ mR (br (cj K rf) (pv 4) ba) (br (cj K rf) (pv 4) ba)) (br (cj K rf) (pv 4) ba)) (aV (bQ (eN K rf) (pv 2) (pv 3)) aZ)))) (bY (cC (eX (QR K rf rf) rf T.all QS (aV (je (N:=["one","alias","p","values"]) (own:=1) (caps:=[6,0,7]) rf (jo K rf (pv 5)) (show e8 Wy (cu Er) ["one","alias","p","values"] 1 [6,0,7] _ from .mk' (by decide +kernel)) (λ_ _ _ _ _=>cH (i:=0) afq rf (.inl rf)) (λ_ _ _ _ _=>jz) (λ_ _ _ _ _=>cK GZ iw rf mZ kZ bZ .nil cL (aV (pv 2) (aV (cK GM iw rf mM kM bM .nil cL (aV (pv 2) (aV (pv 0) (aV (pv 1) aZ)))) (aV (pv 3) aZ))))) aZ))))),?_⟩
  refine⟨_,rf,p,aw,d,rf,hd,by lia,haw,λt H1 s1 hP=>?_⟩;obtain⟨pt,lr,al,a,b,c,RS,g1,g2,ga,gb,gc,gr,hE,gl⟩:=hP;refine⟨t,_,rf,.of g1,rf,_,_,rf,_,_,rf,_,_,rf,rf,?_⟩;obtain⟨f1,f2,f3⟩:=rA (N:=0) hd;obtain⟨l1,l2⟩:=jD (N:=0) hd;have l3:=qh (N:=0) hd;have WA:=ox (N:=0) hd;have rl:=kX.1;have ml:=qm.1;have nl:∀L:List Nat,(cx L).length=L.length:=λL=>bu _;refine⟨_,rf,pt,_,0,.ref a,rf,rf,g2,bX (j:=0) rf,_,rf,pt,_,1,.ref b,rf,rf,g2,bX (j:=1) rf,a,b,_,_,rf,rf,ga,gb,by rw[nl,nl];lia,λx1 hx1=>?_⟩;have u1:=aW.upd (o:=.lst (cx (aT d 0).1.l++cx (aT d 0).1.r)) hx1;refine⟨_,rf,pt,_,2,.ref c,rf,rf,u1.bc g2,bX (j:=2) rf,x1,c,_,_,rf,rf,bb,u1 _ _ gc,by rw[cm,nl,nl,nl];lia,λx2 hx2=>?_⟩;rw[ua,ua]at *;have u2:=u1.trans (aW.upd (o:=.lst (cx ((aT d 0).1.l++(aT d 0).1.r++(aT d 0).1.cg))) hx2);have WB:(upd (upd H1 x1 (.lst (cx ((aT d 0).1.l++(aT d 0).1.r)))) x2 (.lst (cx ((aT d 0).1.l++(aT d 0).1.r++(aT d 0).1.cg)))) x2=some (.lst (cx ((aT d 0).1.l++(aT d 0).1.r++(aT d 0).1.cg))):=bb;generalize upd (upd H1 x1 (.lst (cx ((aT d 0).1.l++(aT d 0).1.r)))) x2 (.lst (cx ((aT d 0).1.l++(aT d 0).1.r++(aT d 0).1.cg)))=H2 at u2 WB |-;have s2:=s1.trans u2;refine⟨_,rf,_,rf,ra,na,_,_,rf,rf,s2.bc i0,s2.bc jj,by rw[bu,bu];lia,λtv H3 s3 WC=>?_⟩;rw[<- du]at WC;have cB:((aT d 0).1.l++(aT d 0).1.r++(aT d 0).1.cg).length=(r++m).length:=by rw[cm,cm,l1,l2,l3,cm,rl,ml]
  refine⟨x2,tv,(r++m).map V.int,((aT d 0).1.l++(aT d 0).1.r++(aT d 0).1.cg).map λ(s:Nat)=>(Sum.inl (s:Int):Key),rf,(by rw[<- ae1];exact .of (s3 _ _ WB)),WC,by rw[bu,bu,cB],λvd Gm=>?_⟩;have nd:=w8 hd;unfold iP.all at nd;have Nd:=(qG.mp nd).1;rw[ae0,vm _ [] (by rw[jX];exact xi _ (by rw[List.map_fst_zip (by lia)];exact Nd)),jX];have wj:=afp (vals:=r++m) hd (by rw[cm,rl,ml]);have wH:∀q∈(aT d 0).1.aY,∀t∈q,look (aT d 0).1.al t.1∈(aT d 0).1.l++(aT d 0).1.r++(aT d 0).1.cg:=λq hq t ht=>KU hd (vg hd q hq t ht).2;have cE:∀s∈(aT d 0).1.l++(aT d 0).1.r++(aT d 0).1.cg,s<(aT d 0).2:=λs hs=>KW hd hs;have rq:RS.length=(aT d 0).1.aY.length:=hE.1;generalize (aT d 0).1.l++(aT d 0).1.r++(aT d 0).1.cg=O at *;generalize (aT d 0).2=M at *;have s4:=u2.trans (s3.trans (aW.upd (o:=.dK ((O.zip (r++m)).map rK)) Gm));have gv:(upd H3 vd (.dK ((O.zip (r++m)).map rK))) vd=some (.dK ((O.zip (r++m)).map rK)):=bb;generalize upd H3 vd (.dK ((O.zip (r++m)).map rK))=H4 at s4 gv |-;refine⟨_,rf,lr,rf,⟨_,.of (s4 _ _ gr)⟩,uS (cp:=[some (.ref al),some (.int p),some (.ref vd)]) (λi H' zs=>zs.length<=i/\∃bs:List Bool,zs=bs.map V.bl/\((∀b∈bs,b=true)↔Sat p (λs=>jC O (r++m) (look (aT d 0).1.al s)) ((aT d 0).1.aY.take i))) (.of (s4 _ _ gr)) (by lia) ⟨cn _,[],rf,⟨λ_ q hq=>(by cases hq),λ_ b hb=>(by cases hb)⟩⟩ (λi H' zs h=>h.1) ?_ ?_⟩
  ·rintro i x H5 zs hx sm ⟨MM,bs,rfl,rH⟩;have hi:i<(aT d 0).1.aY.length:=by rw[<- rq];exact(dC.mp hx).1
   have ju:(aT d 0).1.aY[i]?=some ((aT d 0).1.aY[i]):=cP hi;have Gn:=dP ju;obtain⟨n1,n2⟩:=f3 _ Gn;obtain⟨qa,rfl,WD⟩:=hE.2 i x _ hx ju;generalize (aT d 0).1.aY[i]=q0 at ju Gn n1 n2 WD;have ok:=KR (al:=(aT d 0).1.al) (q:=q0) p0 (λt ht=>cE _ (wH q0 Gn t ht)) (jC O (r++m));refine l4 ⟨_,rf,_,rf,_,rf,_,rf,p,qa,al,q0,(aT d 0).1.al,rf,p2,dX,sm _ _ (s4 _ _ WD),n1,by lia,sm _ _ (s4 _ _ gl),λa' H6 s6 wx kr=>?_⟩;obtain⟨R,gR,hR,lR⟩:=wx;have vz:∀t∈R,t.1∈O:=λt ht=>by
    by_cases hO:t.1∈O
    ·exact hO
    ·have:=ok.2.2 t.1 λu hu e=>hO (e▸wH q0 Gn u hu)
     rw[hR.mem ht]at this;exact absurd this (hR.nz t ht)
   refine⟨_,rf,p,a',vd,R,_,jC O (r++m),rf,p2,dX,(λz=>by rw[z,sm _ _ gv]at kr;cases kr),gR,hR.nd,lR,λt ht=>?_,s6 _ _ (sm _ _ gv),λt ht=>aeZ cB (vz t ht),λH7 s7=>⟨⟨[_],rfl,rfl⟩,sm.trans (s6.trans s7),?_,bs++[decide ((R.map λt=>t.2*jC O (r++m) t.1).sum%p=0)],by rw[du];rfl,?_⟩⟩
   ·have:=ok.1 t.1
    rw[hR.mem ht]at this;lia
   ·rw[cm];exact Nat.add_le_add_right MM 1
   ·rw[gO,ju,aeC (M:=M) hR λt ht=>cE _ (vz t ht)];show _↔Sat p _ ((aT d 0).1.aY.take i++[q0]);rw[LB,<- rH,zy];have hz:dot (p7 p (aT d 0).1.al q0) (jC O (r++m)) M%p=0↔p∣rv (λs=>jC O (r++m) (look (aT d 0).1.al s)) q0:=by
     constructor
     ·intro h;exact jM (Int.dvd_of_emod_eq_zero h) ok.2.1 (by lia)
     ·intro h;exact Int.emod_eq_zero_of_dvd (tK h ok.2.1 (by lia))
    rw[<- hz];constructor
    ·exact λh=>⟨λb hb=>h b (eV _ hb),aL (h _ (dZ _ cQ))⟩
    ·rintro⟨h1,h2⟩ b hb;rcases(cN.mp hb)with(z|z)
     ·exact h1 b z
     ·rw[cA.mp z];exact aD h2
  ·rintro H5 zs sm ⟨_,bs,rfl,rH⟩ lb vC;rw[rq,iU]at rH;refine⟨lb,bs,rf,.of bb,q _ _ (s1.trans (s4.trans (sm.trans (.upd vC)))) ?_⟩;rw[vV];exact(rH.trans wj).trans ⟨λh=>⟨ml,h⟩,λh=>h.2⟩
end S21
namespace L2
open PySem PySem.Spec PyProof.Rows PySem.W
section
variable{X:Cx}
theorem afs(K:Frag):kitOne K (.type "bool") (.type "bool")=some true:=by kernel_rfl
theorem aft:gQ X (compareOp .IsNot) (λx y H Q=>∃a b:Bool,x=.bl a/\y=.bl b/\Q (.bl (!decide (a=b))) H):=by
 intro aU s σ H x y v u Q I rx ry h;obtain⟨a,b,rfl,rfl,q⟩:=h;cases rx;cases ry;refine wpAny_isNot_plain (by cases a<;>cases b<;>rfl) (gq I q ?_)
 cases a<;>cases b<;>rfl
theorem afu{T:String}(K:Frag)(hK:X.K=K):ib X (.builtin "isinstance") (λxs H Q=>∃b c,xs=[.bl b,.ty T]/\kitOne K (.type "bool") (.type T)=some c/\Q (.bl c) H):=by
 subst hK;intro aU s σ H vs us Q I r h;obtain⟨b,c,rfl,e,q⟩:=h;exact DV aU s σ H _ us Q I r ⟨.bl b,_,c,rf,.bl b,e,q⟩
end
end L2
namespace S21
open PySem L2 Bw
variable{f:Addr}{fd:FuncData}{us:List V}
def Gp(K:Frag):Sp:=λvs H Q _=>∃(p:Int)(aw ra na:Addr)(d:Drw)(r m:List Int),vs=[.int p,.ref aw,.ref ra,.ref na]/\p∈ig/\d.wf p/\d.aX.length<64/\ck d<=400/\bq K H aw d.aX/\bq K H ra (r.map V.int)/\Rw p (d.bh+d.bf) r/\bq K H na (m.map V.int)/\Rw p (ck d) m/\
 ∀H',aW H H'->Q (.bl true) H'
noncomputable abbrev afv:List Str:=["p","words","row","numbers","found"]
theorem WE:dy afv ["p","words","row","numbers"] (cu J4):=dI rfl rfl rfl (by decide +kernel) rfl
theorem afw{fS fL:Addr}{jP l7:FuncData}(F:cJ K "_law_asked" "_law_asked" J4 f fd)(T:Txt mg)
  (GS:cc P w K mg base cb 8 fS jP ["p","words","row","setting"] (MJ K)) (kS:Kp K fS) (bS:Binds K jP ["p","words","row","setting"] []) (mS:Mg mg "stands" fS)
  (GL:cc P w K mg base cb 3 fL l7 ["p","words","row","numbers"] (Wx K)) (kL:Kp K fL) (bL:Binds K l7 ["p","words","row","numbers"] []) (mL:Mg mg "_law_stands" fL):cc P w K mg base cb 9 f fd ["p","words","row","numbers"] (Gp K):=by
 refine F.ok WE (λvs H Q E h=>?_) (λcz A outer s H vs Q E hr h=>?_)
 ·obtain⟨p,aw,ra,na,d,r,m,rfl,_⟩:=h;rfl
 ·obtain⟨p,aw,ra,na,d,r,m,rfl,pp,hd,ji,Mn,hw,i0,kX,jj,qm,q⟩:=h;have Nf:eO 3 _:=hr.mono (by decide);refine⟨_,bo (cv (i:=4) WE.nd rf (.inl rf) (cK GS hr rf mS kS bS .nil cL (aV (pv 0) (aV (pv 1) (aV (pv 2) (aV (pv 3) aZ)))))) (bY (cC (HF (eX (afu (T := "bool") K rf) rf T.isinstance AX (aV (pv 4) (aV (AQ rf T.bool QN) aZ))) (OP (qN eB (pv 4) (cK GL Nf rf mL kL bL .nil cL (aV (pv 0) (aV (pv 1) (aV (pv 2) (aV (pv 3) aZ))))) (cM _)))))),?_⟩;refine⟨_,rf,_,rf,_,rf,_,rf,p,aw,ra,na,d,r,m,ck d,rf,pp,hd,ji,by lia,hw,i0,kX,jj,qm,by lia,λb1 H1 s1 oD=>?_⟩;refine⟨_,rf,b1,true,rf,afs K,true,rf,eC ?_⟩;refine⟨_,rf,_,rf,_,rf,_,rf,_,rf,p,aw,ra,na,d,r,m,rf,pp,hd,by lia,s1.bc hw,s1.bc i0,kX,s1.bc jj,qm,λb2 H2 s2 xF=>⟨rf,?_⟩⟩;have e:b1=b2:=Bool.eq_iff_iff.mpr (oD.trans xF.symm);rw[aD (aj V.bl e)];exact q _ (s1.trans s2)
theorem afx(xs:List V):iR xs (some 1) none=xs.drop 1:=by
 show iR xs (some ((1:Nat):Int)) none=_;unfold iR;rw[HT.wu,HT.Aw,pz (by simp)];cases xs with
 |nil=>rfl
 |cons x xs=>rw[Ab (by simp)]
noncomputable abbrev nUn:List Str:=["p","words","row","numbers","some"]
theorem WG:dy nUn ["p","words","row","numbers"] (cu J7):=dI rfl rfl rfl (by decide +kernel) rfl
def afy(K:Frag)(p:Int)(H:Hp)(x:V):Prop:=∃a u,x=.ref a/\bq K H a (List.map V.int u)/\Rw p u.length u/\u.length<=900
theorem afz{fS:Addr}{jP:FuncData}(F:cJ K "_law_unlike" "_law_unlike" J7 f fd)(T:Txt mg)
  (GS:cc P w K mg base cb 8 fS jP ["p","words","row","setting"] (MJ K)) (kS:Kp K fS) (bS:Binds K jP ["p","words","row","setting"] []) (mS:Mg mg "stands" fS):cc P w K mg base cb 9 f fd ["p","words","row","numbers"] (Gp K):=by
 refine F.ok WG (λvs H Q E h=>?_) (λcz A outer s H vs Q E hr h=>?_)
 ·obtain⟨p,aw,ra,na,d,r,m,rfl,_⟩:=h;rfl
 ·obtain⟨p,aw,ra,na,d,r,m,rfl,pp,hd,ji,Mn,hw,i0,kX,jj,qm,q⟩:=h;obtain⟨p2,dX⟩:=jf p pp;refine⟨_,bo (jd jw rf (jo K rf (gT (aV (bQ (eN K rf) (pv 3) (cU (aV ba aZ))) (aV (nT (sZ K rf) (pv 3) (lT ba) mQ) (aV (cU aZ) (aV (bQ (eN K rf) (pv 3) (pv 3)) aZ)))))) (cH (i:=4) WG.nd rf (.inl rf)) (bY (dj (PW.pt (qK (cS nP (eX (iM K rf) rf T.len iN (aV (pv 4) aZ)) (eX (iM K rf) rf T.len iN (aV (pv 3) aZ)) (cM _)) (xX (cS aft (cK GS hr rf mS kS bS .nil cL (aV (pv 0) (aV (pv 1) (aV (pv 2) (aV (pv 4) aZ))))) pI (cM _))))) (bY (cC pI)) dz))) (bY (cC pI)),?_⟩;have zz:=i5;have ml:=qm.1;refine⟨_,rf,by show 1<=sizeLine;decide,λt0 BM=>?_⟩;have u0:=aW.upd (o:=.tup [.int 0]) BM;refine⟨na,t0,_,_,rf,rf,u0.bc jj,.of bb,by rw[bu];show _+1<=_;lia,λa1 H1 s1 h1=>?_⟩;have k1:=u0.trans s1;refine⟨_,rf,_,rf,na,_,rf,k1.bc jj,λa2 H2 s2 h2=>?_⟩;have k2:=k1.trans s2;refine⟨by show 0<=sizeLine;lia,λa3 ha3=>?_⟩;have u3:=aW.upd (o:=.tup []) ha3;have k3:=k2.trans u3;refine⟨_,rf,_,rf,na,na,_,_,rf,rf,k3.bc jj,k3.bc jj,by rw[bu];lia,λa4 H4 s4 h4=>?_⟩;have k4:=k3.trans s4;refine⟨by show 4<=sizeLine;lia,λlb vC=>?_⟩;have u5:=aW.upd (o:=.lst [.ref a1,.ref a2,.ref a3,.ref a4]) vC;have k5:=k4.trans u5;have g5:(upd H4 lb (.lst [.ref a1,.ref a2,.ref a3,.ref a4])) lb=some (.lst [.ref a1,.ref a2,.ref a3,.ref a4]):=bb;have hX:∀x∈[V.ref a1,V.ref a2,V.ref a3,V.ref a4],afy K p (upd H4 lb (.lst [.ref a1,.ref a2,.ref a3,.ref a4])) x:=λx hx=>by
   simp only[cV,cA,qz,aF]at hx;rcases hx with rfl|rfl|rfl|rfl
   ·refine⟨a1,m++[0],rf,(s2.trans (u3.trans (s4.trans u5))).bc (by rw[du];exact h1),⟨rf,λx hx=>?_⟩,by rw[cm];show _+1<=_;lia⟩;rcases(cN.mp hx)with(z|z)
    ·exact qm.2 x z
    ·rw[cA.mp z];lia
   ·exact⟨a2,m.drop 1,rf,(u3.trans (s4.trans u5)).bc (by rw[List.map_drop,<- afx];exact h2),⟨rf,λx hx=>qm.2 x (pC hx)⟩,by rw[jW];lia⟩
   ·exact⟨a3,[],rf,(s4.trans u5).bc (.of bb),⟨rf,λx hx=>by cases hx⟩,by show 0<=900;decide⟩
   ·refine⟨a4,m++m,rf,u5.bc (by rw[du];exact h4),⟨rf,λx hx=>?_⟩,by rw[cm];lia⟩;rcases cN.mp hx with z|z<;>exact qm.2 x z
  generalize upd H4 lb (.lst [.ref a1,.ref a2,.ref a3,.ref a4])=H5 at k5 g5 hX |-;refine⟨lb,rf,⟨_,.of g5⟩,so (xs:=[.ref a1,.ref a2,.ref a3,.ref a4]) (λi σ H'=>(∃s4,σ=[some (.int p),some (.ref aw),some (.ref ra),some (.ref na),s4])/\aW H5 H') ⟨⟨none,rf⟩,.refl _⟩ (λi σ H' _ h=>.of (h.2 _ _ g5)) ?_ ?_⟩
  ·rintro i x σ H' hx ⟨⟨s4',rfl⟩,sm⟩;obtain⟨a,u,rfl,hu,nG,hul⟩:=hX x (dP hx);have k6:=k5.trans sm;refine⟨_,rf,a,_,rf,.inr (sm.bc hu),_,rf,na,_,rf,.inr (k6.bc jj),rf,_,rf,?_⟩;rw[bu,bu];by_cases hl:u.length=m.length
   ·rw[show(!decide (V.int (u.length:Int)=V.int (m.length:Int)))=false by rw[hl,aD rfl];rfl];exact dB (dB ⟨⟨_,rf⟩,sm⟩)
   ·rw[show(!decide (V.int (u.length:Int)=V.int (m.length:Int)))=true by rw[ae λz=>hl (by have:=V.int.inj z;lia)];rfl];refine eC ⟨_,rf,_,rf,_,rf,_,rf,p,aw,ra,a,d,r,u,u.length,rf,pp,hd,ji,by lia,k6.bc hw,k6.bc i0,kX,sm.bc hu,nG,hul,λb H6 s6 hb=>⟨b,false,rf,rf,_,rf,?_⟩⟩;have eb:b=false:=by
     cases b with
     |false=>rfl
     |true=>exact absurd (hb.mp rf).1 (by lia)
    rw[eb];exact dB ⟨⟨_,rf⟩,sm.trans s6⟩
  ·rintro σ H' ⟨_,sm⟩;exact q _ (k5.trans sm)
inductive LW:List V->List V->Prop where
 |nil:LW [] []
 |same {v:V} {ws us:List V} (h:LW ws us):LW (v::ws) (v::us)
 |p6 {ws us:List V} (h:LW ws us):LW (.str "id"::ws) (.str "late"::us)
theorem LW.len{ws:List V}(h:LW ws us):us.length=ws.length:=by
 induction h with
 |nil=>rfl
 |same _ ih=>rw[dW,dW,ih]
 |p6 _ ih=>rw[dW,dW,ih]
theorem LW.app{a:List V}{b:List V}(h:LW (a++b) us):∃x y,us=x++y/\LW a x/\LW b y:=by
 induction a generalizing us with
 |nil=>exact⟨[],us,rf,.nil,h⟩
 |cons v a ih=>
  cases h with
  |same h=>obtain⟨x,y,e,h1,h2⟩:=ih h;exact⟨_::x,y,by rw[e];rfl,.same h1,h2⟩
  |p6 h=>obtain⟨x,y,e,h1,h2⟩:=ih h;exact⟨_::x,y,by rw[e];rfl,.p6 h1,h2⟩
theorem LW.cat{a x b y:List V}(h:LW a x)(h2:LW b y):LW (a++b) (x++y):=by
 induction h with
 |nil=>exact h2
 |same _ ih=>exact .same ih
 |p6 _ ih=>exact .p6 ih
theorem afA:∀e∈vt,e.1="id"->e.2=(1,1):=by decide +kernel
theorem WH:(("late",1,1):Str×Nat×Nat)∈vt:=by decide +kernel
theorem Gq:("times":Str) ≠ "id"/\("back":Str) ≠ "id"/\("beside":Str) ≠ "id"/\("then":Str) ≠ "id":=by decide +kernel
theorem LW.head{x:Str}{ws:List V}(h:LW (.str x::ws) us)(hx:x ≠ "id"):∃u,us=.str x::u/\LW ws u:=by
 cases h with
 |same h=>exact⟨_,rf,h⟩
 |p6 h=>exact absurd rf hx
theorem LW.bK:∀{d:Drw}{us:List V},d.ws->LW d.aX us->∃d':Drw,d'.aX=us/\d'.ws/\ck d'=ck d/\d'.dN=d.dN
 | .box x l r aY,us,hd,h=>by
  cases h with
  |same h=>cases h;exact⟨.box x l r aY,rf,hd,rf,rf⟩
  |p6 h=>
   cases h;have e:=afA _ hd rfl;have e:(l,r)=(1,1):=e;refine⟨.box "late" 1 1 [],rf,WH,rf,?_⟩;show(1,1)=(l,r);exact e.symm
 | .times n,us,hd,h=>by
  obtain⟨u,rfl,h'⟩:=LW.head h Gq.1;cases h' with
  |same h2=>cases h2;exact⟨.times n,rf,trivial,rf,rf⟩
 | .back a,us,hd,h=>by
  obtain⟨u,rfl,h'⟩:=LW.head h Gq.2.1;obtain⟨a',rfl,h1,h2,h3⟩:=LW.bK (d:=a) hd h';exact⟨.back a',rf,h1,h2,by show(a'.dN.2,a'.dN.1)=(a.dN.2,a.dN.1);rw[h3]⟩
 | .cD a b,us,hd,h=>by
  obtain⟨u,rfl,h'⟩:=LW.head h Gq.2.2.1;obtain⟨x,y,rfl,ha,hb⟩:=h'.app;obtain⟨a',rfl,h1,h2,h3⟩:=LW.bK (d:=a) hd.1 ha;obtain⟨b',rfl,h4,h5,h6⟩:=LW.bK (d:=b) hd.2 hb;exact⟨.cD a' b',rf,⟨h1,h4⟩,by show ck a'+ck b'=ck a+ck b;rw[h2,h5],by show(a'.dN.1+b'.dN.1,a'.dN.2+b'.dN.2)=(a.dN.1+b.dN.1,a.dN.2+b.dN.2);rw[h3,h6]⟩
 | .bj a b,us,hd,h=>by
  obtain⟨u,rfl,h'⟩:=LW.head h Gq.2.2.2;obtain⟨x,y,rfl,ha,hb⟩:=h'.app;obtain⟨a',rfl,h1,h2,h3⟩:=LW.bK (d:=a) hd.1 ha;obtain⟨b',rfl,h4,h5,h6⟩:=LW.bK (d:=b) hd.2 hb;exact⟨.bj a' b',rf,⟨h1,h4⟩,by show ck a'+a'.dN.2+ck b'=ck a+a.dN.2+ck b;rw[h2,h3,h5],by show(a'.dN.1,b'.dN.2)=(a.dN.1,b.dN.2);rw[h3,h6]⟩
theorem Drw.zM:∀(d:Drw),∀v∈d.aX,(∃s,v=V.str s)\/∃n,v=V.int n
 | .box x l r aY=>λv hv=>by rw[cA.mp hv];exact .inl ⟨_,rf⟩
 | .times n=>λv hv=>by
  rcases(cV.mp hv)with z|z
  ·rw[z];exact .inl ⟨_,rf⟩
  ·rw[cA.mp z];exact .inr ⟨_,rf⟩
 | .back d=>λv hv=>by
  rcases(cV.mp hv)with z|z
  ·rw[z];exact .inl ⟨_,rf⟩
  ·exact Drw.zM d v z
 | .cD a b=>λv hv=>by
  rcases(cV.mp hv)with z|z
  ·rw[z];exact .inl ⟨_,rf⟩
  ·exact(cN.mp z).elim (Drw.zM a v) (Drw.zM b v)
 | .bj a b=>λv hv=>by
  rcases(cV.mp hv)with z|z
  ·rw[z];exact .inl ⟨_,rf⟩
  ·exact(cN.mp z).elim (Drw.zM a v) (Drw.zM b v)
def WI(K:Frag):Sp:=λvs H Q _=>∃(p:Int)(ha aw:Addr)(d:Drw)(n:Nat)(k:Int),vs=[.ref ha,.ref aw,.int k]/\d.wf p/\d.aX.length<=90/\bq K H aw d.aX/\Hand H ha n/\n<=400000/\
 ∀v d' H' n',cw ha H H'->Hand H' ha n'->n'<=n+90->bq K H' v d'.aX->d'.ws->ck d'=ck d->d'.aX.length<=93->Q (.ref v) H'
noncomputable abbrev afB:List Str:=["hand","words","many","found","word"]
theorem Ct:dy afB ["hand","words","many"] (cu J5):=dI rfl rfl rfl (by decide +kernel) rfl
theorem afC{fD:Addr}{iI:FuncData}(F:cJ K "_law_delayed" "_law_delayed" J5 f fd)
  (GD:cc P w K mg base cb 1 fD iI ["hand","limit"] nE) (kD:Kp K fD) (bD:Binds K iI ["hand","limit"] []) (mD:Mg mg "_law_draw" fD):cc P w K mg base cb 2 f fd ["hand","words","many"] (WI K):=by
 refine F.ok Ct (λvs H Q E h=>?_) (λcz A outer s H vs Q E hr h=>?_)
 ·obtain⟨p,ha,aw,d,n,k,rfl,_⟩:=h;rfl
 ·obtain⟨p,ha,aw,d,n,k,rfl,hd,ji,hw,hH,hn,q⟩:=h;refine⟨_,bo (cv (i:=3) Ct.nd rf (.inl rf) (cU aZ)) (bo (jd jw rf (AU K rf (pv 1)) (cH (i:=4) Ct.nd rf (.inl rf)) (bo (dj (cS eB (pv 4) dh (cM _)) (bY (cv (i:=4) Ct.nd rf (.inl rf) (br (eY K rf) (gT (aV dh (aV dh (aV dh aZ)))) (cK GD hr rf mD kD bD .nil cL (aV (pv 0) (aV ba aZ)))))) dz) (bY (cv (i:=3) Ct.nd rf (.inl rf) (bQ (eN K rf) (pv 3) (cU (aV (pv 4) aZ))))))) (bo (dj (cS wo (pv 2) ba (cM _)) (bY (cC (pv 3))) dz) (bY (cC (bQ (eN K rf) (bQ (eN K rf) (cU (aV dh aZ)) (pv 3)) (cU (aV dh (aV dh aZ)))))))),?_⟩;have zz:=i5;refine⟨by show 0<=sizeLine;lia,λt0 BM=>?_⟩;have u0:=aW.upd (o:=.tup []) BM;refine⟨_,rf,aw,rf,⟨_,u0.bc hw⟩,HM (xs:=d.aX) (λi σ H'=>∃fa s4 us n',σ=[some (.ref ha),some (.ref aw),some (.int k),some (.ref fa),s4]/\cw ha H H'/\Hand H' ha n'/\n'<=n+i/\bq K H' fa us/\LW (d.aX.take i) us) ⟨t0,none,[],n,rf,aW.de u0,hH.mono u0,cn _,.of bb,.nil⟩ (λi σ H' _ ⟨_,_,_,_,_,sm,_⟩=>cw.bc sm hH hw) ?_ ?_⟩
  ·rintro i x σ H' hx ⟨fa,s4,us,n',rfl,sm,xG,v8,xH,hL⟩;have il:i<d.aX.length:=(dC.mp hx).1;have ul:=hL.len;rw[gy]at ul;have afD:=Drw.zM d x (dP hx);have sc:Dr x (.str "id")=true:=by rcases afD with⟨y,rfl⟩|⟨m,rfl⟩<;>rfl
   have lw:∀{y:V},LW [x] [y]->LW (d.aX.take (i+1)) (us++[y]):=λh=>by rw[gO,hx];exact hL.cat h
   refine⟨_,rf,sc,_,rf,?_⟩;by_cases cg:x=.str "id"
   ·rw[aD cg];refine eC ⟨by show 3<=sizeLine;lia,λlb vC=>?_⟩;have ub:=aW.upd (o:=.lst [.str "id",.str "id",.str "late"]) vC;refine pq (lim:=3) rf (λR h=>h) (xG.mono ub) (by lia) (by lia) (by lia) λj G j0 j1 sG hG=>?_;have nlb:lb≠ha:=xC xG vC;have glb:=sG _ _ (bb (H:=H') (o:=.lst [.str "id",.str "id",.str "late"])) nlb;have hfG:=cw.bc sG (xG.mono ub) (ub.bc xH);have smG:=cw.trans sm (cw.trans (aW.de ub) sG);obtain⟨y,hy,e⟩:∃y,LW [x] [y]/\sx [V.str "id",.str "id",.str "late"] j=some y:=by
     have c:j=0\/j=1\/j=2:=by lia
     rcases c with rfl|rfl|rfl
     ·exact⟨_,by rw[cg];exact .same .nil,bX (j:=0) rf⟩
     ·exact⟨_,by rw[cg];exact .same .nil,bX (j:=1) rf⟩
     ·exact⟨_,by rw[cg];exact .p6 .nil,bX (j:=2) rf⟩
    exact⟨lb,_,j,y,rf,rf,.of glb,e,_,rf,_,rf,by show 1<=sizeLine;lia,λt ht=>⟨fa,t,us,[y],rfl,rfl,(aW.upd ht).bc hfG,.of bb,by show us.length+1<=sizeLine;lia,λc G2 s2 hc=>⟨c,_,_,n'+1,rfl,cw.trans smG (aW.de ((aW.upd ht).trans s2)),hG.mono ((aW.upd ht).trans s2),by lia,hc,lw hy⟩⟩⟩
   ·rw[ae cg];refine dB ⟨_,rf,_,rf,by show 1<=sizeLine;lia,λt ht=>⟨fa,t,us,[x],rfl,rfl,(aW.upd ht).bc xH,.of bb,by show us.length+1<=sizeLine;lia,λc G2 s2 hc=>⟨c,_,_,n',rfl,cw.trans sm (aW.de ((aW.upd ht).trans s2)),xG.mono ((aW.upd ht).trans s2),by lia,hc,lw (.same .nil)⟩⟩⟩
  ·rintro σ H' ⟨fa,s4,us,n',rfl,sm,xG,v8,xH,hL⟩;rw[iU]at hL;have ul:=hL.len;obtain⟨d',e,h1,h2,h3⟩:=LW.bK (Drw.qi hd) hL;subst e;refine⟨_,rf,_,_,rf,rf,_,rf,FX (λ_=>?_) (λ_=>?_)⟩
   ·exact⟨_,rf,q fa d' H' n' sm xG (by lia) xH h1 h2 (by lia)⟩
   ·refine⟨by show 1<=sizeLine;lia,λt1 iq=>?_⟩;have u1:=aW.upd (o:=.tup [.str "beside"]) iq;refine⟨_,rf,t1,fa,_,_,rf,rf,.of bb,u1.bc xH,by show 1+_<=sizeLine;lia,λc G2 s2 hc=>?_⟩;refine⟨by show 2<=sizeLine;lia,λt2 pj=>?_⟩;have u3:=aW.upd (o:=.tup [.str "back",.str "late"]) pj;refine⟨c,t2,_,_,rf,rf,u3.bc hc,.of bb,by rw[cm];show 1+_+2<=sizeLine;lia,λv G3 s4 hv=>?_⟩;have k:=(u1.trans s2).trans (u3.trans s4);refine q v (.cD d' (.back (.box "late" 1 1 []))) G3 n' (cw.trans sm (aW.de k)) (xG.mono k) (by lia) hv ⟨h1,WH⟩ ?_ ?_
    ·show ck d'+0=ck d;rw[h2,Nat.add_zero]
    ·show(V.str "beside"::(d'.aX++[.str "back",.str "late"])).length<=93;rw[dW,cm];show d'.aX.length+2+1<=93;lia
def RowC(K:Frag)(H:Hp)(x:V):Prop:=∃(t a:Addr)(d:Drw),x=.ref t/\bq K H t [.ref a,.int (ck d:Int)]/\bq K H a d.aX/\d.ws/\d.aX.length<=900
theorem RowC.mono{H H':Hp}{x:V}(h:RowC K H x)(s:aW H H'):RowC K H' x:=let ⟨t,a,d,e,h1,h2,h3⟩:=h;⟨t,a,d,e,s.bc h1,s.bc h2,h3⟩
theorem RowC.tup{H H':Hp}{x:V}(h:RowC K H x)(s:dF H H'):RowC K H' x:=let ⟨t,a,d,e,h1,h2,h3⟩:=h;⟨t,a,d,e,s.bc h1,s.bc h2,h3⟩
def WJ(K:Frag):Sp:=λvs H Q _=>∃(p:Int)(ha aw:Addr)(d:Drw)(n:Nat),vs=[.ref ha,.ref aw,.int (d.bh:Int),.int (d.bf:Int),.int (ck d:Int)]/\d.wf p/\d.aX.length<=90/\bq K H aw d.aX/\Hand H ha n/\n<=400000/\
 ∀H' n',cw ha H H'->Hand H' ha n'->n'<=n+90->Q (.bl true) H'
noncomputable abbrev nCt:List Str:=["hand","words","left","right","due","rows","some","many","found"]
theorem Cu:dy nCt ["hand","words","left","right","due"] (cu J6):=dI rfl rfl rfl (by decide +kernel) rfl
theorem afE{fL fI:Addr}{l7 ql:FuncData}(F:cJ K "_law_counted" "_law_counted" J6 f fd)(T:Txt mg)
  (GL:cc P w K mg base cb 2 fL l7 ["hand","words","many"] (WI K)) (kL:Kp K fL) (bL:Binds K l7 ["hand","words","many"] []) (mL:Mg mg "_law_delayed" fL)
  (GI:cc P w K mg base cb 5 fI ql ["words"] (LV K)) (kI:Kp K fI) (bI:Binds K ql ["words"] []) (mI:Mg mg "inner" fI):cc P w K mg base cb 6 f fd ["hand","words","left","right","due"] (WJ K):=by
 refine F.ok Cu (λvs H Q E h=>?_) (λcz A outer s H vs Q E hr h=>?_)
 ·obtain⟨p,ha,aw,d,n,rfl,_⟩:=h;rfl
 ·obtain⟨p,ha,aw,d,n,rfl,hd,ji,hw,hH,hn,q⟩:=h;have nC:eO 2 _:=hr.mono (by decide);refine⟨_,bo (cv (i:=5) Cu.nd rf (.inl rf) (gT (aV (cU (aV (pv 1) (aV (pv 4) aZ))) (aV (cU (aV (cK GL nC rf mL kL bL .nil cL (aV (pv 0) (aV (pv 1) (aV (eX (ZN rf) rf T.max acb (aV (pv 2) (aV (pv 3) aZ))) aZ)))) (aV (pv 4) aZ))) aZ)))) (bo (dj (cS Ds (eX (iM K rf) rf T.len iN (aV (pv 1) aZ)) ba (cM _)) (bY (oJ (qQ oH uy uz qR (pv 5) (aV (cU (aV (bQ (eN K rf) (bQ (eN K rf) (cU (aV dh (aV dh aZ))) (pv 1)) (pv 1)) (aV (bQ eM (bQ lQ ba (pv 4)) (pv 2)) aZ))) aZ)))) dz) (bo (jd jw rf (jo K rf (pv 5)) (nZ (n:=2) K rf rf (eZ (cH (i:=6) Cu.nd rf (.inl rf)) (eZ (cH (i:=7) Cu.nd rf (.inl rf)) ko))) (bo (cv (i:=8) Cu.nd rf (.inl rf) (cK GI hr rf mI kI bI .nil cL (aV (pv 6) aZ))) (bY (dj (PW.pt (wd (we (pK (eX (Ja (T := "int") K rf) rf T.isinstance AX (aV (pv 8) (aV (AQ rf T.int wD) aZ))))) (wd (pK (eX (Ja (T := "bool") K rf) rf T.isinstance AX (aV (pv 8) (aV (AQ rf T.bool QN) aZ)))) (xY (cS nP (pv 8) (pv 7) (cM _)))))) (bY (cC pI)) dz)))) (bY (cC pI)))),?_⟩;have zz:=i5;refine⟨_,rf,_,rf,by show 2<=sizeLine;lia,λt1 iq=>?_⟩;have u1:=aW.upd (o:=.tup [.ref aw,.int (ck d:Int)]) iq;refine⟨_,rf,_,rf,_,rf,_,rf,_,_,rf,p,ha,aw,d,n,_,rf,hd,ji,u1.bc hw,hH.mono u1,hn,λv d' H2 n2 s2 WK DI hv jc e' nY=>?_⟩;refine⟨_,rf,by show 2<=sizeLine;lia,λt2 pj=>?_⟩;have u2:=aW.upd (o:=.tup [.ref v,.int (ck d:Int)]) pj;refine⟨by show 2<=sizeLine;lia,λlr uX=>?_⟩;have u3:=aW.upd (o:=.lst [.ref t1,.ref t2]) uX;have sA:cw ha H (upd (upd H2 t2 (.tup [.ref v,.int (ck d:Int)])) lr (.lst [.ref t1,.ref t2])):=cw.trans (aW.de u1) (cw.trans s2 (aW.de (u2.trans u3)));have gl:(upd (upd H2 t2 (.tup [.ref v,.int (ck d:Int)])) lr (.lst [.ref t1,.ref t2])) lr=some (.lst [.ref t1,.ref t2]):=bb;have hX:∀x∈[V.ref t1,V.ref t2],RowC K (upd (upd H2 t2 (.tup [.ref v,.int (ck d:Int)])) lr (.lst [.ref t1,.ref t2])) x:=λx hx=>by
   rcases(cV.mp hx)with(z|z)
   ·exact⟨t1,aw,d,z,cw.bc (cw.trans s2 (aW.de (u2.trans u3))) (hH.mono u1) (.of bb),cw.bc sA hH hw,Drw.qi hd,by lia⟩
   ·exact⟨t2,v,d',cA.mp z,by rw[e'];exact u3.bc (.of bb),(u2.trans u3).bc hv,jc,by lia⟩
  have WL:lr≠ha:=xC (WK.mono u2) uX;have nHl:∀o,H lr≠some o:=λo e=>by
   have:=(cw.trans (aW.de u1) (cw.trans s2 (aW.de u2))) lr o e WL
   rw[this]at uX;cases uX
  have zN:=WK.mono (u2.trans u3);generalize upd (upd H2 t2 (.tup [.ref v,.int (ck d:Int)])) lr (.lst [.ref t1,.ref t2])=H3 at sA gl hX zN |-;dsimp only[gG];refine RJ (λσ G=>∃XS,σ=[some (.ref ha),some (.ref aw),some (.int (d.bh:Int)),some (.int (d.bf:Int)),some (.int (ck d:Int)),some (.ref lr),none,none,none]/\cw ha H G/\Hand G ha n2/\G lr=some (.lst XS)/\XS.length<=3/\∀x∈XS,RowC K G x) (λN hN=>?_) ?_
  ·have zI:=cw.bc sA hH hw;refine⟨_,rf,aw,_,rf,.inr zI,_,_,rf,rf,_,rf,FX (λcE=>?_) (λ_=>hN _ _ ⟨_,rf,sA,zN,gl,by show 2<=3;decide,hX⟩)⟩;refine⟨_,rf,.inl ⟨rf,_,.of gl⟩,by show 2<=sizeLine;lia,λta hta=>?_⟩;have k1:=aW.upd (o:=.tup [.str "then",.str "back"]) hta;refine⟨_,rf,ta,aw,_,_,rf,rf,.of bb,k1.bc zI,by show 2+_<=sizeLine;lia,λc G1 s1 hc=>?_⟩;have k2:=k1.trans s1;refine⟨_,rf,c,aw,_,_,rf,rf,hc,k2.bc zI,by rw[cm];show 2+_+_<=sizeLine;lia,λc2 G2 s2' x8=>?_⟩;have k3:=k2.trans s2';refine⟨_,rf,_,_,rf,rf,.inl ⟨by decide,by decide⟩,_,rf,_,_,rf,rf,by show 2<=sizeLine;lia,λt3 vA=>?_⟩;have k4:=k3.trans (aW.upd (o:=.tup [.ref c2,.int (2*(ck d:Int)+(d.bh:Int))]) vA);have g4:=k4 _ _ gl;refine⟨lr,_,_,rf,rf,g4,by show 2+1<=sizeLine;lia,?_⟩;refine hN _ _ ⟨_,rf,λb o e nb=>?_,?_,bb,by show 3<=3;decide,λx hx=>?_⟩
   ·rw[bR (show b≠lr from λz=>nHl o (by rw[<- z];exact e))]
    exact cw.trans sA (aW.de k4) b o e nb
   ·obtain⟨x0,x1,x2,e,r⟩:=zN.mono k4;exact⟨x0,x1,x2,by rw[bR WL.symm];exact e,r⟩
   ·refine RowC.tup (H:=_) ?_ (dF.lst g4);have hx:x∈[V.ref t1,V.ref t2]++[V.ref t3]:=hx;rcases(cN.mp hx)with(z|z)
    ·exact(hX x z).mono k4
    ·refine⟨t3,c2,.bj (.back d) d,cA.mp z,?_,(aW.upd vA).bc x8,⟨Drw.qi hd,Drw.qi hd⟩,?_⟩
     ·have e:((ck (.bj (.back d) d):Nat):Int)=2*(ck d:Int)+(d.bh:Int):=by
       show((ck d+d.bh+ck d:Nat):Int)=_;lia
      rw[e];exact .of bb
     ·show(V.str "then"::(V.str "back"::d.aX++d.aX)).length<=900;rw[dW,cm,dW];lia
  ·rintro σ G ⟨XS,rfl,sm,hHG,gX,xl,hX⟩;refine⟨_,rf,lr,rf,⟨_,.of gX⟩,so (xs:=XS) (λi σ H'=>(∃s6 s7 s8,σ=[some (.ref ha),some (.ref aw),some (.int (d.bh:Int)),some (.int (d.bf:Int)),some (.int (ck d:Int)),some (.ref lr),s6,s7,s8])/\aW G H') ⟨⟨_,_,_,rf⟩,.refl _⟩ (λi σ H' _ h=>.of (h.2 _ _ gX)) ?_ ?_⟩
   ·rintro i x σ H' hx ⟨⟨s6,s7,s8,rfl⟩,sG⟩;obtain⟨t,a,e,rfl,h1,h2,h3,h4⟩:=hX x (dP hx);refine⟨t,_,rf,sG.bc h1,rf,_,_,rf,_,_,rf,rf,?_⟩;refine⟨_,rf,a,e,rf,h3,by lia,sG.bc h2,λH5 s5=>?_⟩;refine⟨_,rf,_,true,rf,IX K,true,rf,dB ⟨_,rf,_,false,rf,abh K,false,rf,dB ⟨_,rf,_,rf,rf,_,rf,PJ rf ⟨⟨_,_,_,rf⟩,sG.trans s5⟩⟩⟩⟩
   ·rintro σ H' ⟨_,sG⟩;exact q _ n2 (cw.trans sm (aW.de sG)) (hHG.mono sG) DI
end S21
namespace L2
open PySem PySem.Spec PyProof.Rows PySem.W
section
variable{X:Cx}{aU:List (Addr×Obj)}{σ:St}{H:Hp}{s:Shared}{a:Addr}{xs:List V}
theorem Inv.afF(I:Inv X aU σ H s)(e:H a=some (.lst xs)):∃o,s.heap.get? a=some o/\Inv X aU σ (upd H a (.cT o (.lst xs))) s:=by
 have ok:=I.cq a _ e;obtain⟨z,its,n,rv,hl⟩:=id ok;exact⟨_,hl,I.write (x:=a) (e:=a) (h':=s.heap) (t':=s.toks) (by rw[e];exact True.intro) (.inl rf) (λ_ _ _ q=>q) ⟨_,hl⟩ ⟨hl,z,its,n,rv,hl⟩⟩
theorem Inv.afG{o:Obj}(I:Inv X aU σ H s)(e:H a=some (.cT o (.lst xs)))(n:∀o u,X.H₀ a≠some (.cT o u)):Inv X aU σ (upd H a (.lst xs)) s:=by
 have ne:∀b u,H b=some u->(∀o u',u≠.cT o u')->b≠a:=λb u q hn z=>by
  rw[z,e]at q;exact hn _ _ (dq q).symm
 have nn:∀b,H b=none->b≠a:=λb q z=>by rw[z,e]at q;cases q
 refine⟨I.ok,I.os,I.bare,⟨I.base.keep,I.base.slot,λb ob q hb hx=>?_,I.base.there,λb xs q=>?_,λb ob u q=>?_,λb ps q=>?_⟩,I.loc,I.cell,?_,λx c q=>?_,λp hp=>?_,λb u q=>?_,I.len⟩
 ·have h:=I.base.free b ob q hb hx;rw[bR (nn b h)];exact h
 ·have h:=I.base.pF b xs q;rw[bR (ne b _ h λ_ _ z=>nomatch z)];exact h
 ·have h:=I.base.mv b ob u q;have hb:b≠a:=λz=>n ob u (z▸q);rw[bR hb];exact h
 ·obtain⟨ia,h⟩:=I.base.pG b ps q;exact⟨ia,by rw[bR (ne b _ h λ_ _ z=>nomatch z)];exact h⟩
 ·rw[bR (nn _ I.free)];exact I.free
 ·rw[bR (nn _ (I.mx x c q))];exact I.mx x c q
 ·obtain⟨h1,h2,h3⟩:=I.pin p hp;exact⟨h1,by rw[bR (nn _ h2)];exact h2,h3⟩
 ·by_cases hb:b=a
  ·subst hb;rw[bb]at q;cases q
   have:=(I.cq b _ e).2
   exact this
  ·rw[bR hb]at q;refine(I.cq b u q).qI (λ_ _ _ r=>r) (λc r=>?_) λc xs r=>?_
   ·rw[bR (ne c _ r λ_ _ z=>nomatch z)];exact r
   ·rw[bR (ne c _ r λ_ _ z=>nomatch z)];exact r
def afH(te:TE):TE:=λσ H Q=>∃a xs,H a=some (.lst xs)/\∀o,te σ (upd H a (.cT o (.lst xs))) λv H'=>H' a=some (.cT o (.lst xs))/\Q v (upd H' a (.lst xs))
theorem afI{e:Expr}{te:TE}(h:PE X e te):PE X e (afH te):=by
 intro aU s σ H Q I q;obtain⟨a,xs,e',q⟩:=q;have n:∀o u,X.H₀ a≠some (.cT o u):=λo u z=>by
  have:=I.base.mv a o u z
  rw[e']at this;cases this
 obtain⟨o,_,I2⟩:=I.afF e';refine ah (h aU s σ _ _ I2 (q o)) (λv s' q=>?_) λ_ _ x=>x;obtain⟨x,H',I',r,g,q⟩:=q;exact⟨x,_,I'.afG g n,r,q⟩
end
end L2
namespace S21
open PySem L2 Bw
variable{D:Ends}{H:Hp}{Q:VK}{a b f fD:Addr}{ab m n:Nat}{c:Bool}{d:Drw}{fd iI:FuncData}{i j p:Int}{kvs:List (Key×V)}{ps:List Str}{ta tb te:TE}{x:Str}{xs ys:List V}{σ:St}
def VI(p:Int)(kvs:List (Key×V))(s:Nat):Prop:=∃c:Int,da kvs (Sum.inl (s:Int))=some (.int c)/\0<=c/\c<p
theorem VI.put{c:Int}{s s':Nat}(h0:0<=c)(h1:c<p)(h:VI p kvs s\/s=s'):VI p (eS kvs (Sum.inl (s':Int)) (.int c)) s:=by
 unfold VI;rw[Bb];by_cases e:s=s'
 ·rw[af (me.mpr e)];exact⟨c,rf,h0,h1⟩
 ·rw[ag λz=>e (me.mp z)];exact h.resolve_right e
theorem WM(kvs:List (Key×V))(k:Key)(v:V):(eS kvs k v).length<=kvs.length+1:=by
 unfold eS;split
 ·rw[bu];lia
 ·rw[cm];exact cn _
theorem afJ{R:dO}{i:Nat}{k:Key}(h:kvs[i]?=some (k,.ref a)):kvs≠R.map rK:=λe=>by
 rw[e,dG]at h;cases e2:R[i]? with
 |none=>rw[e2]at h;cases h
 |some t=>rw[e2]at h;cases h
theorem WN{i:Nat}{la vd:Addr}{L:List Nat}(hi:σ[i]?=some (some (.ref la)))(h6:(σ[6]?).join=some (.ref vd))(g:H la=some (.lst (cx L)))(gv:H vd=some (.dK kvs))(hl:L.length<=900)(hv:∀s∈L,VI p kvs s)
  (q:∀t r H',aW H H'->bq K H' t (r.map V.int)->Rw p L.length r->Q (.ref t) H') :
  pP (λxs H Q=>∃p ys,xs=[.ref p]/\((dQ K H p ys/\∀l,H l=none->Q (.ref l) (upd H l (.tup ys)))\/(bq K H p ys/\Q (.ref p) H))) (bz (DM (An K (bg i)) 1 [6] (cG 0) uO (Js (bg 1) (bg 0))) cy) σ H Q:=by
 have zz:=i5;have eL:(cx L).length=L.length:=bu _;refine⟨_,hi,la,rf,⟨_,.of g⟩,?_⟩;have hb:uM 1 [6] σ=List.replicate 1 none++[some (.ref vd)]:=by unfold uM;rw[gN,h6];rfl
 rw[hb];refine uS (cp:=[some (.ref vd)]) (λi H' zs=>∃r:List Int,zs=r.map V.int/\Rw p i r) (.of g) (by lia) ⟨[],rf,rf,λx hx=>by cases hx⟩ (λi H' zs ⟨r,e,h⟩=>by rw[e,bu,h.1];exact cn _) ?_ ?_
 ·rintro j x H' zs hx sm ⟨r,rfl,hr⟩;obtain⟨sp,iW,rfl⟩:=Lk hx;obtain⟨c,e,c0,c1⟩:=hv sp (dP iW);refine l4 ⟨_,rf,_,rf,vd,.int c,rf,by have:=eI.k (k:=Sum.inl (sp:Int)) (sm _ _ gv);rw[e]at this;exact this,⟨[_],rf,rf⟩,sm,r++[c],by rw[du];rfl,by rw[cm,hr.1];rfl,λx hx=>?_⟩;rcases(cN.mp hx)with(z|z)
  ·exact hr.2 x z
  ·rw[cA.mp z];exact⟨c0,c1⟩
 ·rintro H' zs sm ⟨r,rfl,hr⟩ lz i7;rw[eL]at hr;refine⟨lz,_,rf,.inl ⟨.of bb,λt ht=>q t r _ (sm.trans ((aW.upd i7).trans (.upd ht))) (.of bb) hr⟩⟩
def WO(K:Frag):Sp:=λvs H Q _=>∃(p:Int)(sy ha:Addr)(d:Drw)(n:Nat),vs=[.int p,.ref sy,.ref ha]/\p∈ig/\d.wf p/\d.aX.length<=98/\rB (S21.del ha H) sy p d/\Hand H ha n/\n<=400000/\
 ∀t ra na r m H' n',cw ha H H'->Hand H' ha n'->n'<=n+400->bq K H' t [.ref ra,.ref na]->bq K H' ra (r.map V.int)->Rw p (d.bh+d.bf) r->bq K H' na (m.map V.int)->Rw p (aT d 0).1.cg.length m->Q (.ref t) H'
theorem afK:(["one","done","spot","values"]:List Str).Nodup:=by decide +kernel
theorem WQ:(["spot","values"]:List Str).Nodup:=by decide +kernel
noncomputable abbrev Gr:List Str:=["p","system","hand","outer","hidden","done","values","spot","total","row"]
theorem ud:dy Gr ["p","system","hand"] (cu yX):=dI rfl rfl rfl (by decide +kernel) rfl
theorem afL(F:cJ K "_law_solution" "_law_solution" yX f fd)(T:Txt mg)
  (GD:cc P w K mg base cb 1 fD iI ["hand","limit"] nE) (kD:Kp K fD) (bD:Binds K iI ["hand","limit"] []) (mD:Mg mg "_law_draw" fD):cc P w K mg base cb 2 f fd ["p","system","hand"] (WO K):=by
 refine F.ok ud (λvs H Q E h=>?_) (λcz A outer s H vs Q E hr h=>?_)
 ·obtain⟨p,sy,ha,d,n,rfl,_⟩:=h;rfl
 ·obtain⟨p,sy,ha,d,n,rfl,pp,hd,hw,hS,hH,hn,q⟩:=h;obtain⟨p2,dX⟩:=jf p pp;have p0:0<p:=by lia
  have zz:=i5;have hu:=oS hr;refine⟨_,bo (my (nT (DY K rf) (pv 1) (lT ba) mQ) (Jb (n:=3) rf (eZ (cH (i:=3) ud.nd rf (.inl rf)) (eZ (cH (i:=4) ud.nd rf (.inl rf)) (eZ (cH (i:=5) ud.nd rf (Or.inr rf)) ko))))) (bo (cv (i:=6) ud.nd rf (Or.inr rf) Be) (bo (jd jw rf (jo K rf (bQ mR (pv 3) (pv 4))) (cH (i:=7) ud.nd rf (Or.inr rf)) (bY (dj (wc (abQ hu (pv 7) (pv 5))) (bY (pV hu (pv 6) (pv 7) (cK GD hr rf mD kD bD .nil cL (aV (pv 2) (aV (pv 0) aZ))) rf)) dz))) (bo (jd jw rf (jo K rf (bQ mR (pv 3) (pv 4))) (cH (i:=7) ud.nd rf (Or.inr rf)) (bY (dj (wc (Jt hu (pv 7) (pv 5))) (bo (cv (i:=8) ud.nd rf (.inl rf) (eX (AR K rf rf) rf T.sum AY (aV (zj (je (N:=["one","done","spot","values"]) (own:=1) (caps:=[5,7,6]) rf (tL (gJ hu (pv 5) (pv 7))) (show e8 Gr (cu yX) ["one","done","spot","values"] 1 [5,7,6] _ from .mk' (by decide +kernel)) (λ_ _ _ _ _=>cH (i:=0) afK rf (.inl rf)) (λ_ _ _ _ _=>sJ (cS nP (pv 0) (pv 2) (cM _))) (λ_ _ _ _ _=>bQ lQ (gJ hu (gJ hu (pv 1) (pv 2)) (pv 0)) (gJ hu (pv 3) (pv 0))))) aZ))) (bY (pV hu (pv 6) (pv 7) (bQ j5 (nN nO (pv 8)) (pv 0)) rf))) dz))) (bo (cv (i:=9) ud.nd rf (.inl rf) (e9 (nc K rf) rf T.tuple j7 (aV (je (N:=["spot","values"]) (own:=1) (caps:=[6]) rf (jo K rf (pv 3)) (show e8 Gr (cu yX) ["spot","values"] 1 [6] _ from .mk' (by decide +kernel)) (λ_ _ _ _ _=>cH (i:=0) WQ rf (.inl rf)) (λ_ _ _ _ _=>jz) (λ_ _ _ _ _=>gJ hu (pv 1) (pv 0))) aZ))) (bY (cC (cU (aV (pv 9) (aV (e9 (nc K rf) rf T.tuple j7 (aV (je (N:=["spot","values"]) (own:=1) (caps:=[6]) rf (jo K rf (pv 4)) (show e8 Gr (cu yX) ["spot","values"] 1 [6] _ from .mk' (by decide +kernel)) (λ_ _ _ _ _=>cH (i:=0) WQ rf (.inl rf)) (λ_ _ _ _ _=>jz) (λ_ _ _ _ _=>gJ hu (pv 1) (pv 0))) aZ)) aZ))))))))),?_⟩
  obtain⟨ol,hl,dn,kvs,aY,D,g1,g2,g3,g4,rC,hE⟩:=hS;have nd:Ua D:=λi j t u hi hj e=>TH hE hi hj e;have hsu:=λ(t:Nat×Fn)(ht:t∈D) hO=>@aeD p d hd aY D hE t ht hO;have Mk:=hE.dr;obtain⟨f1,_,_⟩:=rA (N:=0) hd;obtain⟨l1,l2⟩:=jD (N:=0) hd;have WA:=ox (N:=0) hd;have hOl:((aT d 0).1.l++(aT d 0).1.r).length=d.bh+d.bf:=by rw[cm,l1,l2]
  have WR:((aT d 0).1.l++(aT d 0).1.r++(aT d 0).1.cg).length<=400:=by rw[cm,cm];lia
  clear hE WA;generalize (aT d 0).1.l++(aT d 0).1.r=O at *;generalize (aT d 0).1.cg=Hd at *;generalize zO:O++Hd=L at *;have lO:O.length<=400:=by rw[<- zO,cm]at WR;lia
  have lHd:Hd.length<=400:=by rw[<- zO,cm]at WR;lia
  have eL:(cx L).length=L.length:=bu _;have up:∀{H':Hp},cw ha H H'->∀{b:Addr}{o:HO},S21.del ha H b=some o->H' b=some o:=λs b o e=>s b o (lg e).2 (lg e).1;have Gs:∀{H':Hp},cw ha H H'->jS H' kvs D:=λs=>⟨rC.1,λi kv t e1 e2=>let ⟨a,e,R,g,r⟩:=rC.2 i kv t e1 e2;⟨a,e,R,up s g,r⟩⟩;refine⟨_,rf,1,rf,sy,_,rf,.of (lg g1).2,λls Fe=>?_⟩;rw[show iR [.int (d.bh:Int),.ref ol,.ref hl,.ref dn] (some 1) none=[.ref ol,.ref hl,.ref dn] from rfl]
  refine⟨ls,_,rf,.of bb,rf,_,_,rf,_,_,rf,_,_,rf,rf,?_⟩;intro vd Gm;have s1:=aW.upd (o:=.lst [.ref ol,.ref hl,.ref dn]) Fe;have s2:=s1.trans (aW.upd (o:=.dK []) Gm);have Gu:H vd=none:=i6 s1 Gm;have WS:vd≠ha:=xC hH Gu;have gv:(upd (upd H ls (.lst [.ref ol,.ref hl,.ref dn])) vd (.dK [])) vd=some (.dK []):=bb;have Ng:=hH.mono s2;generalize upd (upd H ls (.lst [.ref ol,.ref hl,.ref dn])) vd (.dK [])=Ha at s2 gv Ng |-;have wM:cw ha H Ha:=aW.de s2;have wr:∀{H':Hp}{o:HO},cw ha H H'->cw ha H (upd H' vd o):=λs b u e nb=>by rw[bR (fj e Gu)];exact s b u e nb
  have WT:∀{H':Hp}{o:HO}{k:Nat},Hand H' ha k->Hand (upd H' vd o) ha k:=λh=>let ⟨x0,x1,x2,e,r⟩:=h;⟨x0,x1,x2,by rw[bR WS.symm];exact e,r⟩;refine⟨_,rf,_,rf,ol,hl,_,_,rf,rf,up wM g2,up wM g3,by rw[kj,kj];lia,λlo uH=>?_⟩;rw[ua,zO];have nlh:lo≠ha:=xC Ng uH;have WU:lo≠vd:=λz=>by rw[z,gv]at uH;cases uH
  refine⟨lo,rf,⟨_,.of bb⟩,so (xs:=cx L) (λi σ H'=>∃s7 s8 n' kv,σ=[some (.int p),some (.ref sy),some (.ref ha),some (.ref ol),some (.ref hl),some (.ref dn),some (.ref vd),s7,s8,none]/\cw ha H H'/\Hand H' ha n'/\n'<=n+i/\H' vd=some (.dK kv)/\kv.length<=i/\(∀s∈L.take i,o8 D s=none->VI p kv s)/\H' lo=some (.lst (cx L))) ⟨none,none,n,[],rf,cw.trans wM (aW.de (aW.upd uH)),Ng.mono (aW.upd uH),cn _,by rw[bR WU.symm];exact gv,cn _,λs hs=>(by cases hs),bb⟩ (λi σ H' _ ⟨_,_,_,_,_,_,_,_,_,_,_,g⟩=>.of g) ?_ ?_⟩
  ·rintro i x σ H1 hx ⟨s7,s8,n',kv,rfl,sm,rL,v8,gk,lk,hV,WV⟩;obtain⟨sp,iW,rfl⟩:=Lk hx;have il:i<L.length:=(dC.mp iW).1;have et:∀Pq:Nat->Prop,(∀s∈L.take i,Pq s)->Pq sp->∀s∈L.take (i+1),Pq s:=λPq h1 h2 s hs=>by
    rw[gO,iW]at hs;rcases(cN.mp hs)with(z|z)
    ·exact h1 s z
    ·rw[cA.mp z];exact h2
   refine⟨_,rf,_,rf,dn,_,rf,eI.k (k:=Sum.inl (sp:Int)) (up sm g4),_,rf,?_⟩;cases e:o8 D sp with
   |some g=>
    obtain⟨a,hv,_⟩:=adA (Gs sm) nd e;rw[hv];exact dB ⟨_,_,n',kv,rf,sm,rL,by lia,gk,by lia,et _ hV (λz=>by rw[e]at z;cases z),WV⟩
   |none=>
    rw[Ub (Gs sm) e];refine eC ?_;refine pq (i:=2) (t:=bg 0) rf (λR h=>⟨_,rf,h⟩) rL (by lia) (by lia) (by lia) λc H2 c0 c1 s2 g2=>?_;have gk2:=s2 _ _ gk WS;refine⟨_,rf,_,rf,vd,_,rf,l6.k (k:=Sum.inl (sp:Int)) gk2 (by lia),?_⟩;refine⟨_,_,n'+1,_,rf,wr (cw.trans sm s2),WT g2,by lia,bb,by have:=WM kv (Sum.inl (sp:Int)) (.int c);lia,et _ (λs hs hz=>(VI.put c0 c1 (.inl (hV s hs hz)))) (λ_=>VI.put c0 c1 (.inr rfl)),by rw[bR WU];exact s2 _ _ WV nlh⟩
  ·rintro σ H1 ⟨s7,s8,n',kv,rfl,sm,rL,v8,gk,lk,hV,_⟩;rw[eL]at v8 lk hV;rw[iU]at hV;refine⟨_,rf,_,rf,ol,hl,_,_,rf,rf,up sm g2,up sm g3,by rw[kj,kj];lia,λlq tV=>?_⟩;rw[ua,zO];have nqh:lq≠ha:=xC rL tV;have WW:lq≠vd:=λz=>by rw[z,gk]at tV;cases tV
   refine⟨lq,rf,⟨_,.of bb⟩,so (xs:=cx L) (λi σ H'=>∃s7 s8 kv,σ=[some (.int p),some (.ref sy),some (.ref ha),some (.ref ol),some (.ref hl),some (.ref dn),some (.ref vd),s7,s8,none]/\cw ha H H'/\Hand H' ha n'/\H' vd=some (.dK kv)/\kv.length<=400+i/\(∀s∈L,o8 D s=none->VI p kv s)/\(∀s∈L.take i,VI p kv s)/\H' lq=some (.lst (cx L))) ⟨_,_,kv,rf,cw.trans sm (aW.de (aW.upd tV)),rL.mono (aW.upd tV),by rw[bR WW.symm];exact gk,by lia,hV,λs hs=>(by cases hs),bb⟩ (λi σ H' _ ⟨_,_,_,_,_,_,_,_,_,_,g⟩=>.of g) ?_ ?_⟩
   ·rintro i x σ H2 hx ⟨Cv,zt,kv,rfl,sm,rL,gk,lk,hV,hW,WX⟩;obtain⟨sp,iW,rfl⟩:=Lk hx;have il:i<L.length:=(dC.mp iW).1;have yI:sp∈L:=dP iW;have et:∀Pq:Nat->Prop,(∀s∈L.take i,Pq s)->Pq sp->∀s∈L.take (i+1),Pq s:=λPq h1 h2 s hs=>by
     rw[gO,iW]at hs;rcases(cN.mp hs)with(z|z)
     ·exact h1 s z
     ·rw[cA.mp z];exact h2
    have gd:=up sm g4;refine⟨_,rf,_,rf,dn,_,rf,eI.k (k:=Sum.inl (sp:Int)) gd,_,rf,?_⟩;cases e:o8 D sp with
    |none=>
     rw[Ub (Gs sm) e];exact dB ⟨_,_,kv,rf,sm,rL,gk,by lia,hV,et _ hW (hV sp yI e),WX⟩
    |some g=>
     obtain⟨t,ht,Gw,et2⟩:=KS e;obtain⟨j,hj⟩:=nK.mp ht;obtain⟨ga,tO,hv,R,gR,hR,lR⟩:=(Gs sm).val nd hj;rw[Gw]at hv tO;have nga:dn≠ga:=λz=>by
      rw[<- z,gd]at gR;exact afJ tO (HO.dK.inj (dq gR))
     have ngv:vd≠ga:=λz=>by
      obtain⟨a0,sO,_,R0,WY,_⟩:=rC.val nd hj;rw[Gw,tO]at sO;cases sO;rw[<- z]at WY;rw[(lg WY).2]at Gu;cases Gu
     have dg:∀{G:Hp},G dn=some (.dK kvs)->eI G dn (kV (Sum.inl (sp:Int))) (some (.ref ga)):=λhg=>by have:=eI.k (k:=Sum.inl (sp:Int)) hg;rw[hv]at this;exact this
     rw[hv];refine eC ⟨ga,R.map rK,gR,_,rf,_,rf,dn,.ref ga,rf,dg gd,ga,_,rf,gR,λo=>?_⟩;have q1:(upd H2 ga (.cT o (.dK (R.map rK)))) ga=some (.cT o (.dK (R.map rK))):=bb;have q2:(upd H2 ga (.cT o (.dK (R.map rK)))) dn=some (.dK kvs):=by rw[bR nga];exact gd
     have q3:(upd H2 ga (.cT o (.dK (R.map rK)))) vd=some (.dK kv):=by rw[bR ngv];exact gk
     refine zk (cp:=[some (.ref dn),some (.int (sp:Int)),some (.ref vd)]) (λi H' zs=>∃ns:List Int,zs=ns.map V.int/\ns.length<=i) q1 (by rw[bu];lia) ⟨[],rfl,cn _⟩ (λi H' zs ⟨ns,e,h⟩=>by rw[e,bu];exact h) ?_ ?_
     ·rintro k Td H3 zs hk gZ ⟨ns,rfl,uI⟩;rw[dG]at hk;cases eu:R[k]? with
      |none=>rw[eu]at hk;cases hk
      |some u=>
       rw[eu]at hk;cases hk;have zJ:=dP eu;refine⟨_,rf,_,rf,rf,_,rf,?_⟩;rw[show kV (rK u).1=V.int (u.1:Int) from rfl]
       by_cases es:u.1=sp
       ·rw[show(!decide (V.int (u.1:Int)=V.int (sp:Int)))=false by rw[es,aD rfl];rfl];exact dB ⟨⟨[_],rf,rf⟩,gZ,ns,rf,by lia⟩
       ·rw[show(!decide (V.int (u.1:Int)=V.int (sp:Int)))=true by rw[ae λz=>es (by have:=V.int.inj z;lia)];rfl];have hz:t.2 u.1≠0:=by rw[hR.mem zJ];exact hR.nz u zJ
        obtain⟨_,a2,a3,_⟩:=hsu t ht (by rw[Gw];exact yI) hz (by rw[Gw];exact es);obtain⟨c,ec,c0,c1⟩:=hV u.1 a3 a2;have hb:=Mk t ht u.1;rw[hR.mem zJ]at hb;refine eC ⟨_,rf,_,rf,dn,.ref ga,rf,dg (gZ _ _ q2),_,rf,ga,.int u.2,rf,by have:=rh (k:=Sum.inl (u.1:Int)) (gZ _ _ q1);rw[p9 hR.nd zJ]at this;exact this,_,rf,_,rf,vd,.int c,rf,by have:=eI.k (k:=Sum.inl (u.1:Int)) (gZ _ _ q3);rw[ec]at this;exact this,_,_,rf,rf,.inl ⟨by lia,by lia⟩,⟨[_],rf,rf⟩,gZ,ns++[u.2*c],by rw[du];rfl,by rw[cm];exact Nat.add_le_add_right uI 1⟩
     ·rintro H3 zs gZ ⟨ns,rfl,uI⟩ lz i7;have s3:=gZ.trans (aW.upd (o:=.lst (ns.map V.int)) i7);have s4:=vj gR s3;have ne:lz≠ga:=λe=>by rw[e,gZ _ _ q1]at i7;cases i7
      refine⟨⟨o,s3 _ _ q1⟩,lz,ns,rf,.of (by rw[bR ne];exact bb),?_⟩;generalize upd (upd H3 lz (.lst (ns.map V.int))) ga (.dK (R.map rK))=H4 at s4 |-;refine⟨_,rf,_,rf,_,rf,_,_,rf,rf,(by show(0:Int)<p;lia),_,rfl,_,rfl,vd,_,rfl,l6.k (k:=Sum.inl (sp:Int)) (s4 _ _ gk) (by lia),?_⟩;have c0:0<=(-ns.sum)%p:=qB _ (by lia);have c1:(-ns.sum)%p<p:=qC _ p0;exact⟨_,_,_,rf,wr (cw.trans sm (aW.de s4)),WT (rL.mono s4),bb,by have:=WM kv (Sum.inl (sp:Int)) (.int ((-ns.sum)%p));lia,λs hs hz=>VI.put c0 c1 (.inl (hV s hs hz)),et _ (λs hs=>VI.put c0 c1 (.inl (hW s hs))) (VI.put c0 c1 (.inr rfl)),by rw[bR WW];exact s4 _ _ WX⟩
   ·rintro σ H2 ⟨Cv,zt,kv,rfl,sm,rL,gk,lk,_,hW,_⟩;rw[eL,iU]at hW;dsimp only;refine fu ?_;refine WN (p:=p) (L:=O) rf rf (up sm g2) gk (by lia) (λs hs=>hW s (by rw[<- zO];exact eV _ hs)) λra r H3 s3 i0 hr=>?_;refine qo ?_;refine⟨_,rf,?_⟩;refine Uh ?_;refine WN (p:=p) (L:=Hd) rf rf (s3 _ _ (up sm g3)) (s3 _ _ gk) (by lia) (λs hs=>hW s (by rw[<- zO];exact dZ _ hs)) λna m H4 s4 jj hm=>?_;refine⟨by show 2<=sizeLine;lia,λt ht=>?_⟩;have s5:=aW.upd (o:=.tup [.ref ra,.ref na]) ht;have s6:=s3.trans (s4.trans s5);exact q t ra na r m _ n' (cw.trans sm (aW.de s6)) (rL.mono s6) (by lia) (.of bb) ((s4.trans s5).bc i0) (by rw[<- hOl];exact hr) (s5.bc jj) hm
theorem WZ(F:cJ K "_law_box" "_law_box" JS f fd)(T:Txt mg)
  (GD:cc P w K mg base cb 1 fD iI ["hand","limit"] nE) (kD:Kp K fD) (bD:Binds K iI ["hand","limit"] []) (mD:Mg mg "_law_draw" fD):cc P w K mg base cb 2 f fd ["hand","p"] (zL K):=by
 refine F.ok tZ (λvs H Q E h=>?_) (λcz A outer s H vs Q E hr h=>?_)
 ·obtain⟨a,n,p,rfl,_⟩:=h;rfl
 ·obtain⟨a,n,p,rfl,hH,hn,p2,dX,q⟩:=h;have hu:=oS hr;refine⟨FZ K,?_,?_⟩
  ·unfold FZ;refine bo ?_ ?_
   ·refine cv (i:=2) (te:=MS xD) ?_ ?_ ?_ ?_ ?_ ?_
    ·exact tZ.nd
    ·rfl
    ·exact Or.inl rf
    ·refine ae5 (xs:=xD) ?_
     kernel_rfl
    ·rfl
    ·exact .inl rf
   refine bo ?_ ?_
   ·exact cv (i:=3) tZ.nd rf (.inl rf) (br (eY K rf) (pv 2) (cK GD hr rf mD kD bD .nil cL (aV (pv 0) (aV ba aZ))))
   refine bo ?_ ?_
   ·exact cv (i:=4) tZ.nd rf (.inl rf) (e9 Dt rf T.int wD (aV (qN eB (pv 3) dh (cM _)) aZ))
   refine bo ?_ ?_
   ·refine cv (i:=5) (te:=pW (pk iA)) ?_ ?_ ?_ ?_ ?_ ?_
    ·exact tZ.nd
    ·rfl
    ·exact Or.inl rf
    ·refine VY (L:=iA) ?_ ?_ ?_
     ·kernel_rfl
     ·exact V6
     ·exact FY
    ·rfl
    ·exact .inl rf
   refine bo ?_ ?_
   ·refine my (te:=Cm) ?_ ?_ ?_
    ·unfold Cm;refine yS hu (pv 5) (pv 3) ?_ ?_
     ·refine cU ?_;refine aV (pv 4) ?_ ?_
      ·refine aV ?_ aZ ?_
       ·refine bQ eM (pv 4) ?_;refine bQ lQ ba ?_;exact e9 Dt rf T.int wD (aV (qN eB (pv 3) dh (cM _)) aZ)
       ·rfl
      ·rfl
     ·exact⟨rf,rf,rf,rf⟩
    ·exact nZ (n:=2) K rf rf (eZ (cH (i:=6) tZ.nd rf (.inl rf)) (eZ (cH (i:=7) tZ.nd rf (.inl rf)) ko))
    ·rfl
   refine bo ?_ ?_
   ·exact cv (i:=8) tZ.nd rf (.inl rf) (cU (aV (pv 3) aZ))
   refine bo ?_ ?_
   ·refine dj ?_ ?_ dz
    ·exact cS eB (pv 3) dh (cM _)
    ·refine bY ?_;exact cv (i:=8) tZ.nd rf (.inl rf) (cU (aV (pv 3) (aV (cK GD hr rf mD kD bD .nil cL (aV (pv 0) (aV (pv 1) aZ))) aZ)))
   refine bo ?_ ?_
   ·refine dj ?_ ?_ dz
    ·exact cS eB (cK GD hr rf mD kD bD .nil cL (aV (pv 0) (aV ba aZ))) ba (cM _)
    ·refine bY ?_;refine cC (te:=fo (bz (g8 K (fo (bz (tC (.str "back")) cy)) (bg 8)) (bz (bg 7) (bz (bg 6) cy)))) ?_;refine cU ?_;refine aV ?_ ?_ ?_
     ·exact bQ (eN K rf) (cU (aV dh aZ)) (pv 8)
     ·exact aV (pv 7) (aV (pv 6) aZ)
     ·rfl
   refine bY ?_;exact cC (te:=fo (bz (bg 8) (bz (bg 6) (bz (bg 7) cy)))) (cU (aV (pv 8) (aV (pv 6) (aV (pv 7) aZ))))
  ·exact afc hH hn p2 dX q
noncomputable def W0:Drw:=.box "id" 1 1 [[1,1]]
noncomputable def jH:Nat->Drw
 |0=>.box "empty" 0 0 []
 |1=>W0
 |n+2=>.cD W0 (jH (n+1))
theorem W2:(("id":Str),1,1,[[1,1]])∈ip:=by decide +kernel
theorem afM:(("empty":Str),0,0,([]:LL))∈ip:=by decide +kernel
theorem Cw{p:Int}:∀n,(jH n).wf p
 |0=>afM
 |1=>W2
 |n+2=>⟨W2,Cw (n+1)⟩
theorem W3:∀n,(jH n).dN=(n,n)
 |0=>rfl
 |1=>rfl
 |n+2=>by
  show(1+(jH (n+1)).dN.1,1+(jH (n+1)).dN.2)=_;rw[W3 (n+1)];show(1+(n+1),1+(n+1))=_;rw[Nat.add_comm 1]
theorem W4:∀n,(jH (n+1)).aX=(List.replicate n [V.str "beside",V.str "id"]).flatten++[V.str "id"]
 |0=>rfl
 |n+1=>by
  show V.str "beside"::([V.str "id"]++(jH (n+1)).aX)=_;rw[W4 n];rfl
theorem Cy:∀n,(jH n).aX.length<=2*n+1
 |0=>cn _
 |1=>by show 1<=3;decide
 |n+2=>by
  have:=Cy (n+1)
  show(V.str "beside"::([V.str "id"]++(jH (n+1)).aX)).length<=_;simp only[dW,cm,List.length_nil];lia
def Cz(K:Frag):Sp:=λvs H Q _=>∃m:Nat,vs=[.int (m:Int)]/\m<=200/\∀v H',aW H H'->bq K H' v (jH m).aX->Q (.ref v) H'
theorem afN:dy ["many"] ["many"] (cu JT):=dI rfl rfl rfl (by decide +kernel) rfl
def Gx(K:Frag):TS:=cF (eA (gH (cO j6 (bg 0) (tC (.int 0)))) (fQ (fo (bz (tC (.str "empty")) cy))) gG)
 (fQ (g8 K (cO (DW K) (fo (bz (tC (.str "beside")) (bz (tC (.str "id")) cy))) (cO (jx λi j=>.int (i-j)) (bg 0) (tC (.int 1)))) (fo (bz (tC (.str "id")) cy))))
theorem afO(hm:m<=200)(q:∀v H',aW H H'->bq K H' v (jH m).aX->D.rt (.ref v) H'):Gx K D [some (.int (m:Int))] H:=by
 have MD:=Es;unfold Gx;refine lH ⟨_,rf,rf,_,rf,?_⟩;cases m with
 |zero=>
  rw[aD (show V.int ((0:Nat):Int)=V.int 0 from rfl)]
  refine eC ⟨by show 1<=sizeLine;decide,λv hv=>q v _ (.upd hv) (.of bb)⟩
 |succ k=>
  rw[ae λz=>by have:=V.int.inj z;lia];refine dB ⟨by show 2<=sizeLine;decide,λa ha=>⟨_,rfl,_,_,rfl,rfl,a,((k:Nat):Int),_,rfl,(show V.int (((k+1:Nat):Int)-1)=V.int (k:Int) from aj V.int (by lia)),.of bb,by simp,by lia,by lia,by show 2*(k:Int).toNat<=sizeLine;lia,λb H1 s1 hb=>?_⟩⟩
  refine⟨by show 1<=sizeLine;decide,λc hc=>?_⟩;have sc:=aW.upd (o:=.tup [.str "id"]) hc;refine⟨b,c,_,_,rf,rf,sc.bc hb,.of bb,?_,λe H2 s2 he=>q e H2 ((aW.upd ha).trans (s1.trans (sc.trans s2))) ?_⟩
  ·have:((List.replicate (k:Int).toNat [V.str "beside",V.str "id"]).flatten).length=2*k:=by
    rw[List.length_flatten,List.map_replicate,List.sum_replicate_nat];simp;lia
   rw[this];show 2*k+1<=sizeLine;lia
  ·rw[W4];rw[show(k:Int).toNat=k by lia]at he;exact he
theorem afP(F:cJ K "_law_ids" "_law_ids" JT f fd):cc P w K mg base cb 1 f fd ["many"] (Cz K):=by
 refine F.ok afN (λvs H Q E h=>?_) (λcz A outer s H vs Q E hr h=>?_)
 ·obtain⟨m,rfl,_⟩:=h;rfl
 ·obtain⟨m,rfl,hm,q⟩:=h;refine⟨Gx K,?_,?_⟩
  ·unfold Gx;refine bo ?_ ?_
   ·exact dj (cS eB (pv 0) ba (cM _)) (bY (cC (cU (aV dh aZ)))) dz
   ·refine bY ?_;refine cC (te:=g8 K (cO (DW K) (fo (bz (tC (.str "beside")) (bz (tC (.str "id")) cy))) (cO (jx λi j=>.int (i-j)) (bg 0) (tC (.int 1)))) (fo (bz (tC (.str "id")) cy))) ?_;refine bQ (eN K rf) ?_ ?_
    ·exact bQ (QK K rf) (cU (aV dh (aV dh aZ))) (bQ sr (pv 0) ba)
    ·exact cU (aV dh aZ)
  ·exact afO hm q
def qp(K:Frag)(te:TE)(σ:St)(H:Hp)(xs:List V):Prop:=∀H',aW H H'->∀R:VK,(∀v jE,aW H' jE->bq K jE v xs->R (.ref v) jE)->te σ H' R
abbrev qq(x:Str):TE:=fo (bz (tC (.str x)) cy)
abbrev Nh(x y:Str):TE:=fo (bz (tC (.str x)) (bz (tC (.str y)) cy))
abbrev Ni(ta tb:TE):TE:=cO (jx λi j=>.int (i-j)) ta tb
section
variable{K:Frag}{σ:St}{H:Hp}
theorem vK{i:Nat}(h:σ[i]?=some (some (.ref a)))(ha:bq K H a xs):qp K (bg i) σ H xs:=λ_ s _ q=>⟨_,h,q a _ (.refl _) (s.bc ha)⟩
theorem zP{i:Nat}{j:Nat}(h:σ[i]?=some (some (.ref a)))(ha:bq K H a ys)(hj:ys[j]?=some (.ref b))(hb:bq K H b xs):qp K (cO (sH K) (bg i) (tC (.int (j:Int)))) σ H xs:=
 λ_ s _ q=>⟨_,h,a,ys,(j:Int),_,rfl,rfl,s.bc ha,bX hj,q b _ (.refl _) (s.bc hb)⟩
theorem rM:qp K (qq x) σ H [.str x]:=λ_ _ _ q=>⟨by show 1<=sizeLine;decide,λv hv=>q v _ (.upd hv) (.of bb)⟩
theorem W5{y:Str}:qp K (Nh x y) σ H [.str x,.str y]:=λ_ _ _ q=>⟨by show 2<=sizeLine;decide,λv hv=>q v _ (.upd hv) (.of bb)⟩
theorem i9(h1:qp K ta σ H xs)(h2:qp K tb σ H ys)(hl:xs.length+ys.length<=10000):qp K (g8 K ta tb) σ H (xs++ys):=λH' s R q=>by
 have z:(10000:Nat)<=sizeLine:=by decide
 refine h1 H' s _ λa H1 s1 ha=>h2 H1 (s.trans s1) _ λb H2 s2 hb=>?_;exact⟨a,b,_,_,rf,rf,s2.bc ha,hb,by lia,λc H3 s3 hc=>q c H3 (s1.trans (s2.trans s3)) hc⟩
theorem W6(h:fe te σ H (m:Int))(hm:m<=200):qp K (jL (Cz K) [] E0 (bz te cy)) σ H (jH m).aX:=λH' s _ q=>h H' s _ ⟨m,rfl,hm,q⟩
theorem rN{tw tl tr:TE}(h1:qp K tw σ H d.aX)(h2:∀H',aW H H'->fe tl σ H' (d.bh:Int))(h3:∀H',aW H H'->fe tr σ H' (d.bf:Int))(q:∀v H',aW H H'->gh K H' v d->Q (.ref v) H'):fo (bz tw (bz tl (bz tr cy))) σ H Q:=by
 refine h1 H (.refl _) _ λa H1 s1 ha=>h2 H1 s1 H1 (.refl _) _ (h3 H1 s1 H1 (.refl _) _ ⟨by show 3<=sizeLine;decide,λv hv=>?_⟩);exact q v _ (s1.trans (.upd hv)) ⟨a,.of bb,(aW.upd hv).bc ha⟩
end
noncomputable def jk(d:Drw)(ab un:Nat):Drw:=
 let d1:=if 0<un then Drw.cD d (jH un)else d
 if 0<ab then .cD (jH ab) d1 else d1
theorem W7{un:Nat}(h:d.wf p):(jk d ab un).wf p:=by
 unfold jk;split<;>split
 ·exact⟨Cw _,h,Cw _⟩
 ·exact⟨h,Cw _⟩
 ·exact⟨Cw _,h⟩
 ·exact h
theorem CA{s:Int}:∀n,(jH n).mid s
 |0=>True.intro
 |1=>True.intro
 |n+2=>⟨True.intro,CA (n+1)⟩
theorem W8{s:Int}{un:Nat}(h:d.mid s):(jk d ab un).mid s:=by
 unfold jk;split<;>split
 ·exact⟨CA _,h,CA _⟩
 ·exact⟨h,CA _⟩
 ·exact⟨CA _,h⟩
 ·exact h
theorem Nj{un:Nat}:(jk d ab un).bh=ab+d.bh+un/\(jk d ab un).bf=d.bf+ab+un:=by
 unfold jk;split<;>split<;>simp only[Drw.bh,Drw.bf,Drw.dN,W3]<;>lia
theorem W9{un:Nat}:(jk d ab un).aX.length<=d.aX.length+2*ab+2*un+4:=by
 have h1:=Cy ab;have h2:=Cy un;unfold jk;split<;>split<;>simp only[Drw.aX,dW,cm]<;>lia
def Nk(K:Frag):Sp:=λvs H Q _=>∃(a b:Addr)(n:Nat)(d:Drw)(m:Nat),vs=[.ref a,.ref b,.int (m:Int)]/\Hand H a n/\n<=800/\gh K H b d/\d.bh<=m/\m<=90/\d.aX.length<=100/\
 ∀v ab un H',ab+d.bh+un=m->cw a H H'->Hand H' a (n+1)->gh K H' v (jk d ab un)->Q (.ref v) H'
theorem vL:dy ["hand","box","many","words","left","right","above","under"] ["hand","box","many"] (cu JU):=dI rfl rfl rfl (by decide +kernel) rfl
abbrev xI:R2:=jx λi j=>.bl (decide (j<i))
def Xa(K:Frag):TE:=g8 K (g8 K (qq "beside") (bg 3)) (jL (Cz K) [] E0 (bz (bg 7) cy))
def Nl(K:Frag):TE:=g8 K (g8 K (qq "beside") (jL (Cz K) [] E0 (bz (bg 6) cy))) (bg 3)
def Gy(K:Frag):TS:=cF (dM (bg 1) (si K 3 (jK (cG 3) (jK (cG 4) (jK (cG 5) uE)))))
 (cF (dM (tY 0 (kf (Ni (bg 2) (bg 4)) (tC (.int 1)))) (cG 6)) (cF (dM (Ni (Ni (bg 2) (bg 4)) (bg 6)) (cG 7)) (cF (eA (gH (cO xI (bg 7) (tC (.int 0)))) (dM (Xa K) (cG 3)) gG) (cF (eA (gH (cO xI (bg 6) (tC (.int 0)))) (dM (Nl K) (cG 3)) gG) (fQ (fo (bz (bg 3) (bz (bg 2) (bz (kf (kf (bg 5) (bg 6)) (bg 7)) cy)))))))))
theorem afQ(hH:Hand H a n)(hn:n<=800)(hd:gh K H b d)(hl:d.bh<=m)(hm:m<=90)(hw:d.aX.length<=100)
  (q:∀v ab un H',ab+d.bh+un=m->cw a H H'->Hand H' a (n+1)->gh K H' v (jk d ab un)->D.rt (.ref v) H'):Gy K D [some (.ref a),some (.ref b),some (.int (m:Int)),none,none,none,none,none] H:=by
 obtain⟨aw,h1,h2⟩:=hd;unfold Gy;refine FV ⟨_,rf,V4 h1 ?_⟩;refine fu ?_;refine pq (lim:=(m:Int)-(d.bh:Int)+1) rf (λR h=>ke (MX (eE rf) (eE rf)) jR H (.refl _) _ h) hH (by lia) (by lia) (by lia) λab H1 j0 j1 s1 g1=>?_;obtain⟨ab,rfl⟩:∃k:Nat,ab=(k:Int):=⟨ab.toNat,by lia⟩;obtain⟨un,hun⟩:∃un:Nat,(m:Int)-(d.bh:Int)-(ab:Int)=(un:Int):=⟨((m:Int)-(d.bh:Int)-(ab:Int)).toNat,by lia⟩;have e:ab+d.bh+un=m:=by lia
 refine fu ?_;refine MX (i:=(m:Int)-(d.bh:Int)) (j:=(ab:Int)) (MX (eE rf) (eE rf)) (eE rf) H1 (.refl _) _ ?_;rw[hun];have h2:=cw.bc s1 hH h2;have li:=Cy ab;have lu:=Cy un;have eW:∀(d1:Drw)(ws:Addr)(H2:Hp),d1=(if 0<un then Drw.cD d (jH un)else d)->d1.aX.length<=400->aW H1 H2->bq K H2 ws d1.aX->
   cF (eA (gH (cO xI (bg 6) (tC (.int 0)))) (dM (Nl K) (cG 3)) gG) (fQ (fo (bz (bg 3) (bz (bg 2) (bz (kf (kf (bg 5) (bg 6)) (bg 7)) cy))))) D
    [some (.ref a),some (.ref b),some (.int (m:Int)),some (.ref ws),some (.int (d.bh:Int)),some (.int (d.bf:Int)),some (.int (ab:Int)),some (.int (un:Int))] H2:=by
  intro d1 ws H2 Xb nq s2 xE;have ps:=Nj (d:=d) (ab:=ab) (un:=un);have fin:∀(Nm:Addr)(H3:Hp),aW H1 H3->bq K H3 Nm (jk d ab un).aX->fQ (fo (bz (bg 3) (bz (bg 2) (bz (kf (kf (bg 5) (bg 6)) (bg 7)) cy)))) D
    [some (.ref a),some (.ref b),some (.int (m:Int)),some (.ref Nm),some (.int (d.bh:Int)),some (.int (d.bf:Int)),some (.int (ab:Int)),some (.int (un:Int))] H3:=by
   intro Nm H3 s3 afR;refine qo ?_;refine rN (d:=jk d ab un) (vK rf afR) (λH' s'=>?_) (λH' s'=>?_) λv H4 s4 hv=>q v ab un H4 e (cw.trans s1 (aW.de (s3.trans s4))) (g1.mono (s3.trans s4)) hv
   ·rw[ps.1,e];exact eE rf
   ·rw[ps.2,show((d.bf+ab+un:Nat):Int)=(d.bf:Int)+(ab:Int)+(un:Int) by lia];exact ke (ke (eE rf) (eE rf)) (eE rf)
  refine lH ⟨_,rf,_,_,rf,rf,_,rf,?_⟩;by_cases c:0<ab
  ·rw[aD (show(0:Int)<(ab:Int) by lia)];refine eC ?_;refine i9 (K:=K) (i9 rM (W6 (m:=ab) (eE rf) (by lia)) ?_) (vK rf xE) ?_ H2 (.refl _) _ λv H3 s3 hv=>fin v H3 (s2.trans s3) ?_
   ·show 1+_<=10000;lia
   ·rw[cm];show 1+_+_<=10000;lia
   ·unfold jk;rw[af c,<- Xb];show bq K H3 v (.str "beside"::((jH ab).aX++d1.aX));rw[i4]at hv;exact hv
  ·rw[ae (show ¬(0:Int)<(ab:Int) by lia)];refine dB (fin ws H2 s2 ?_);unfold jk;rw[ag c,<- Xb];exact xE
 refine lH ⟨_,rf,_,_,rf,rf,_,rf,?_⟩;by_cases c:0<un
 ·rw[aD (show(0:Int)<(un:Int) by lia)];refine eC ?_;refine i9 (K:=K) (i9 rM (vK rf h2) ?_) (W6 (m:=un) (eE rf) (by lia)) ?_ H1 (.refl _) _ λv H3 s3 hv=>eW (.cD d (jH un)) v H3 (by rw[af c]) ?_ s3 ?_
  ·show 1+_<=10000;lia
  ·rw[cm];show 1+_+_<=10000;lia
  ·simp only[Drw.aX,dW,cm];lia
  ·show bq K H3 v (.str "beside"::(d.aX++(jH un).aX));rw[i4]at hv;exact hv
 ·rw[ae (show ¬(0:Int)<(un:Int) by lia)];exact dB (eW d aw H1 (by rw[ag c]) (by lia) (.refl _) h2)
def qt(tt:TT)(σ:St)(H:Hp)(c:Bool):Prop:=∀H',aW H H'->∀R:Bool->Hp->Prop,R c H'->tt σ H' R
abbrev Nn:R2:=jx λi j=>.bl (decide (i<=j))
abbrev Np:R2:=jx λi j=>.bl (decide (i<j))
abbrev Xc:R2:=rI (λ_ j=>0<j) λi j=>.int (i%j)
section
variable{K:Frag}{σ:St}{H:Hp}
theorem Nq(h1:fe ta σ H i)(h2:fe tb σ H j):qt (gH (cO xI ta tb)) σ H (decide (j<i)):=λH' s _ q=>h1 H' s _ (h2 H' s _ ⟨i,j,rfl,rfl,_,rfl,q⟩)
theorem Xd(h1:fe ta σ H i)(h2:fe tb σ H j):qt (gH (cO Nn ta tb)) σ H (decide (i<=j)):=λH' s _ q=>h1 H' s _ (h2 H' s _ ⟨i,j,rfl,rfl,_,rfl,q⟩)
theorem Xe(h1:fe ta σ H i)(h2:fe tb σ H j):qt (gH (cO Np ta tb)) σ H (decide (i<j)):=λH' s _ q=>h1 H' s _ (h2 H' s _ ⟨i,j,rfl,rfl,_,rfl,q⟩)
theorem Aq:decide (V.int i=V.int j)=decide (i=j):=by simp
theorem ue(h1:fe ta σ H i)(h2:fe tb σ H j):qt (gH (cO j6 ta tb)) σ H (decide (i=j)):=λH' s _ q=>h1 H' s _ (h2 H' s _ ⟨rfl,_,rfl,by rw[Aq];exact q⟩)
theorem Nr(h1:fe ta σ H i)(h2:fe tb σ H j):qt (gH (cO HR ta tb)) σ H (!decide (i=j)):=λH' s _ q=>h1 H' s _ (h2 H' s _ ⟨rfl,_,rfl,by rw[Aq];exact q⟩)
theorem uf{ta tb:TT}{d:Bool}(h1:qt ta σ H c)(h2:qt tb σ H d):qt (pL ta tb) σ H (c&&d):=λH' s R q=>h1 H' s _ (by
 cases c with
 |true=>exact eC (h2 H' s _ q)
 |false=>exact dB q)
theorem afS{ta tb:TT}{d:Bool}(h1:qt ta σ H c)(h2:qt tb σ H d):qt (pM ta tb) σ H (c||d):=λH' s R q=>h1 H' s _ (by
 cases c with
 |true=>exact eC q
 |false=>exact dB (h2 H' s _ q))
theorem Nt(h1:fe ta σ H i)(h2:fe tb σ H j)(j0:0<j):fe (cO Xc ta tb) σ H (i%j):=λH' s _ q=>h1 H' s _ (h2 H' s _ ⟨i,j,rfl,rfl,j0,q⟩)
theorem oE{A B:Prop}(h1:c=true->A)(h2:c=false->B):if c=true then A else B:=by
 cases c with
 |true=>exact eC (h1 rf)
 |false=>exact dB (h2 rf)
end
theorem afT{fI:Addr}{ql:FuncData}(F:cJ K "_law_padded" "_law_padded" JU f fd)
  (GD:cc P w K mg base cb 1 fD iI ["hand","limit"] nE) (kD:Kp K fD) (bD:Binds K iI ["hand","limit"] []) (mD:Mg mg "_law_draw" fD)
  (GI:cc P w K mg base cb 1 fI ql ["many"] (Cz K)) (kI:Kp K fI) (bI:Binds K ql ["many"] []) (mI:Mg mg "_law_ids" fI):cc P w K mg base cb 2 f fd ["hand","box","many"] (Nk K):=by
 refine F.ok vL (λvs H Q E h=>?_) (λcz A outer s H vs Q E hr h=>?_)
 ·obtain⟨a,b,n,d,m,rfl,_⟩:=h;rfl
 ·obtain⟨a,b,n,d,m,rfl,hH,hn,hd,hl,hm,hw,q⟩:=h;refine⟨Gy K,?_,?_⟩
  ·unfold Gy;refine bo ?_ ?_
   ·exact my (pv 1) (nZ (n:=3) K rf rf (eZ (cH (i:=3) vL.nd rf (.inl rf)) (eZ (cH (i:=4) vL.nd rf (.inl rf)) (eZ (cH (i:=5) vL.nd rf (.inl rf)) ko))))
   refine bo ?_ ?_
   ·exact cv (i:=6) vL.nd rf (.inl rf) (cK GD hr rf mD kD bD .nil cL (aV (pv 0) (aV (bQ eM (bQ sr (pv 2) (pv 4)) ba) aZ)))
   refine bo ?_ ?_
   ·exact cv (i:=7) vL.nd rf (.inl rf) (bQ sr (bQ sr (pv 2) (pv 4)) (pv 6))
   refine bo ?_ ?_
   ·refine dj ?_ ?_ dz
    ·exact cS wo (pv 7) ba (cM _)
    ·refine bY ?_;exact cv (i:=3) (te:=Xa K) vL.nd rf (.inl rf) (bQ (eN K rf) (bQ (eN K rf) (cU (aV dh aZ)) (pv 3)) (cK GI hr rf mI kI bI .nil cL (aV (pv 7) aZ)))
   refine bo ?_ ?_
   ·refine dj ?_ ?_ dz
    ·exact cS wo (pv 6) ba (cM _)
    ·refine bY ?_;exact cv (i:=3) (te:=Nl K) vL.nd rf (.inl rf) (bQ (eN K rf) (bQ (eN K rf) (cU (aV dh aZ)) (cK GI hr rf mI kI bI .nil cL (aV (pv 6) aZ))) (pv 3))
   refine bY ?_;refine cC (te:=fo (bz (bg 3) (bz (bg 2) (bz (kf (kf (bg 5) (bg 6)) (bg 7)) cy)))) ?_;exact cU (aV (pv 3) (aV (pv 2) (aV (bQ eM (bQ eM (pv 5) (pv 6)) (pv 7)) aZ)))
  ·exact afQ hH hn hd hl hm hw q
def Xf(d d':Drw):Prop:=∀s:Int,2<=s->d.mid s->(d.bh:Int)<=s->(d.bf:Int)<=s->d'.mid s
def Nu(K:Frag):Sp:=λvs H Q _=>∃(a b:Addr)(n:Nat)(p:Int)(d:Drw),vs=[.ref a,.int p,.ref b]/\Hand H a n/\n<=700/\2<=p/\p<=97/\gh K H b d/\d.wf p/\d.bh<=90/\d.bf<=90/\d.aX.length<=100/\
 ∀v d' H' n',d'.wf p->Xf d d'->d'.aX.length<=500->cw a H H'->Hand H' a n'->n'<=n+5->gh K H' v d'->Q (.ref v) H'
theorem vM:dy ["hand","p","here","style","words","left","right","box","far"] ["hand","p","here"] (cu JV):=dI rfl rfl rfl (by decide +kernel) rfl
abbrev Nv(i:Int):TT:=gH (cO j6 (cO Xc (bg 3) (tC (.int 2))) (tC (.int i)))
def Xg(K:Frag):TT:=pL (gH (cO xI (bg 3) (tC (.int 3)))) (pL (Nv 0) (gH (cO Nn (eJ K 7 1) (bg 6))))
def Xh(K:Frag):TT:=pL (gH (cO xI (bg 3) (tC (.int 3)))) (pL (Nv 1) (gH (cO Nn (eJ K 7 1) (bg 5))))
abbrev rO(ta tb tc:TE):TE:=fo (bz ta (bz tb (bz tc cy)))
def Nw(K:Frag):TE:=rO (g8 K (qq "back") (bg 4)) (bg 6) (bg 5)
def Nx(K:Frag):TE:=rO (g8 K (g8 K (qq "then") (bg 4)) (eJ K 8 0)) (bg 5) (eJ K 8 2)
def Ny(K:Frag):TE:=rO (g8 K (g8 K (Nh "then" "back") (eJ K 8 0)) (bg 4)) (eJ K 8 2) (bg 6)
def Nz(K:Frag):TE:=rO (g8 K (g8 K (qq "beside") (bg 4)) (eJ K 7 0)) (kf (bg 5) (eJ K 7 1)) (kf (bg 6) (eJ K 7 2))
def NA(K:Frag):TE:=rO (g8 K (g8 K (qq "beside") (eJ K 7 0)) (bg 4)) (kf (bg 5) (eJ K 7 1)) (kf (bg 6) (eJ K 7 2))
def Gz(K:Frag)(i:Nat):TE:=jL (Nk K) [] E0 (bz (bg 0) (bz (bg 7) (bz (bg i) cy)))
def GK(K:Frag):TS:=cF (dM (tY 0 (tC (.int 9))) (cG 3)) (cF (dM (bg 2) (si K 3 (jK (cG 4) (jK (cG 5) (jK (cG 6) uE))))) (cF (dM (jL (zL K) [] E0 (bz (bg 0) (bz (bg 1) cy))) (cG 7)) (cF (eA (gH (cO j6 (bg 3) (tC (.int 0)))) (fQ (Nw K)) gG) (cF (eA (Xg K) (cF (dM (Gz K 6) (cG 8)) (fQ (Nx K))) gG) (cF (eA (Xh K) (cF (dM (Gz K 5) (cG 8)) (fQ (Ny K))) gG) (cF (eA (Nv 0) (fQ (Nz K)) gG) (fQ (NA K))))))))
theorem afU(hH:Hand H a n)(hn:n<=700)(p2:2<=p)(dX:p<=97)(hd:gh K H b d)(kg:d.wf p)(hl:d.bh<=90)(hr:d.bf<=90)(hw:d.aX.length<=100)
  (q:∀v d' H' n',d'.wf p->Xf d d'->d'.aX.length<=500->cw a H H'->Hand H' a n'->n'<=n+5->gh K H' v d'->D.rt (.ref v) H'):GK K D [some (.ref a),some (.int p),some (.ref b),none,none,none,none,none,none] H:=by
 unfold GK;refine fu ?_;refine pq rf (λR h=>h) hH (by lia) (by decide) (by decide) λst H1 j0 j1 s1 g1=>?_;obtain⟨aw,ot,iD⟩:=hd.de hH s1;refine FV ⟨_,rf,V4 ot ?_⟩;refine fu ⟨_,rf,_,rf,a,n+1,p,rf,g1,by lia,p2,dX,λbx e H2 n2 ja el Xi Xj s2 g2 DI NB=>?_⟩;have iD:=cw.bc s2 g1 iD;have sA:=cw.trans s1 s2;obtain⟨bw,oD,xF⟩:=id NB;refine lH ?_;refine ue (i:=st) (j:=0) (eE rf) jR H2 (.refl _) _ (oE (λ_=>?_) λ_=>?_)
 ·refine qo ?_;refine rN (d:=.back d) (i9 rM (vK rf iD) (by show 1+_<=10000;lia)) (λH' s'=>eE rfl) (λH' s'=>eE rfl) λv H3 s3 hv=>q v (.back d) H3 n2 kg (λ_ _ h _ _=>h) (by simp only[Drw.aX,dW];lia) (cw.trans sA (aW.de s3)) (g2.mono s3) (by lia) hv
 refine lH ?_;refine uf (Nq (i:=st) (j:=3) (eE rf) jR) (uf (ue (Nt (eE rf) jR (by decide)) jR) (Xd (i:=(e.bh:Int)) (j:=(d.bf:Int)) (o7 (j:=1) rf oD rf) (eE rf))) H2 (.refl _) _ (oE (λc=>?_) λ_=>?_)
 ·simp only[gM,aJ]at c;refine fu ⟨_,rf,_,rf,_,rf,a,bx,n2,e,d.bf,rf,g2,by lia,NB,by lia,hr,by lia,λv ab un H3 GQ s3 g3 hv=>?_⟩;obtain⟨vw,CB,NC⟩:=id hv;have xh:=cw.bc s3 g2 iD;have ps:=Nj (d:=e) (ab:=ab) (un:=un);have pl:=W9 (d:=e) (ab:=ab) (un:=un);refine qo ?_;refine rN (d:=.bj d (jk e ab un)) (i9 (i9 rM (vK rf xh) (by show 1+_<=10000;lia)) (zP (j:=0) rfl CB rfl NC) ?_) (λH' s'=>eE rfl) (λH' s'=>o7 (j:=2) rfl (s'.bc CB) rfl) λu H4 s4 hu=>q u (.bj d (jk e ab un)) H4 (n2+1) ⟨kg,W7 ja,?_⟩ (λs s2 h _ h2=>⟨h,W8 (Drw.pw s2 ja el),h2⟩) ?_ (cw.trans sA (cw.trans s3 (aW.de s4))) (g3.mono s4) (by lia) hu
  ·rw[cm];show 1+_+_<=10000;lia
  ·rw[ps.1,GQ]
  ·simp only[Drw.aX,dW,cm];lia
 refine lH ?_;refine uf (Nq (i:=st) (j:=3) (eE rf) jR) (uf (ue (Nt (eE rf) jR (by decide)) jR) (Xd (i:=(e.bh:Int)) (j:=(d.bh:Int)) (o7 (j:=1) rf oD rf) (eE rf))) H2 (.refl _) _ (oE (λc=>?_) λ_=>?_)
 ·simp only[gM,aJ]at c;refine fu ⟨_,rf,_,rf,_,rf,a,bx,n2,e,d.bh,rf,g2,by lia,NB,by lia,hl,by lia,λv ab un H3 GQ s3 g3 hv=>?_⟩;obtain⟨vw,CB,NC⟩:=id hv;have xh:=cw.bc s3 g2 iD;have ps:=Nj (d:=e) (ab:=ab) (un:=un);have pl:=W9 (d:=e) (ab:=ab) (un:=un);refine qo ?_;refine rN (d:=.bj (.back (jk e ab un)) d) (i9 (i9 W5 (zP (j:=0) rf CB rf NC) (by show 2+_<=10000;lia)) (vK rfl xh) ?_) (λH' s'=>o7 (j:=2) rfl (s'.bc CB) rfl) (λH' s'=>eE rfl) λu H4 s4 hu=>q u (.bj (.back (jk e ab un)) d) H4 (n2+1) ⟨W7 ja,kg,?_⟩ (λs s2 h h1 _=>⟨W8 (Drw.pw s2 ja el),h,by show((jk e ab un).bh:Int)<=s;rw[ps.1,GQ];exact h1⟩) ?_ (cw.trans sA (cw.trans s3 (aW.de s4))) (g3.mono s4) (by lia) hu
  ·rw[cm];show 2+_+_<=10000;lia
  ·show(jk e ab un).bh=_;rw[ps.1,GQ]
  ·simp only[Drw.aX,dW,cm];lia
 refine lH ?_;refine ue (Nt (i:=st) (j:=2) (eE rf) jR (by decide)) jR H2 (.refl _) _ (oE (λ_=>?_) λ_=>?_)
 ·refine qo ?_;refine rN (d:=.cD d e) (i9 (i9 rM (vK rf iD) (by show 1+_<=10000;lia)) (zP (j:=0) rfl oD rfl xF) ?_) (λH' s'=>?_) (λH' s'=>?_) λv H3 s3 hv=>q v (.cD d e) H3 n2 ⟨kg,ja⟩ (λs s2 h _ _=>⟨h,Drw.pw s2 ja el⟩) (by simp only[Drw.aX,dW,cm];lia) (cw.trans sA (aW.de s3)) (g2.mono s3) (by lia) hv
  ·rw[cm];show 1+_+_<=10000;lia
  ·rw[show(((Drw.cD d e).bh:Nat):Int)=(d.bh:Int)+(e.bh:Int) by show((d.bh+e.bh:Nat):Int)=_;lia];exact ke (eE rf) (o7 (j:=1) rf (s'.bc oD) rf)
  ·rw[show(((Drw.cD d e).bf:Nat):Int)=(d.bf:Int)+(e.bf:Int) by show((d.bf+e.bf:Nat):Int)=_;lia];exact ke (eE rf) (o7 (j:=2) rf (s'.bc oD) rf)
 ·refine qo ?_;refine rN (d:=.cD e d) (i9 (i9 rM (zP (j:=0) rf oD rf xF) (by show 1+_<=10000;lia)) (vK rfl iD) ?_) (λH' s'=>?_) (λH' s'=>?_) λv H3 s3 hv=>q v (.cD e d) H3 n2 ⟨ja,kg⟩ (λs s2 h _ _=>⟨Drw.pw s2 ja el,h⟩) (by simp only[Drw.aX,dW,cm];lia) (cw.trans sA (aW.de s3)) (g2.mono s3) (by lia) hv
  ·rw[cm];show 1+_+_<=10000;lia
  ·rw[show(((Drw.cD e d).bh:Nat):Int)=(d.bh:Int)+(e.bh:Int) by show((e.bh+d.bh:Nat):Int)=_;lia];exact ke (eE rf) (o7 (j:=1) rf (s'.bc oD) rf)
  ·rw[show(((Drw.cD e d).bf:Nat):Int)=(d.bf:Int)+(e.bf:Int) by show((e.bf+d.bf:Nat):Int)=_;lia];exact ke (eE rf) (o7 (j:=2) rf (s'.bc oD) rf)
theorem ug{X:Cx}{a b c:Expr}{k:Nat}{pos:Pos}{tc:TE}(h1:PE X a ta)(h2:PE X b tb)(h3:PE X c tc)(s1:starEach [a,b,c] X.env=(false,eval a X.env)::starEach [b,c] X.env)(s2:starEach [b,c] X.env=(false,eval b X.env)::starEach [c] X.env)(s3:starEach [c] X.env=(false,eval c X.env)::starEach [] X.env):PE X (.Tuple [a,b,c] k pos) (rO ta tb tc):=
 cU (aV h1 (aV h2 (aV h3 aZ s3) s2) s1)
theorem afV{fB fI:Addr}{vx ql:FuncData}(F:cJ K "_law_next" "_law_next" JV f fd)
  (GD:cc P w K mg base cb 1 fD iI ["hand","limit"] nE) (kD:Kp K fD) (bD:Binds K iI ["hand","limit"] []) (mD:Mg mg "_law_draw" fD)
  (GB:cc P w K mg base cb 2 fB vx ["hand","p"] (zL K)) (kB:Kp K fB) (bB:Binds K vx ["hand","p"] []) (mB:Mg mg "_law_box" fB)
  (GI:cc P w K mg base cb 2 fI ql ["hand","box","many"] (Nk K)) (kI:Kp K fI) (bI:Binds K ql ["hand","box","many"] []) (mI:Mg mg "_law_padded" fI):cc P w K mg base cb 3 f fd ["hand","p","here"] (Nu K):=by
 refine F.ok vM (λvs H Q E h=>?_) (λcz A outer s H vs Q E hr h=>?_)
 ·obtain⟨a,b,n,p,d,rfl,_⟩:=h;rfl
 ·obtain⟨a,b,n,p,d,rfl,hH,hn,p2,dX,hd,kg,hl,pT,hw,q⟩:=h;have iw:eO 1 _:=hr.mono (by decide);refine⟨GK K,?_,?_⟩
  ·unfold GK;refine bo ?_ ?_
   ·exact cv (i:=3) vM.nd rf (.inl rf) (cK GD iw rf mD kD bD .nil cL (aV (pv 0) (aV ba aZ)))
   refine bo ?_ ?_
   ·exact my (pv 2) (nZ (n:=3) K rf rf (eZ (cH (i:=4) vM.nd rf (.inl rf)) (eZ (cH (i:=5) vM.nd rf (.inl rf)) (eZ (cH (i:=6) vM.nd rf (.inl rf)) ko))))
   refine bo ?_ ?_
   ·exact cv (i:=7) vM.nd rf (.inl rf) (cK GB hr rf mB kB bB .nil cL (aV (pv 0) (aV (pv 1) aZ)))
   refine bo ?_ ?_
   ·refine dj ?_ ?_ dz
    ·exact cS eB (pv 3) ba (cM _)
    ·refine bY ?_;refine cC (te:=Nw K) ?_;unfold Nw;refine ug ?_ ?_ ?_ ?_ ?_ ?_
     ·exact bQ (eN K rf) (cU (aV dh aZ)) (pv 4)
     ·exact pv 6
     ·exact pv 5
     ·rfl
     ·rfl
     ·rfl
   refine bo ?_ ?_
   ·refine dj ?_ ?_ dz
    ·unfold Xg;refine PW.pt (qK ?_ (qK ?_ (xX ?_)))
     ·exact cS wo (pv 3) ba (cM _)
     ·exact cS eB (bQ j5 (pv 3) ba) ba (cM _)
     ·exact cS Ar (br (cj K rf) (pv 7) ba) (pv 6) (cM _)
    ·refine bo ?_ ?_
     ·exact cv (i:=8) (te:=Gz K 6) vM.nd rf (.inl rf) (cK GI hr rf mI kI bI .nil cL (aV (pv 0) (aV (pv 7) (aV (pv 6) aZ))))
     ·refine bY ?_;refine cC (te:=Nx K) ?_;unfold Nx;refine ug ?_ ?_ ?_ ?_ ?_ ?_
      ·exact bQ (eN K rf) (bQ (eN K rf) (cU (aV dh aZ)) (pv 4)) (br (cj K rf) (pv 8) ba)
      ·exact pv 5
      ·exact br (cj K rf) (pv 8) ba
      ·rfl
      ·rfl
      ·rfl
   refine bo ?_ ?_
   ·refine dj ?_ ?_ dz
    ·unfold Xh;refine PW.pt (qK ?_ (qK ?_ (xX ?_)))
     ·exact cS wo (pv 3) ba (cM _)
     ·exact cS eB (bQ j5 (pv 3) ba) ba (cM _)
     ·exact cS Ar (br (cj K rf) (pv 7) ba) (pv 5) (cM _)
    ·refine bo ?_ ?_
     ·exact cv (i:=8) (te:=Gz K 5) vM.nd rf (.inl rf) (cK GI hr rf mI kI bI .nil cL (aV (pv 0) (aV (pv 7) (aV (pv 5) aZ))))
     ·refine bY ?_;refine cC (te:=Ny K) ?_;unfold Ny;refine ug ?_ ?_ ?_ ?_ ?_ ?_
      ·exact bQ (eN K rf) (bQ (eN K rf) (cU (aV dh (aV dh aZ))) (br (cj K rf) (pv 8) ba)) (pv 4)
      ·exact br (cj K rf) (pv 8) ba
      ·exact pv 6
      ·rfl
      ·rfl
      ·rfl
   refine bo ?_ ?_
   ·refine dj ?_ ?_ dz
    ·exact cS eB (bQ j5 (pv 3) ba) ba (cM _)
    ·refine bY ?_;refine cC (te:=Nz K) ?_;unfold Nz;refine ug ?_ ?_ ?_ ?_ ?_ ?_
     ·exact bQ (eN K rf) (bQ (eN K rf) (cU (aV dh aZ)) (pv 4)) (br (cj K rf) (pv 7) ba)
     ·exact bQ eM (pv 5) (br (cj K rf) (pv 7) ba)
     ·exact bQ eM (pv 6) (br (cj K rf) (pv 7) ba)
     ·rfl
     ·rfl
     ·rfl
   refine bY ?_;refine cC (te:=NA K) ?_;unfold NA;refine ug ?_ ?_ ?_ ?_ ?_ ?_
   ·exact bQ (eN K rf) (bQ (eN K rf) (cU (aV dh aZ)) (br (cj K rf) (pv 7) ba)) (pv 4)
   ·exact bQ eM (pv 5) (br (cj K rf) (pv 7) ba)
   ·exact bQ eM (pv 6) (br (cj K rf) (pv 7) ba)
   ·rfl
   ·rfl
   ·rfl
  ·exact afU hH hn p2 dX hd kg hl pT hw q
def ND(d e d':Drw):Prop:=∀s:Int,d.mid s->e.mid s->(d.bh:Int)<=s->(d.bf:Int)<=s->d'.mid s
def NF(K:Frag):Sp:=λvs H Q _=>∃(a b c:Addr)(n:Nat)(p:Int)(d e:Drw),vs=[.ref a,.ref b,.ref c]/\Hand H a n/\n<=700/\gh K H b d/\gh K H c e/\d.wf p/\e.wf p/\d.aX.length<=100/\e.aX.length<=100/\
 ∀v d' H',d'.wf p->ND d e d'->d'.aX.length<=500->cw a H H'->Hand H' a (n+1)->gh K H' v d'->Q (.ref v) H'
theorem Xk:dy ["hand","one","other","style"] ["hand","one","other"] (cu JW):=dI rfl rfl rfl (by decide +kernel) rfl
abbrev NG(K:Frag)(i j:Int):TT:=gH (cO HR (eJ K 1 i) (eJ K 2 j))
def Xl(K:Frag):TT:=pM (gH (cO j6 (bg 3) (tC (.int 0)))) (pL (NG K 2 1) (pL (NG K 2 2) (NG K 1 1)))
def NH(K:Frag):TE:=rO (g8 K (g8 K (qq "beside") (eJ K 1 0)) (eJ K 2 0)) (kf (eJ K 1 1) (eJ K 2 1)) (kf (eJ K 1 2) (eJ K 2 2))
def NI(K:Frag):TE:=rO (g8 K (g8 K (qq "then") (eJ K 1 0)) (eJ K 2 0)) (eJ K 1 1) (eJ K 2 2)
def NJ(K:Frag):TE:=rO (g8 K (g8 K (g8 K (qq "then") (eJ K 1 0)) (qq "back")) (eJ K 2 0)) (eJ K 1 1) (eJ K 2 1)
def NK(K:Frag):TE:=rO (g8 K (g8 K (Nh "then" "back") (eJ K 1 0)) (eJ K 2 0)) (eJ K 1 2) (eJ K 2 2)
def GR(K:Frag):TS:=cF (dM (tY 0 (tC (.int 4))) (cG 3)) (cF (eA (Xl K) (fQ (NH K)) gG) (cF (eA (gH (cO j6 (eJ K 1 2) (eJ K 2 1))) (fQ (NI K)) gG) (cF (eA (gH (cO j6 (eJ K 1 2) (eJ K 2 2))) (fQ (NJ K)) gG) (fQ (NK K)))))
theorem afW{c:Addr}{e:Drw}(hH:Hand H a n)(hn:n<=700)(hd:gh K H b d)(he:gh K H c e)(jI:d.wf p)(ja:e.wf p)(hw:d.aX.length<=100)(tT:e.aX.length<=100)
  (q:∀v d' H',d'.wf p->ND d e d'->d'.aX.length<=500->cw a H H'->Hand H' a (n+1)->gh K H' v d'->D.rt (.ref v) H'):GR K D [some (.ref a),some (.ref b),some (.ref c),none] H:=by
 unfold GR;refine fu ?_;refine pq rf (λR h=>h) hH (by lia) (by decide) (by decide) λst H1 j0 j1 s1 g1=>?_;obtain⟨dw,ot,iD⟩:=hd.de hH s1;obtain⟨ew,NL,he2⟩:=he.de hH s1;have fin:∀(d':Drw) v H3,d'.wf p->ND d e d'->d'.aX.length<=500->aW H1 H3->gh K H3 v d'->D.rt (.ref v) H3:=λd' v H3 a1 a0 a2 s3 hv=>q v d' H3 a1 a0 a2 (cw.trans s1 (aW.de s3)) (g1.mono s3) hv;have I1:∀{σ:St}{H':Hp}{i:Nat},σ[i]?=some (some (.ref b))->aW H1 H'->fe (eJ K i 1) σ H' (d.bh:Int):=λh s=>o7 (j:=1) h (s.bc ot) rfl;have I2:∀{σ:St}{H':Hp}{i:Nat},σ[i]?=some (some (.ref b))->aW H1 H'->fe (eJ K i 2) σ H' (d.bf:Int):=λh s=>o7 (j:=2) h (s.bc ot) rfl;have J1:∀{σ:St}{H':Hp}{i:Nat},σ[i]?=some (some (.ref c))->aW H1 H'->fe (eJ K i 1) σ H' (e.bh:Int):=λh s=>o7 (j:=1) h (s.bc NL) rfl;have J2:∀{σ:St}{H':Hp}{i:Nat},σ[i]?=some (some (.ref c))->aW H1 H'->fe (eJ K i 2) σ H' (e.bf:Int):=λh s=>o7 (j:=2) h (s.bc NL) rfl;have I0:∀{σ:St}{i:Nat},σ[i]?=some (some (.ref b))->qp K (eJ K i 0) σ H1 d.aX:=λh=>zP (j:=0) h ot rfl iD;have J0:∀{σ:St}{i:Nat},σ[i]?=some (some (.ref c))->qp K (eJ K i 0) σ H1 e.aX:=λh=>zP (j:=0) h NL rfl he2;refine lH ?_;refine afS (ue (i:=st) (j:=0) (eE rf) jR) (uf (Nr (I2 rf (.refl _)) (J1 rf (.refl _))) (uf (Nr (I2 rf (.refl _)) (J2 rf (.refl _))) (Nr (I1 rf (.refl _)) (J1 rf (.refl _))))) H1 (.refl _) _ (oE (λ_=>?_) λc1=>?_)
 ·refine qo ?_;refine rN (d:=.cD d e) (i9 (i9 rM (I0 rf) (by show 1+_<=10000;lia)) (J0 rfl) ?_) (λH' s'=>?_) (λH' s'=>?_) λv H3 s3 hv=>fin (.cD d e) v H3 ⟨jI,ja⟩ (λs h h' _ _=>⟨h,h'⟩) (by simp only[Drw.aX,dW,cm];lia) s3 hv
  ·rw[cm];show 1+_+_<=10000;lia
  ·rw[show(((Drw.cD d e).bh:Nat):Int)=(d.bh:Int)+(e.bh:Int) by show((d.bh+e.bh:Nat):Int)=_;lia];exact ke (I1 rf s') (J1 rf s')
  ·rw[show(((Drw.cD d e).bf:Nat):Int)=(d.bf:Int)+(e.bf:Int) by show((d.bf+e.bf:Nat):Int)=_;lia];exact ke (I2 rf s') (J2 rf s')
 refine lH ?_;refine ue (I2 rf (.refl _)) (J1 rf (.refl _)) H1 (.refl _) _ (oE (λc2=>?_) λc2=>?_)
 ·rw[aJ]at c2;refine qo ?_;refine rN (d:=.bj d e) (i9 (i9 rM (I0 rf) (by show 1+_<=10000;lia)) (J0 rfl) ?_) (λH' s'=>I1 rfl s') (λH' s'=>J2 rfl s') λv H3 s3 hv=>fin (.bj d e) v H3 ⟨jI,ja,by lia⟩ (λs h h' _ h2=>⟨h,h',h2⟩) (by simp only[Drw.aX,dW,cm];lia) s3 hv;rw[cm];show 1+_+_<=10000;lia
 refine lH ?_;refine ue (I2 rf (.refl _)) (J2 rf (.refl _)) H1 (.refl _) _ (oE (λc3=>?_) λc3=>?_)
 ·rw[aJ]at c3;refine qo ?_;refine rN (d:=.bj d (.back e)) (λH' s' R q'=>i9 (i9 (i9 rM (I0 rf) (by show 1+_<=10000;lia)) rM ?_) (J0 rfl) ?_ H' s' R λv jE iQ hv=>q' v jE iQ ?_) (λH' s'=>I1 rfl s') (λH' s'=>J1 rfl s') λv H3 s3 hv=>fin (.bj d (.back e)) v H3 ⟨jI,ja,by show d.bf=e.bf;lia⟩ (λs h h' _ h2=>⟨h,h',h2⟩) (by simp only[Drw.aX,dW,cm];lia) s3 hv
  ·rw[cm];show 1+_+1<=10000;lia
  ·rw[cm,cm];show 1+_+1+_<=10000;lia
  ·show bq K jE v (.str "then"::(d.aX++.str "back"::e.aX));rw[i4,i4]at hv;exact hv
 ·refine qo ?_;have c4:d.bh=e.bh:=by
   simp only[Bool.or_eq_false_iff,Bool.and_eq_false_iff,Bool.not_eq_false',aJ,aI]at c1 c2 c3;lia
  refine rN (d:=.bj (.back d) e) (i9 (i9 W5 (I0 rf) (by show 2+_<=10000;lia)) (J0 rfl) ?_) (λH' s'=>I2 rfl s') (λH' s'=>J2 rfl s') λv H3 s3 hv=>fin (.bj (.back d) e) v H3 ⟨jI,ja,c4⟩ (λs h h' h1 _=>⟨h,h',h1⟩) (by simp only[Drw.aX,dW,cm];lia) s3 hv;rw[cm];show 2+_+_<=10000;lia
theorem afX(F:cJ K "_law_joined" "_law_joined" JW f fd)
  (GD:cc P w K mg base cb 1 fD iI ["hand","limit"] nE) (kD:Kp K fD) (bD:Binds K iI ["hand","limit"] []) (mD:Mg mg "_law_draw" fD):cc P w K mg base cb 2 f fd ["hand","one","other"] (NF K):=by
 refine F.ok Xk (λvs H Q E h=>?_) (λcz A outer s H vs Q E hr h=>?_)
 ·obtain⟨a,b,c,n,p,d,e,rfl,_⟩:=h;rfl
 ·obtain⟨a,b,c,n,p,d,e,rfl,hH,hn,hd,he,jI,ja,hw,tT,q⟩:=h;refine⟨GR K,?_,?_⟩
  ·unfold GR;refine bo ?_ ?_
   ·exact cv (i:=3) Xk.nd rf (.inl rf) (cK GD hr rf mD kD bD .nil cL (aV (pv 0) (aV ba aZ)))
   refine bo ?_ ?_
   ·refine dj ?_ ?_ dz
    ·unfold Xl;refine PW.pt (wd ?_ (xY (PW.pt (qK ?_ (qK ?_ (xX ?_))))))
     ·exact cS eB (pv 3) ba (cM _)
     ·exact cS nP (br (cj K rf) (pv 1) ba) (br (cj K rf) (pv 2) ba) (cM _)
     ·exact cS nP (br (cj K rf) (pv 1) ba) (br (cj K rf) (pv 2) ba) (cM _)
     ·exact cS nP (br (cj K rf) (pv 1) ba) (br (cj K rf) (pv 2) ba) (cM _)
    ·refine bY ?_;refine cC (te:=NH K) ?_;unfold NH;refine ug ?_ ?_ ?_ ?_ ?_ ?_
     ·exact bQ (eN K rf) (bQ (eN K rf) (cU (aV dh aZ)) (br (cj K rf) (pv 1) ba)) (br (cj K rf) (pv 2) ba)
     ·exact bQ eM (br (cj K rf) (pv 1) ba) (br (cj K rf) (pv 2) ba)
     ·exact bQ eM (br (cj K rf) (pv 1) ba) (br (cj K rf) (pv 2) ba)
     ·rfl
     ·rfl
     ·rfl
   refine bo ?_ ?_
   ·refine dj ?_ ?_ dz
    ·exact cS eB (br (cj K rf) (pv 1) ba) (br (cj K rf) (pv 2) ba) (cM _)
    ·refine bY ?_;refine cC (te:=NI K) ?_;unfold NI;refine ug ?_ ?_ ?_ ?_ ?_ ?_
     ·exact bQ (eN K rf) (bQ (eN K rf) (cU (aV dh aZ)) (br (cj K rf) (pv 1) ba)) (br (cj K rf) (pv 2) ba)
     ·exact br (cj K rf) (pv 1) ba
     ·exact br (cj K rf) (pv 2) ba
     ·rfl
     ·rfl
     ·rfl
   refine bo ?_ ?_
   ·refine dj ?_ ?_ dz
    ·exact cS eB (br (cj K rf) (pv 1) ba) (br (cj K rf) (pv 2) ba) (cM _)
    ·refine bY ?_;refine cC (te:=NJ K) ?_;unfold NJ;refine ug ?_ ?_ ?_ ?_ ?_ ?_
     ·exact bQ (eN K rf) (bQ (eN K rf) (bQ (eN K rf) (cU (aV dh aZ)) (br (cj K rf) (pv 1) ba)) (cU (aV dh aZ))) (br (cj K rf) (pv 2) ba)
     ·exact br (cj K rf) (pv 1) ba
     ·exact br (cj K rf) (pv 2) ba
     ·rfl
     ·rfl
     ·rfl
   refine bY ?_;refine cC (te:=NK K) ?_;unfold NK;refine ug ?_ ?_ ?_ ?_ ?_ ?_
   ·exact bQ (eN K rf) (bQ (eN K rf) (cU (aV dh (aV dh aZ))) (br (cj K rf) (pv 1) ba)) (br (cj K rf) (pv 2) ba)
   ·exact br (cj K rf) (pv 1) ba
   ·exact br (cj K rf) (pv 2) ba
   ·rfl
   ·rfl
   ·rfl
  ·exact afW hH hn hd he jI ja hw tT q
def NM(K:Frag):Sp:=λvs H Q _=>∃(v:Addr)(d:Drw)(m s:Int),vs=[.ref v,.int m,.int s]/\gh K H v d/\Q (.bl (decide ((d.aX.length:Int)<=m)&&(decide ((d.bh:Int)<=s)&&decide ((d.bf:Int)<=s)))) H
theorem afY:dy ["drawing","most","side"] ["drawing","most","side"] (cu JX):=dI rfl rfl rfl (by decide +kernel) rfl
theorem afZ(F:cJ K "_law_fits" "_law_fits" JX f fd)(T:Txt mg):cc P w K mg base cb 1 f fd ["drawing","most","side"] (NM K):=by
 refine F.ok afY (λvs H Q E h=>?_) (λcz A outer s H vs Q E hr h=>?_)
 ·obtain⟨v,d,m,sd,rfl,_⟩:=h;rfl
 ·obtain⟨v,d,m,sd,rfl,⟨aw,h1,h2⟩,q⟩:=h;refine⟨_,bY (cC (HF (qN Ar (eX (iM K rf) rf T.len iN (aV (br (cj K rf) (pv 0) ba) aZ)) (pv 1) (cM _)) (HF (qN Ar (br (cj K rf) (pv 0) ba) (pv 2) (cM _)) (OP (qN Ar (br (cj K rf) (pv 0) ba) (pv 2) (cM _)))))),?_⟩;refine⟨_,rf,v,_,0,_,rf,rf,h1,bX (j:=0) rf,aw,_,rf,.inr h2,_,rf,_,_,rf,rf,_,rf,?_⟩;refine oE (λc1=>?_) λc1=>?_
  ·rw[c1,Bool.true_and]at q;refine⟨_,rf,v,_,1,_,rf,rf,h1,bX (j:=1) rf,_,rf,_,_,rf,rf,_,rf,?_⟩;refine oE (λc2=>?_) λc2=>?_
   ·rw[c2,Bool.true_and]at q;exact⟨_,rf,v,_,2,_,rf,rf,h1,bX (j:=2) rf,_,rf,_,_,rf,rf,q⟩
   ·rw[c2,Bool.false_and]at q;exact q
  ·rw[c1,Bool.false_and]at q;exact q
inductive iB(K:Frag)(H:Hp):List V->List Drw->Prop where
 |nil:iB K H [] []
 |cons {v:Addr} {d:Drw} {VS:List V} {ds:List Drw} (h:gh K H v d) (r:iB K H VS ds):iB K H (.ref v::VS) (d::ds)
section
variable{K:Frag}{H H':Hp}{VS:List V}{ds:List Drw}
theorem iB.tup(h:iB K H VS ds)(s:dF H H'):iB K H' VS ds:=by
 induction h with
 |nil=>exact .nil
 |cons h r ih=>exact .cons (h.tup s) ih
theorem iB.de{a:Addr}{n:Nat}(h:iB K H VS ds)(hH:Hand H a n)(s:cw a H H'):iB K H' VS ds:=by
 induction h with
 |nil=>exact .nil
 |cons h r ih=>exact .cons (h.de hH s) ih
theorem iB.append{US:List V}{es:List Drw}(h:iB K H VS ds)(g:iB K H US es):iB K H (VS++US) (ds++es):=by
 induction h with
 |nil=>exact g
 |cons h r ih=>exact .cons h ih
theorem iB.len(h:iB K H VS ds):VS.length=ds.length:=by
 induction h with
 |nil=>rfl
 |cons h r ih=>rw[dW,dW,ih]
theorem iB.last(h:iB K H VS ds)(cZ:0<VS.length):∃US v es d,VS=US++[.ref v]/\ds=es++[d]/\iB K H US es/\gh K H v d:=by
 induction h with
 |nil=>exact absurd cZ (by simp)
 | @cons v d VS ds h r ih=>
  cases r with
  |nil=>exact⟨[],v,[],d,rf,rf,.nil,h⟩
  |cons h' r'=>
   obtain⟨US,u,es,e,e1,e2,g1,g2⟩:=ih (by simp);exact⟨.ref v::US,u,d::es,e,by rw[e1];rfl,by rw[e2];rfl,.cons h g1,g2⟩
theorem iB.at{i:Nat}{v:V}(hV:iB K H VS ds)(hi:VS[i]?=some v):∃a d,v=.ref a/\ds[i]?=some d/\gh K H a d:=by
 induction hV generalizing i with
 |nil=>cases hi
 | @cons u d VS ds h r ih=>
  cases i with
  |zero=>cases hi;exact⟨u,d,rf,rf,h⟩
  |succ i=>exact ih hi
end
def zQ(p most side:Int)(d:Drw):Prop:=d.wf p/\(d.aX.length:Int)<=most/\(d.bh:Int)<=side/\(d.bf:Int)<=side/\d.mid side
structure GI(K:Frag)(H:Hp)(lc lf lp:Addr)(xs:List V)(p most side:Int)(i:Nat)(hd:Addr)(H':Hp)(FS PS:List V)(fs ps:List Drw)(d:Drw):Prop where
 sm:aW H H'
 c:H' lc=some (.lst xs)
 f:H' lf=some (.lst FS)
 pl:H' lp=some (.lst PS)
 F:iB K H' FS fs
 P:iB K H' PS ps
 vN:∀e∈fs,zQ p most side e
 uh:∀e∈ps,zQ p most side e
 here:gh K H' hd d
 ok:zQ p most side d
 ij:fs.length+ps.length<=i
section
variable{P:Program}{w:World}{K:Frag}{mg:Str->Option Value}{base:Heap}{H H' jE:Hp}{lc lf lp hd a:Addr}{xs FS PS:List V}{p most side:Int}{i n:Nat}{fs ps:List Drw}{d:Drw}
theorem GI.mono(g:GI K H lc lf lp xs p most side i hd H' FS PS fs ps d)(s:aW H' jE):GI K H lc lf lp xs p most side i hd jE FS PS fs ps d:=
 ⟨g.sm.trans s,s _ _ g.c,s _ _ g.f,s _ _ g.pl,g.F.tup s.tup,g.P.tup s.tup,g.vN,g.uh,g.here.mono s,g.ok,g.ij⟩
theorem GI.de(g:GI K H lc lf lp xs p most side i hd H' FS PS fs ps d)(hn:H a=none)(h1:a≠lc)(h2:a≠lf)(h3:a≠lp)(hH:Hand H' a n)(s:cw a H' jE):GI K H lc lf lp xs p most side i hd jE FS PS fs ps d:=
 ⟨λb o e=>s b o (g.sm b o e) (fj e hn),s _ _ g.c h1.symm,s _ _ g.f h2.symm,s _ _ g.pl h3.symm,g.F.de hH s,g.P.de hH s,g.vN,g.uh,g.here.de hH s,g.ok,g.ij⟩
theorem GI.push(g:GI K H lc lf lp xs p most side i hd H' FS PS fs ps d)(hn:H lp=none)(h1:lc≠lp)(h2:lf≠lp):GI K H lc lf lp xs p most side (i+1) hd (upd H' lp (.lst (PS++[.ref hd]))) FS (PS++[.ref hd]) fs (ps++[d]) d:=by
 have t:dF H' (upd H' lp (.lst (PS++[.ref hd]))):=dF.lst g.pl;refine⟨g.sm.put hn,by rw[bR h1];exact g.c,by rw[bR h2];exact g.f,bb,g.F.tup t,(g.P.tup t).append (.cons (g.here.tup t) .nil),g.vN,λe he=>?_,g.here.tup t,g.ok,?_⟩
 ·rcases(cN.mp he)with z|z
  ·exact g.uh e z
  ·rw[cA.mp z];exact g.ok
 ·have:=g.ij
  rw[cm];show _+(_+1)<=_;lia
theorem GI.tell(g:GI K H lc lf lp xs p most side i hd H' FS PS fs ps d)(hn:H lf=none)(h1:lc≠lf)(h2:lp≠lf):GI K H lc lf lp xs p most side (i+1) hd (upd H' lf (.lst (FS++[.ref hd]))) (FS++[.ref hd]) PS (fs++[d]) ps d:=by
 have t:dF H' (upd H' lf (.lst (FS++[.ref hd]))):=dF.lst g.f;refine⟨g.sm.put hn,by rw[bR h1];exact g.c,bb,by rw[bR h2];exact g.pl,(g.F.tup t).append (.cons (g.here.tup t) .nil),g.P.tup t,λe he=>?_,g.uh,g.here.tup t,g.ok,?_⟩
 ·rcases(cN.mp he)with z|z
  ·exact g.vN e z
  ·rw[cA.mp z];exact g.ok
 ·have:=g.ij
  rw[cm];show _+1+_<=_;lia
theorem GI.pop{US:List V}{v:V}{es:List Drw}{e:Drw}(g:GI K H lc lf lp xs p most side i hd H' FS (US++[v]) fs (es++[e]) d)(gU:iB K H' US es)(hn:H lp=none)(h1:lc≠lp)(h2:lf≠lp):GI K H lc lf lp xs p most side (i+1) hd (upd H' lp (.lst US)) FS US fs es d:=by
 have t:dF H' (upd H' lp (.lst US)):=dF.lst g.pl;refine⟨g.sm.put hn,by rw[bR h1];exact g.c,by rw[bR h2];exact g.f,bb,g.F.tup t,gU.tup t,g.vN,λe he=>g.uh e (eV _ he),g.here.tup t,g.ok,?_⟩
 have:=g.ij
 rw[cm]at this;lia
theorem GI.new{jc:Addr}{d':Drw}(g:GI K H lc lf lp xs p most side i hd H' FS PS fs ps d)(h:gh K H' jc d')(ok:zQ p most side d'):GI K H lc lf lp xs p most side i jc H' FS PS fs ps d':=
 ⟨g.sm,g.c,g.f,g.pl,g.F,g.P,g.vN,g.uh,h,ok,g.ij⟩
theorem GI.next(g:GI K H lc lf lp xs p most side i hd H' FS PS fs ps d):GI K H lc lf lp xs p most side (i+1) hd H' FS PS fs ps d:=
 ⟨g.sm,g.c,g.f,g.pl,g.F,g.P,g.vN,g.uh,g.here,g.ok,Nat.le_succ_of_le g.ij⟩
def af0(K:Frag):List V->Hp->VK->Prop:=λxs H Q=>∃p ys,xs=[.ref p]/\(dQ K H p ys\/bq K H p ys)/\Q (.int ys.length) H
def GV(K:Frag)(t:TE):TE:=pP (af0 K) (bz t cy)
def Xm(K:Frag):TT:=pL (gH (cO j6 (bg 10) (tC (.int 0)))) (pL (gH (cO Np (GV K (bg 5)) (tC (.int 3)))) (gH (cO Np (cO MY (tC (.int 2)) (GV K (eJ K 6 0))) (bg 2))))
def Xn(K:Frag):TT:=pL (gH (cO j6 (bg 10) (tC (.int 1)))) (gH (cO xI (GV K (bg 5)) (tC (.int 0))))
def GX(K:Frag)(i j:Nat):TE:=AA K "list" yh (bg i) (bz (bg j) cy)
def GY(K:Frag):TE:=jL (zL K) [] E0 (bz (bg 9) (bz (bg 1) cy))
def NO(K:Frag):TE:=jL (NM K) [] E0 (bz (bg 11) (bz (bg 2) (bz (bg 3) cy)))
def Xo(K:Frag):TE:=jL (NF K) [] E0 (bz (bg 9) (bz (cO (sE K) (bg 5) (Dp (rU λi=>.int (-i)) (tC (.int 1)))) (bz (bg 6) cy)))
def NP(K:Frag):TE:=jL (Nu K) [] E0 (bz (bg 9) (bz (bg 1) (bz (bg 6) cy)))
def NQ(K:Frag):TS:=cF (wg (GX K 5 6)) (cF (dM (GY K) (cG 6)) xZ)
def NR(K:Frag):TS:=cF (dM (Xo K) (cG 11)) (eA (tB (NO K)) (cF (wg (DA K "list" DC (bg 5))) (cF (dM (bg 11) (cG 6)) xZ)) gG)
def G9(K:Frag):TS:=cF (wg (GX K 4 6)) (dM (GY K) (cG 11))
def He(K:Frag):TS:=cF (dM (jL Ci [] E0 (bz (bg 8) (bz (bg 7) cy))) (cG 9)) (cF (dM (tY 9 (tC (.int 10))) (cG 10)) (cF (eA (Xm K) (NQ K) gG) (cF (eA (Xn K) (NR K) gG) (cF (dM (NP K) (cG 11)) (cF (eA (HE (tB (NO K))) (G9 K) gG) (dM (bg 11) (cG 6)))))))
theorem Xp{u:TS}(h:te σ H λ_ H1=>u D σ H1):cF (wg te) u D σ H:=h
theorem NS{t:TE}{v:Addr}(h:∀H',aW H H'->∀R:VK,R (.ref v) H'->t σ H' R)(hs:dQ K H v ys\/bq K H v ys):fe (GV K t) σ H (ys.length:Int):=λH' s _ q=>h H' s _ ⟨v,ys,rfl,hs.elim (λz=>.inl (s.seq z)) (λz=>.inr (s.bc z)),q⟩
theorem af1{sc:V}{kI cI:Int}{s9 c9 dH:Option V}(k0:0<=kI)(k1:kI<=100)(p2:2<=p)(dX:p<=97)(m3:3<=most)(Hf:most<=90)(d2:2<=side)(Hg:side<=90)(hi:i<=100)(nf:H lf=none)(np:H lp=none)(NT:lc≠lf)(Hh:lc≠lp)(xJ:lf≠lp)
  (g:GI K H lc lf lp xs p most side i hd H' FS PS fs ps d)
  (Gv:St->Hp->Prop) (Hi:∀jc H2 NU lE xU NV d' s7 s8 s9 c9 dH,GI K H lc lf lp xs p most side (i+1) jc H2 NU lE xU NV d'->Gv [some sc,some (.int p),some (.int most),some (.int side),some (.ref lf),some (.ref lp),some (.ref jc),s7,s8,s9,c9,dH] H2)
  (qn:∀σ H,Gv σ H->D.nx σ H) (qc:∀σ H,Gv σ H->D.ct σ H) :
  He K D [some sc,some (.int p),some (.int most),some (.int side),some (.ref lf),some (.ref lp),some (.ref hd),some (.int kI),some (.int cI),s9,c9,dH] H':=by
 have MD:=Es;unfold He;refine fu ⟨_,rf,_,rf,cI,kI,rf,k0,k1,λa H1 s1 ui g1=>?_⟩;have aH:H a=none:=by
  cases e:H a with
  |none=>rfl
  |some o=>rw[g.sm _ _ e]at ui;cases ui
 have CC:a≠lc:=λz=>by rw[z,g.c]at ui;cases ui
 have vO:a≠lf:=λz=>by rw[z,g.f]at ui;cases ui
 have vP:a≠lp:=λz=>by rw[z,g.pl]at ui;cases ui
 replace g:=g.mono s1;refine fu ?_;refine pq rf (λR h=>h) g1 (by lia) (by decide) (by decide) λst H2 j0 j1 s2 g2=>?_;replace g:=g.de aH CC vO vP g1 s2;have g2:Hand H2 a 1:=g2;clear g1 s1 s2 ui;obtain⟨kg,cB,hl,hr,Xq⟩:=g.ok;have eF:=g.F.len;have eP:=g.P.len;have fw:=g.ij;obtain⟨aw,zg,vi⟩:=g.here;refine lH ?_;refine uf (ue (i:=st) (j:=0) (eE rf) jR) (uf (Xe (i:=(PS.length:Int)) (j:=3) (NS (v:=lp) (λ_ _ _ q=>⟨_,rf,q⟩) (.inl (.of g.pl))) jR) (Xe (i:=2*(d.aX.length:Int)) (j:=most) (MW jR (NS (v:=aw) (λH3 s3 R q=>⟨_,rf,hd,_,0,_,rf,rf,s3.bc zg,bX (j:=0) rf,q⟩) (.inr vi)) (by decide)) (eE rf))) H2 (.refl _) _ (oE (λ_=>?_) λ_=>?_)
 ·
  unfold NQ;refine Xp ?_;refine⟨_,rf,.inl ⟨rf,_,.of g.pl⟩,_,rf,lp,PS,_,rf,rf,g.pl,by lia,?_⟩;have gp:=g.push np Hh xJ;have g3:Hand (upd H2 lp (.lst (PS++[.ref hd]))) a 1:=let ⟨x0,x1,x2,e,r⟩:=g2;⟨x0,x1,x2,by rw[bR vP];exact e,r⟩;refine fu ?_;refine⟨_,rf,_,rf,a,1,p,rf,g3,by decide,p2,dX,λv e H3 n3 ja el Xi Xj s3 g4 _ hv=>?_⟩;exact qc _ _ (Hi _ _ _ _ _ _ _ _ _ _ _ _ ((gp.de aH CC vO vP g3 s3).new hv ⟨ja,by lia,by lia,by lia,Drw.pw d2 ja el⟩))
 have eW:∀(dH:Option V)(H3:Hp)(n3:Nat),GI K H lc lf lp xs p most side i hd H3 FS PS fs ps d->Hand H3 a n3->n3<=10->cF (dM (NP K) (cG 11)) (cF (eA (HE (tB (NO K))) (G9 K) gG) (dM (bg 11) (cG 6))) D
   [some sc,some (.int p),some (.int most),some (.int side),some (.ref lf),some (.ref lp),some (.ref hd),some (.int kI),some (.int cI),some (.ref a),some (.int st),dH] H3:=by
  intro dH H3 n3 g h3 hn3;refine fu ⟨_,rf,_,rf,_,rf,a,hd,n3,p,d,rf,h3,by lia,p2,dX,g.here,kg,by lia,by lia,by lia,λv e H4 n4 ja NW el s4 h4 hn4 hv=>?_⟩;replace g:=g.de aH CC vO vP h3 s4;refine lH ⟨_,rf,_,rf,_,rf,v,e,most,side,rf,hv,_,rf,?_⟩;refine oE (λ_=>?_) λc=>?_
  ·unfold G9;refine⟨_,rf,.inl ⟨rf,_,.of g.f⟩,_,rf,lf,FS,_,rf,rf,g.f,by lia,?_⟩;have gp:=g.tell nf NT xJ.symm;have h5:Hand (upd H4 lf (.lst (FS++[.ref hd]))) a n4:=let ⟨x0,x1,x2,e,r⟩:=h4;⟨x0,x1,x2,by rw[bR vO];exact e,r⟩;refine⟨_,rf,_,rf,a,n4,p,rf,h5,by lia,p2,dX,λv' e' H5 n5 Xr el' Xi Xj s5 g5 _ hv'=>?_⟩;refine⟨_,rf,?_⟩;exact qn _ _ (Hi _ _ _ _ _ _ _ _ _ _ _ _ ((gp.de aH CC vO vP h5 s5).new hv' ⟨Xr,by lia,by lia,by lia,Drw.pw d2 Xr el'⟩))
  ·refine⟨_,rf,?_⟩;simp only[Bool.not_eq_false',gM,aJ]at c;exact qn _ _ (Hi _ _ _ _ _ _ _ _ _ _ _ _ (g.next.new hv ⟨ja,c.1,c.2.1,c.2.2,NW side d2 Xq hl hr⟩))
 refine lH ?_;refine uf (ue (i:=st) (j:=1) (eE rf) jR) (Nq (i:=(PS.length:Int)) (j:=0) (NS (v:=lp) (λ_ _ _ q=>⟨_,rf,q⟩) (.inl (.of g.pl))) jR) H2 (.refl _) _ (oE (λc=>?_) λ_=>?_)
 ·simp only[gM,aJ]at c;obtain⟨US,u,es,e,rfl,rfl,gU,gu⟩:=g.P.last (by lia);obtain⟨uwf,ags,ul,ur,af2⟩:=g.uh e (dZ _ cQ);unfold NR;refine fu ⟨_,rf,_,rf,1,rf,lp,_,-1,_,rf,rf,.of g.pl,Pl _ _,_,rf,a,u,hd,1,p,e,d,rf,g2,by decide,gu,g.here,uwf,kg,by lia,by lia,λv e' H3 ja NW el s3 h3 hv=>?_⟩;have gU3:=gU.de g2 s3;have g3:=g.de aH CC vO vP g2 s3;refine⟨_,rf,_,rf,_,rf,v,e',most,side,rf,hv,_,rf,?_⟩;refine oE (λc'=>?_) λ_=>?_
  ·simp only[gM,aJ]at c';refine Xp ?_;refine⟨_,rf,.inl ⟨rf,_,.of g3.pl⟩,lp,_,.ref u,rf,rf,g3.pl,by simp,?_⟩;rw[List.dropLast_concat];have gp:=g3.pop gU3 np Hh xJ;refine fu ?_;refine⟨_,rf,?_⟩;exact qc _ _ (Hi _ _ _ _ _ _ _ _ _ _ _ _ (gp.new (hv.tup (dF.lst g3.pl)) ⟨ja,c'.1,c'.2.1,c'.2.2,NW side af2 Xq ul ur⟩))
  ·exact eW _ H3 _ g3 h3 (by decide)
 ·exact eW _ H2 _ g g2 (by decide)
end
def Xs(K:Frag):Sp:=λvs H Q _=>∃(s:Addr)(ns:List Int)(p most side:Int),vs=[.ref s,.int p,.int most,.int side]/\dQ K H s (ns.map V.int)/\ns.length<=63/\2<=p/\p<=97/\3<=most/\most<=90/\2<=side/\side<=90/\
 ∀v VS ds H',aW H H'->H' v=some (.lst VS)->iB K H' VS ds->(∀d∈ds,zQ p most side d)->ds.length<=70->1<=ds.length->Q (.ref v) H'
theorem nH:dy ["script","p","most","side","found","pile","here","k","cell","hand","style","more"] ["script","p","most","side"] (cu JY):=dI rfl rfl rfl (by decide +kernel) rfl
def af3(K:Frag):List V->Hp->VK->Prop:=λxs H Q=>∃p ns,xs=[.ref p]/\dQ K H p (List.map V.int ns)/\Q (.int ns.sum) H
def NX(K:Frag):TE:=jL (zL K) [] E0 (bz (jL Ci [] E0 (bz (pP (af3 K) (bz (bg 0) cy)) (bz (tC (.int 99)) cy))) (bz (bg 1) cy))
def NY(K:Frag):TS:=wm (DT K true (bz (Pg (Ib K) (bg 0) Pe (Pf (tC (.int 63)))) cy)) (yC K 7 8) (He K)
def CF:TE:=cO uG (cO uG (bg 4) (bg 5)) (gI (bz (bg 6) cy))
def Hj(K:Frag):TS:=cF (dM (gI cy) (cG 4)) (cF (dM (gI cy) (cG 5)) (cF (dM (NX K) (cG 6)) (cF (NY K) (fQ CF))))
theorem af4{t u:TS}(h:t { D with nx:=u D } σ H):cF t u D σ H:=h
theorem af5{sc:Addr}{ns:List Int}{most side:Int}(hS:dQ K H sc (ns.map V.int))(cB:ns.length<=63)(p2:2<=p)(dX:p<=97)(m3:3<=most)(Hf:most<=90)(d2:2<=side)(Hg:side<=90)
  (q:∀v VS ds H',aW H H'->H' v=some (.lst VS)->iB K H' VS ds->(∀d∈ds,zQ p most side d)->ds.length<=70->1<=ds.length->D.rt (.ref v) H') :
  Hj K D [some (.ref sc),some (.int p),some (.int most),some (.int side),none,none,none,none,none,none,none,none] H:=by
 have MD:=Es;unfold Hj;refine fu ⟨by show 0<=sizeLine;decide,λlf vB=>?_⟩;refine fu ⟨by show 0<=sizeLine;decide,λlp jh=>?_⟩;have xJ:lf≠lp:=λz=>by rw[z,bb]at jh;cases jh
 have np0:H lp=none:=by rw[bR (Ne.symm xJ)]at jh;exact jh
 have s2:aW H (upd (upd H lf (.lst [])) lp (.lst [])):=(aW.upd vB).trans (.upd jh);have gf:(upd (upd H lf (.lst [])) lp (.lst [])) lf=some (.lst []):=by rw[bR xJ];exact bb
 have gp:(upd (upd H lf (.lst [])) lp (.lst [])) lp=some (.lst []):=bb;generalize upd (upd H lf (.lst [])) lp (.lst [])=H2 at s2 gf gp |-;refine fu ?_;unfold NX;refine⟨_,rf,sc,ns,rf,s2.seq hS,ns.sum,99,rf,by decide,by decide,λa H3 s3 ha g3=>⟨_,rf,a,0,p,rf,g3,by decide,p2,dX,λv d H4 n4 jI dl dll dlr s4 g4 _ hv=>?_⟩⟩;have vO:lf≠a:=λz=>by rw[<- z,gf]at ha;cases ha
 have vP:lp≠a:=λz=>by rw[<- z,gp]at ha;cases ha
 have jj:H a=none:=by
  cases e:H a with
  |none=>rfl
  |some o=>rw[s2 _ _ e]at ha;cases ha
 have sA:aW H H4:=λb o e=>s4 b o ((s2.trans s3) b o e) (fj e jj);have Xt:=s4 _ _ (s3 _ _ gf) vO;have Xu:=s4 _ _ (s3 _ _ gp) vP;refine af4 ?_;unfold NY wm DT;refine⟨_,rf,63,rf,sc,_,rf,sA.seq hS,λlc nh=>?_⟩;obtain⟨cs,x9,Ti⟩:∃cs:List Int,iR (ns.map V.int) none (some 63)=cs.map V.int/\cs.length<=63:=by
  refine⟨_,by unfold iR;rw[<- List.map_drop,<- List.map_take],?_⟩;rw[gy,jW];lia
 rw[x9];have q4:aW H4 (upd H4 lc (.lst (cs.map V.int))):=.upd nh;have gC:(upd H4 lc (.lst (cs.map V.int))) lc=some (.lst (cs.map V.int)):=bb;have NT:lc≠lf:=λz=>by rw[z,Xt]at nh;cases nh
 have Hh:lc≠lp:=λz=>by rw[z,Xu]at nh;cases nh
 generalize upd H4 lc (.lst (cs.map V.int))=H5 at q4 gC |-;have G0:GI K H lc lf lp (cs.map V.int) p most side 0 v H5 [] [] [] [] d:=
  ⟨sA.trans q4,gC,q4 _ _ Xt,q4 _ _ Xu,.nil,.nil,λe he=>(nomatch he),λe he=>(nomatch he),hv.mono q4,⟨jI,by lia,by lia,by lia,Drw.pw d2 jI dl⟩,cn _⟩
 refine⟨lc,rf,⟨_,.of gC⟩,abg (b:=true) (xs:=cs.map V.int) (λi σ H'=>∃hd FS PS fs ps d s7 s8 s9 c9 dH,σ=[some (.ref sc),some (.int p),some (.int most),some (.int side),some (.ref lf),some (.ref lp),some (.ref hd),s7,s8,s9,c9,dH]/\GI K H lc lf lp (cs.map V.int) p most side i hd H' FS PS fs ps d) ⟨v,[],[],[],[],d,_,_,_,_,_,rf,G0⟩ (λi σ H' ⟨_,_,_,_,_,_,_,_,_,_,_,_,g⟩=>.of g.c) (λi σ H1 H2 eT ⟨hd,FS,PS,fs,ps,d,s7,s8,s9,c9,dH,e,g⟩=>⟨hd,FS,PS,fs,ps,d,s7,s8,s9,c9,dH,e,g.mono eT⟩) ?_ ?_⟩
 ·rintro i x σ H6 hx ⟨hd,FS,PS,fs,ps,d,s7,s8,s9,c9,dH,rfl,g⟩;have hi:i<cs.length:=by
   have:=(dC.mp hx).1
   rwa[bu]at this
  rw[dG,cP hi]at hx;cases hx;exact af1 (by lia) (by lia) p2 dX m3 Hf d2 Hg (by lia) vB np0 NT Hh xJ g (λσ H'=>∃hd FS PS fs ps d s7 s8 s9 c9 dH,σ=[some (.ref sc),some (.int p),some (.int most),some (.int side),some (.ref lf),some (.ref lp),some (.ref hd),s7,s8,s9,c9,dH]/\GI K H lc lf lp (cs.map V.int) p most side (i+1) hd H' FS PS fs ps d)
   (λjc H2 NU lE xU NV d' s7 s8 s9 c9 dH g'=>⟨jc,NU,lE,xU,NV,d',s7,s8,s9,c9,dH,rfl,g'⟩) (λ_ _ h=>h) (λ_ _ h=>h)
 ·rintro σ H6 ⟨hd,FS,PS,fs,ps,d,s7,s8,s9,c9,dH,rfl,g⟩;have eF:=g.F.len;have eP:=g.P.len;have fw:=g.ij;rw[bu]at fw;show CF _ _ _;unfold CF;refine⟨_,rf,_,rf,lf,lp,FS,PS,rf,rf,g.f,g.pl,by lia,λl1 nq=>⟨_,rf,by show 1<=sizeLine;decide,λl2 jm=>?_⟩⟩;have t1:=aW.upd (o:=.lst (FS++PS)) nq;have t2:=aW.upd (o:=.lst [.ref hd]) jm;refine⟨l1,l2,_,_,rf,rf,t2 _ _ bb,bb,by rw[cm];show _+1<=_;lia,λl3 FR=>?_⟩;have t3:=aW.upd (o:=.lst (FS++PS++[.ref hd])) FR;have t:=t1.trans (t2.trans t3);refine q l3 _ (fs++ps++[d]) _ (g.sm.trans t) bb (((g.F.tup t.tup).append (g.P.tup t.tup)).append (.cons (g.here.mono t) .nil)) (λe he=>?_) (by rw[cm,cm];show _+_+1<=_;lia) (by rw[cm];show 1<=_+1;lia);rcases(cN.mp he)with z|z
  ·rcases(cN.mp z)with z|z
   ·exact g.vN e z
   ·exact g.uh e z
  ·rw[cA.mp z];exact g.ok
theorem af6{fH fB fJ fF fN:Addr}{CG vx BW nj Xv:FuncData}(F:cJ K "_law_grown" "_law_grown" JY f fd)(T:Txt mg)
  (GH:cc P w K mg base cb 1 fH CG ["cell","k"] Ci) (kH:Kp K fH) (bH:Binds K CG ["cell","k"] []) (mH:Mg mg "_law_hand" fH)
  (GD:cc P w K mg base cb 1 fD iI ["hand","limit"] nE) (kD:Kp K fD) (bD:Binds K iI ["hand","limit"] []) (mD:Mg mg "_law_draw" fD)
  (GB:cc P w K mg base cb 2 fB vx ["hand","p"] (zL K)) (kB:Kp K fB) (bB:Binds K vx ["hand","p"] []) (mB:Mg mg "_law_box" fB)
  (GJ:cc P w K mg base cb 2 fJ BW ["hand","one","other"] (NF K)) (kJ:Kp K fJ) (bJ:Binds K BW ["hand","one","other"] []) (mJ:Mg mg "_law_joined" fJ)
  (GF:cc P w K mg base cb 1 fF nj ["drawing","most","side"] (NM K)) (kF:Kp K fF) (bF:Binds K nj ["drawing","most","side"] []) (mF:Mg mg "_law_fits" fF)
  (GN:cc P w K mg base cb 3 fN Xv ["hand","p","here"] (Nu K)) (kN:Kp K fN) (bN:Binds K Xv ["hand","p","here"] []) (mN:Mg mg "_law_next" fN) :
  cc P w K mg base cb 4 f fd ["script","p","most","side"] (Xs K):=by
 refine F.ok nH (λvs H Q E h=>?_) (λcz A outer s H vs Q E hr h=>?_)
 ·obtain⟨sc,ns,p,most,side,rfl,_⟩:=h;rfl
 ·obtain⟨sc,ns,p,most,side,rfl,hS,cB,p2,dX,m3,Hf,d2,Hg,q⟩:=h;have iw:eO 1 _:=hr.mono (by decide);have nC:eO 2 _:=hr.mono (by decide);refine⟨Hj K,?_,?_⟩
  ·unfold Hj;refine bo ?_ ?_
   ·exact cv (i:=4) nH.nd rf (.inl rf) (gT aZ)
   refine bo ?_ ?_
   ·exact cv (i:=5) nH.nd rf (.inl rf) (gT aZ)
   refine bo ?_ ?_
   ·exact cv (i:=6) (te:=NX K) nH.nd rf (.inl rf) (cK GB nC rf mB kB bB .nil cL (aV (cK GH iw rf mH kH bH .nil cL (aV (eX (AR K rf rf) rf T.sum AY (aV (pv 0) aZ)) (aV ba aZ))) (aV (pv 1) aZ)))
   refine bo ?_ ?_
   ·unfold NY;refine jd jw rf ?_ ?_ ?_
    ·exact D0 K rf true rf T.enumerate (aV (nT (DY K rf) (pv 0) mQ (lT ba)) aZ)
    ·exact nZ (n:=2) K rf rf (eZ (cH (i:=7) nH.nd rf (.inl rf)) (eZ (cH (i:=8) nH.nd rf (.inl rf)) ko))
    ·unfold He;refine bo ?_ ?_
     ·exact cv (i:=9) nH.nd rf (.inl rf) (cK GH iw rf mH kH bH .nil cL (aV (pv 8) (aV (pv 7) aZ)))
     refine bo ?_ ?_
     ·exact cv (i:=10) nH.nd rf (.inl rf) (cK GD iw rf mD kD bD .nil cL (aV (pv 9) (aV ba aZ)))
     refine bo ?_ ?_
     ·refine dj ?_ ?_ dz
      ·unfold Xm;refine PW.pt (qK ?_ (qK ?_ (xX ?_)))
       ·exact cS eB (pv 10) ba (cM _)
       ·exact cS Ds (eX (iM K rf) rf T.len iN (aV (pv 5) aZ)) ba (cM _)
       ·exact cS Ds (bQ lQ ba (eX (iM K rf) rf T.len iN (aV (br (cj K rf) (pv 6) ba) aZ))) (pv 2) (cM _)
      ·unfold NQ;refine bo ?_ ?_
       ·exact oJ (te:=GX K 5 6) (qQ oH uy uz qR (pv 5) (aV (pv 6) aZ))
       refine bo ?_ ?_
       ·exact cv (i:=6) (te:=GY K) nH.nd rf (.inl rf) (cK GB nC rf mB kB bB .nil cL (aV (pv 9) (aV (pv 1) aZ)))
       exact bY HG
     refine bo ?_ ?_
     ·refine dj ?_ ?_ dz
      ·unfold Xn;refine PW.pt (qK ?_ (xX ?_))
       ·exact cS eB (pv 10) ba (cM _)
       ·exact cS wo (eX (iM K rf) rf T.len iN (aV (pv 5) aZ)) ba (cM _)
      ·unfold NR;refine bo ?_ ?_
       ·exact cv (i:=11) (te:=Xo K) nH.nd rf (.inl rf) (cK GJ nC rf mJ kJ bJ .nil cL (aV (pv 9) (aV (br (eY K rf) (pv 5) (nN nO ba)) (aV (pv 6) aZ))))
       refine bY ?_;refine dj ?_ ?_ dz
       ·exact pK (cK GF iw rf mF kF bF .nil cL (aV (pv 11) (aV (pv 2) (aV (pv 3) aZ))))
       ·refine bo ?_ ?_
        ·exact oJ (RH K rf (pv 5))
        refine bo ?_ ?_
        ·exact cv (i:=6) nH.nd rf (.inl rf) (pv 11)
        exact bY HG
     refine bo ?_ ?_
     ·exact cv (i:=11) (te:=NP K) nH.nd rf (.inl rf) (cK GN hr rf mN kN bN .nil cL (aV (pv 9) (aV (pv 1) (aV (pv 6) aZ))))
     refine bo ?_ ?_
     ·refine dj ?_ ?_ dz
      ·exact we (pK (cK GF iw rf mF kF bF .nil cL (aV (pv 11) (aV (pv 2) (aV (pv 3) aZ)))))
      ·unfold G9;refine bo ?_ ?_
       ·exact oJ (te:=GX K 4 6) (qQ oH uy uz qR (pv 4) (aV (pv 6) aZ))
       refine bY ?_;exact cv (i:=11) (te:=GY K) nH.nd rf (.inl rf) (cK GB nC rf mB kB bB .nil cL (aV (pv 9) (aV (pv 1) aZ)))
     refine bY ?_;exact cv (i:=6) nH.nd rf (.inl rf) (pv 11)
   refine bY ?_;refine cC (te:=CF) ?_;unfold CF;exact bQ mR (bQ mR (pv 4) (pv 5)) (gT (aV (pv 6) aZ))
  ·exact af5 hS cB p2 dX m3 Hf d2 Hg q
theorem af7{K:Frag}{cp:St}{H1:Hp}(Pv:Nat->Hp->List V->Prop)(hz:xs.length<=sizeLine)(h0:Pv 0 H1 [])(cB:∀i H zs,Pv i H zs->zs.length<=i)(hq:∀i H zs,Pv i H zs->dQ K H a xs)
  (step:∀i x H zs,xs[i]?=some x->Pv i H zs->te (some x::cp) H λv H5=>tf cp (Pv (i+1)) (some x::cp) H5 (zs++[v])) (done:∀H zs,Pv xs.length H zs->∀p,H p=none->Q (.ref p) (upd H p (.lst zs))) :
  ∃W:Nat->Nat->St->Hp->List V->Prop,(∃m,W 0 m (List.replicate 1 none++cp) H1 [])/\mV (sj K a) (cG 0) uO te Q W:=by
 refine⟨λi m σ H zs=>m=xs.length-i/\i<=xs.length/\tf cp (Pv i) σ H zs,⟨xs.length,by simp,jv _,⟨_,by simp,rf⟩,h0⟩,?_⟩;rintro i m σ H zs ⟨rfl,hi,⟨o,ho,rfl⟩,pv⟩;have hl:=cB _ _ _ pv;have g:=hq _ _ _ pv;by_cases cE:i<xs.length
 ·refine .inr ⟨⟨xs,xs[i],g,cP cE⟩,by lia,tf cp (Pv (i+1)),λσ2 H2 yz q=>⟨xs.length-(i+1),by lia,rf,cE,q⟩,λx H2 y=>?_⟩;obtain⟨z,rfl⟩:=yB ho;obtain⟨rfl,y⟩:=y;exact step i x _ zs (y xs g) pv
 ·have e:i=xs.length:=by lia
  subst e;exact .inl ⟨⟨xs,g,cn _⟩,by lia,done H zs pv⟩
theorem Xw(xs:List V)(k:Nat):iR xs none (some (k:Int))=xs.take k:=by
 unfold iR;rw[HT.wu,HT.Aw,List.drop_zero,Nat.sub_zero];by_cases h:k<=xs.length
 ·rw[Ab h]
 ·rw[Nat.min_eq_right (by lia),iU,pz (by lia)]
theorem Xx(xs:List V)(k:Nat):iR xs (some (k:Int)) none=xs.drop k:=by
 unfold iR;rw[HT.wu,HT.Aw,pz (by simp)];by_cases h:k<=xs.length
 ·rw[Ab h]
 ·rw[Nat.min_eq_right (by lia),List.drop_length,List.drop_eq_nil_of_le (by lia)]
theorem rB.mono{H H':Hp}{t:Addr}{p:Int}{d:Drw}(h:rB H t p d)(s:aW H H'):rB H' t p d:=by
 obtain⟨ol,hl,dn,kvs,aY,D,g1,g2,g3,g4,rC,hE⟩:=h;exact⟨ol,hl,dn,kvs,aY,D,s _ _ g1,s _ _ g2,s _ _ g3,s _ _ g4,rC.mono s,hE⟩
theorem rB.off{H':Hp}{ha t:Addr}{o:Obj}{u:HO}(hf:H ha=some (.cT o u))(hk:∀b o,b≠ha->H b=some o->H' b=some o)(h:rB H t p d):rB (S21.del ha H') t p d:=by
 obtain⟨ol,hl,dn,kvs,aY,D,g1,g2,g3,g4,rC,hE⟩:=h;have k:∀{b:Addr}{v:HO},H b=some v->(∀o u,v≠.cT o u)->S21.del ha H' b=some v:=λ{b v} g hn=>by
  have nb:b≠ha:=λz=>by rw[z,hf]at g;exact hn _ _ (dq g).symm
  rw[om nb];exact hk b v nb g
 exact⟨ol,hl,dn,kvs,aY,D,k g1 λ_ _ z=>(nomatch z),k g2 λ_ _ z=>(nomatch z),k g3 λ_ _ z=>(nomatch z),k g4 λ_ _ z=>(nomatch z),⟨rC.1,λi kv t e1 e2=>let ⟨a,e,R,g,r⟩:=rC.2 i kv t e1 e2;⟨a,e,R,k g λ_ _ z=>(nomatch z),r⟩⟩,hE⟩
structure qu(K:Frag)(ha vl aw:Addr)(VS:List V)(ds:List Drw)(d:Drw)(n:Nat)(H:Hp):Prop where
 nv:vl≠ha
 gl:H vl=some (.lst VS)
 dr:iB K H VS ds
 hand:Hand H ha n
 w:bq K H aw d.aX
section
variable{ha vl aw rl:Addr}{VS:List V}{ds:List Drw}{d:Drw}{n n':Nat}{r r':List Int}{H H':Hp}
theorem qu.mono(h:qu K ha vl aw VS ds d n H)(s:aW H H'):qu K ha vl aw VS ds d n H':=⟨h.nv,s _ _ h.gl,h.dr.tup s.tup,h.hand.mono s,s.bc h.w⟩
theorem qu.de(h:qu K ha vl aw VS ds d n H)(s:cw ha H H')(h':Hand H' ha n'):qu K ha vl aw VS ds d n' H':=⟨h.nv,s _ _ h.gl h.nv,h.dr.de h.hand s,h',cw.bc s h.hand h.w⟩
structure nI(K:Frag)(ha vl aw rl:Addr)(VS:List V)(ds:List Drw)(d:Drw)(n:Nat)(r:List Int)(H:Hp):Prop where
 nr:rl≠ha
 g:H rl=some (.lst (r.map V.int))
 l:qu K ha vl aw VS ds d n (S21.del rl H)
theorem nI.full(h:nI K ha vl aw rl VS ds d n r H):qu K ha vl aw VS ds d n H:=h.l.mono rp
theorem nI.mono(h:nI K ha vl aw rl VS ds d n r H)(s:aW H H'):nI K ha vl aw rl VS ds d n r H':=⟨h.nr,s _ _ h.g,h.l.mono (aW.del s)⟩
theorem nI.de(h:nI K ha vl aw rl VS ds d n r H)(s:cw ha H H')(h':Hand H' ha n'):nI K ha vl aw rl VS ds d n' r H':=
 ⟨h.nr,s _ _ h.g h.nr,h.l.de (λb o e nb=>by rw[om (lg e).1];exact s b o (lg e).2 nb) (let ⟨x0,x1,x2,e,q⟩:=h';⟨x0,x1,x2,by rw[om h.nr.symm];exact e,q⟩)⟩
theorem nI.wr(h:nI K ha vl aw rl VS ds d n r H):nI K ha vl aw rl VS ds d n r' (upd H rl (.lst (r'.map V.int))):=by
 refine⟨h.nr,bb,?_⟩;rw[xj];exact h.l
theorem qu.new(h:qu K ha vl aw VS ds d n H)(hr:H rl=none):nI K ha vl aw rl VS ds d n r (upd H rl (.lst (r.map V.int))):=by
 refine⟨xC h.hand hr,bb,h.mono λb o e=>?_⟩;have hb:b≠rl:=λz=>by rw[z,hr]at e;cases e
 rw[om hb,bR hb];exact e
end
def Hk(K:Frag):Sp:=λvs H Q _=>∃(a:Addr)(ns:List Int),vs=[.ref a]/\dQ K H a (ns.map V.int)/\ns.length<=63/\∀H',Q (.bl true) H'
noncomputable abbrev Xy:List Str:=["script","hand","p","words","left","right","system","row","numbers","both","at"]
theorem px:dy Xy ["script"] (cu qZ):=dI rfl rfl rfl (by decide +kernel) rfl
theorem af8:(["k","hand","p"]:List Str).Nodup:=by decide +kernel
theorem af9(hd:d.wf p):ck d<=4*d.aX.length:=by
 have h1:=ox (N:=0) hd;have h2:=(rA (N:=0) hd).1;have h3:=qh (N:=0) hd;lia
theorem aga{fH fP fG fS fC fO fA fU:Addr}{CG qe Xz jP tE XA iO XB:FuncData}(F:cJ K "law" "law" qZ f fd)(T:Txt mg)
  (GH:cc P w K mg base cb 1 fH CG ["cell","k"] Ci) (kH:Kp K fH) (bH:Binds K CG ["cell","k"] []) (mH:Mg mg "_law_hand" fH)
  (GP:cc P w K mg base cb 2 fP qe ["hand"] VQ) (kP:Kp K fP) (bP:Binds K qe ["hand"] []) (mP:Mg mg "_law_prime" fP)
  (GG:cc P w K mg base cb 4 fG Xz ["script","p","most","side"] (Xs K)) (kG:Kp K fG) (bG:Binds K Xz ["script","p","most","side"] []) (mG:Mg mg "_law_grown" fG)
  (GD:cc P w K mg base cb 1 fD iI ["hand","limit"] nE) (kD:Kp K fD) (bD:Binds K iI ["hand","limit"] []) (mD:Mg mg "_law_draw" fD)
  (GS:cc P w K mg base cb 3 fS jP ["p","words"] (Uk K)) (kS:Kp K fS) (bS:Binds K jP ["p","words"] []) (mS:Mg mg "_law_system" fS)
  (GC:cc P w K mg base cb 6 fC tE ["hand","words","left","right","due"] (WJ K)) (kC:Kp K fC) (bC:Binds K tE ["hand","words","left","right","due"] []) (mC:Mg mg "_law_counted" fC)
  (GO:cc P w K mg base cb 2 fO XA ["p","system","hand"] (WO K)) (kO:Kp K fO) (bO:Binds K XA ["p","system","hand"] []) (mO:Mg mg "_law_solution" fO)
  (GA:cc P w K mg base cb 9 fA iO ["p","words","row","numbers"] (Gp K)) (kA:Kp K fA) (bA:Binds K iO ["p","words","row","numbers"] []) (mA:Mg mg "_law_asked" fA)
  (GU:cc P w K mg base cb 9 fU XB ["p","words","row","numbers"] (Gp K)) (kU:Kp K fU) (bU:Binds K XB ["p","words","row","numbers"] []) (mU:Mg mg "_law_unlike" fU) :
  cc P w K mg base cb 10 f fd ["script"] (Hk K):=by
 refine F.ok px (λvs H Q E h=>by obtain⟨a,ns,rfl,_⟩:=h;rfl) (λcz A outer s H vs Q E hr h=>?_);obtain⟨a,ns,rfl,hS,cB,q⟩:=h;have iw:eO 1 _:=hr.mono (by decide);have nC:eO 2 _:=hr.mono (by decide);have Nf:eO 3 _:=hr.mono (by decide);have Cd:eO 4 _:=hr.mono (by decide);have hr6:eO 6 _:=hr.mono (by decide);have zz:=i5;refine⟨_,bo (cv (i:=1) px.nd rf (Or.inr rf) (cK GH iw rf mH kH bH .nil cL (aV (eX (AR K rf rf) rf T.sum AY (aV (pv 0) aZ)) (aV ba aZ)))) (bo (cv (i:=2) px.nd rf (Or.inr rf) (cK GP nC rf mP kP bP .nil cL (aV (pv 1) aZ))) (bo (jd jw rf (jo K rf (cK GG Cd rf mG kG bG .nil cL (aV (pv 0) (aV (pv 2) (aV ba (aV ba aZ)))))) (nZ (n:=3) K rf rf (eZ (cH (i:=3) px.nd rf (.inl rf)) (eZ (cH (i:=4) px.nd rf (.inl rf)) (eZ (cH (i:=5) px.nd rf (.inl rf)) ko)))) (bo (cv (i:=6) px.nd rf (.inl rf) (afI (cK GS Nf rf mS kS bS .nil cL (aV (pv 2) (aV (pv 3) aZ))))) (bo (dj (we (pK (cK GC hr6 rf mC kC bC .nil cL (aV (pv 1) (aV (pv 3) (aV (pv 4) (aV (pv 5) (aV (eX (iM K rf) rf T.len iN (aV (br (eY K rf) (pv 6) ba) aZ)) aZ)))))))) (bY (cC pI)) dz) (bo (my (cK GO nC rf mO kO bO .nil cL (aV (pv 2) (aV (pv 6) (aV (pv 1) aZ)))) (nZ (n:=2) K rf rf (eZ (cH (i:=7) px.nd rf (.inl rf)) (eZ (cH (i:=8) px.nd rf (.inl rf)) ko)))) (bo (dj (PW.pt (wd (we (pK (cK GA hr rf mA kA bA .nil cL (aV (pv 2) (aV (pv 3) (aV (pv 7) (aV (pv 8) aZ))))))) (xY (we (pK (cK GU hr rf mU kU bU .nil cL (aV (pv 2) (aV (pv 3) (aV (pv 7) (aV (pv 8) aZ)))))))))) (bY (cC pI)) dz) (bo (cv (i:=9) px.nd rf (.inl rf) (e9 (QJ K rf) rf T.list AV (aV (bQ (eN K rf) (pv 7) (pv 8)) aZ))) (bo (dj (cS wo (eX (iM K rf) rf T.len iN (aV (pv 9) aZ)) ba (cM _)) (bo (cv (i:=10) px.nd rf (.inl rf) (cK GD iw rf mD kD bD .nil cL (aV (pv 1) (aV (eX (iM K rf) rf T.len iN (aV (pv 9) aZ)) aZ)))) (bY (my (bQ j5 (bQ eM (bQ eM (br (eY K rf) (pv 9) (pv 10)) ba) (cK GD iw rf mD kD bD .nil cL (aV (pv 1) (aV (bQ sr (pv 2) ba) aZ)))) (pv 2)) (x4 (pv 9) (pv 10) yf)))) dz) (bo (dj (we (pK (cK GA hr rf mA kA bA .nil cL (aV (pv 2) (aV (pv 3) (aV (e9 (nc K rf) rf T.tuple j7 (aV (nT (DY K rf) (pv 9) mQ (lT (eX (iM K rf) rf T.len iN (aV (pv 7) aZ)))) aZ)) (aV (e9 (nc K rf) rf T.tuple j7 (aV (nT (DY K rf) (pv 9) (lT (eX (iM K rf) rf T.len iN (aV (pv 7) aZ))) mQ) aZ)) aZ))))))) (bY (cC pI)) dz) (bo (cv (i:=9) px.nd rf (.inl rf) (e9 (nc K rf) rf T.tuple j7 (aV (je (N:=["k","hand","p"]) (own:=1) (caps:=[1,2]) rf (jo K rf (pv 9)) (show e8 Xy (cu qZ) ["k","hand","p"] 1 [1,2] _ from .mk' (by decide +kernel)) (λ_ _ _ _ _=>cH (i:=0) af8 rf (.inl rf)) (λ_ _ _ _ _=>jz) (λ_ _ _ _ _=>cK GD iw rf mD kD bD .nil cL (aV (pv 1) (aV (pv 2) aZ)))) aZ))) (bY (dj (we (pK (cK GA hr rf mA kA bA .nil cL (aV (pv 2) (aV (pv 3) (aV (nT (sZ K rf) (pv 9) mQ (lT (eX (iM K rf) rf T.len iN (aV (pv 7) aZ)))) (aV (nT (sZ K rf) (pv 9) (lT (eX (iM K rf) rf T.len iN (aV (pv 7) aZ))) mQ) aZ))))))) (bY (cC pI)) dz))))))))))) (bY (cC pI)))),?_⟩
 refine⟨_,rf,a,ns,rf,hS,ns.sum,44,rf,by decide,by decide,λha H1 s1 MI g1=>?_⟩;refine⟨_,rf,ha,0,rf,g1,by decide,λp H2 pp s2 g2=>?_⟩;obtain⟨p2,dX⟩:=jf p pp;have p0:0<p:=by lia
 have sA:aW H H2:=λb o e=>s2 b o (s1 b o e) (fj e MI);refine⟨_,rf,_,rf,a,ns,p,60,8,rf,sA.seq hS,cB,p2,dX,by decide,by decide,by decide,by decide,λvl VS ds H3 s3 tH hD Ij ji ot=>?_⟩;have zN:=g2.mono s3;have lVS:=hD.len;have nv:vl≠ha:=λz=>by
  obtain⟨y0,e0⟩:∃y,VS[0]?=some y:=⟨_,cP (show 0<VS.length by lia)⟩;obtain⟨b,_,eb,_⟩:=hD.at e0;obtain⟨x0,x1,x2,e,_⟩:=zN;rw[<- z,tH]at e;have e:=HO.lst.inj (dq e);rw[e]at e0;have e0:some (V.int x0)=some _:=e0;rw[eb]at e0;cases e0
 refine⟨vl,rf,⟨_,.of tH⟩,so (xs:=VS) (λi σ H'=>∃s3 s4 s5 s6 s7 s8 s9 c9 n',σ=[some (.ref a),some (.ref ha),some (.int p),s3,s4,s5,s6,s7,s8,s9,c9]/\H' vl=some (.lst VS)/\iB K H' VS ds/\Hand H' ha n'/\n'<=3+1500*i) ⟨none,none,none,none,none,none,none,none,3,rf,tH,hD,zN,by lia⟩ (λi σ H' _ ⟨_,_,_,_,_,_,_,_,_,_,g,_⟩=>.of g) ?_ (λσ H' _=>q _)⟩;rintro i x σ H4 hx ⟨NZ,s4',s5',Hl,Cv,zt,s9',agt,n',rfl,gl,XC,Hm,v8⟩;have il:i<VS.length:=(dC.mp hx).1;obtain⟨dv,d,rfl,hdi,aw,ot,iD⟩:=XC.at hx;obtain⟨jI,agu,dl,dr,agv⟩:=Ij d (dP hdi);have agw:d.bh+d.bf<=16:=by lia
 have agx:=af9 jI;have l3:=qh (N:=0) jI;refine⟨dv,_,rf,ot,rf,_,_,rf,_,_,rf,_,_,rf,rf,?_⟩;obtain⟨x0,x1,x2,eh,hhr⟩:=id Hm;refine⟨ha,_,eh,λo=>?_⟩;have sF:cw ha H4 (upd H4 ha (.cT o (.lst [.int x0,.int x1,.int x2]))):=λb u e nb=>by rw[bR nb];exact e
 refine⟨_,rf,_,rf,p,aw,d,rf,pp,jI,by lia,cw.bc sF Hm iD,λsy H5 s5 XD=>⟨s5 _ _ bb,?_⟩⟩;have k6:∀b u,b≠ha->H5 b=some u->(upd H5 ha (.lst [.int x0,.int x1,.int x2])) b=some u:=λb u nb e=>by rw[bR nb];exact e
 have s6:cw ha H4 (upd H5 ha (.lst [.int x0,.int x1,.int x2])):=λb u e nb=>k6 b u nb (s5 _ _ (by rw[bR nb];exact e));have h6:Hand (upd H5 ha (.lst [.int x0,.int x1,.int x2])) ha n':=⟨x0,x1,x2,bb,hhr⟩;have L6:qu K ha vl aw VS ds d n' (upd H5 ha (.lst [.int x0,.int x1,.int x2])):=⟨nv,s6 _ _ gl nv,XC.de Hm s6,h6,cw.bc s6 Hm iD⟩;have N0:rB (S21.del ha (upd H5 ha (.lst [.int x0,.int x1,.int x2]))) sy p d:=XD.off (s5 _ _ bb) k6;generalize upd H5 ha (.lst [.int x0,.int x1,.int x2])=H6 at L6 N0 |-;clear s6 h6 k6 XD s5;obtain⟨ol,hl,dn,kvs,aY,D,y1,y2,y3,y4,yD,yE⟩:=id N0;refine⟨_,rf,_,rf,_,rf,_,rf,_,rf,sy,_,2,.ref hl,rf,rf,.of (lg y1).2,bX (j:=2) rf,hl,_,rf,.inl (.of (lg y3).2),p,ha,aw,d,n',?_,jI,by lia,L6.w,L6.hand,by lia,λH7 n7 s7 XE hn7=>⟨true,rf,dB ?_⟩⟩
 ·show[V.ref ha,.ref aw,.int (d.bh:Int),.int (d.bf:Int),.int ((cx (aT d 0).1.cg).length:Int)]=_;rw[kj,l3]
 clear y1 y2 y3 y4 yD yE;have L7:=L6.de s7 XE;have hS7:rB (S21.del ha H7) sy p d:=N0.mono λb o e=>by rw[om (lg e).1];exact s7 b o (lg e).2 (lg e).1
 refine⟨_,rf,_,rf,_,rf,p,sy,ha,d,n7,rf,pp,jI,by lia,hS7,XE,by lia,λt ra na r m H8 n8 s8 h8 hn8 ht i0 kX jj hm=>?_⟩;rw[l3]at hm;have rl:=kX.1;have ml:=hm.1;have L8:=L7.de s8 h8;refine⟨t,_,rf,ht,rf,_,_,rf,_,_,rf,rf,?_⟩;refine⟨_,rf,_,rf,_,rf,_,rf,p,aw,ra,na,d,r,m,rf,pp,jI,by lia,by lia,L8.w,i0,kX,jj,hm,λH9 s9=>⟨true,rf,dB ?_⟩⟩;refine⟨_,rf,_,rf,_,rf,_,rf,p,aw,ra,na,d,r,m,rf,pp,jI,by lia,by lia,s9.bc L8.w,s9.bc i0,kX,s9.bc jj,hm,λHA sA'=>⟨true,rf,dB ?_⟩⟩;have sB:=s9.trans sA';refine⟨_,rf,_,rf,ra,na,_,_,rf,rf,sB.bc i0,sB.bc jj,by rw[bu,bu];lia,λc HC sC hc=>?_⟩;rw[<- du]at hc;refine⟨c,_,rf,.inr hc,λbl XF=>?_⟩;have sD:=sB.trans sC;have M:=(L8.mono sD).new (r:=r++m) XF;have uj:=(sD.trans (aW.upd (o:=.lst ((r++m).map V.int)) XF)).bc i0;generalize upd HC bl (.lst ((r++m).map V.int))=G at M uj |-;have nG:Rw p (r.length+m.length) (r++m):=⟨cm,λx hx=>(cN.mp hx).elim (kX.2 x) (hm.2 x)⟩;generalize r++m=u at M nG;dsimp only[gG];refine RJ (λσ G=>∃c9 n9 u,σ=[some (.ref a),some (.ref ha),some (.int p),some (.ref aw),some (.int (d.bh:Int)),some (.int (d.bf:Int)),some (.ref sy),some (.ref ra),some (.ref na),some (.ref bl),c9]/\nI K ha vl aw bl VS ds d n9 u G/\Rw p (r.length+m.length) u/\n9<=n'+600/\bq K G ra (r.map V.int)) (λN hN=>?_) ?_
 ·refine⟨_,rf,bl,_,rf,.inl (.of M.g),_,_,rf,rf,_,rf,?_⟩;rw[bu];refine FX (λhgt=>?_) (λ_=>hN _ _ ⟨_,n8,u,rf,M,nG,by lia,uj⟩);have lu:=nG.1;refine fu ?_;refine pq (i:=1) (lim:=(u.length:Int)) rf (λR h=>⟨_,rf,bl,_,rf,.inl (.of M.g),by rw[bu];exact h⟩) M.full.hand (by lia) (by lia) (by lia) λc G2 c0 c1 XG hG2=>?_;have M3:=M.de XG hG2;have N1:=cw.bc XG M.full.hand uj;obtain⟨j,rfl⟩:∃j:Nat,c=(j:Int):=⟨c.toNat,by lia⟩;have jl:j<u.length:=by lia
  have ej:u[j]?=some u[j]:=cP jl;refine⟨_,rf,_,rf,bl,_,(j:Int),.int u[j],rf,rf,.of M3.g,bX (by rw[dG,ej];rfl),_,_,rfl,rfl,?_⟩;refine pq (i:=1) (lim:=p-1) rf (λR h=>⟨_,rf,_,_,rf,rf,h⟩) M3.full.hand (by lia) (by lia) (by lia) λe G3 e0 e1 XH Kn=>?_;have M4:=M3.de XH Kn;have agb:=cw.bc XH M3.full.hand N1;refine⟨_,_,rf,rf,_,rf,_,_,rf,rf,p0,_,rf,_,rf,bl,_,(j:Int),j,rf,rf,M4.g,?_,?_⟩
  ·unfold oQ;rw[af (by lia),af (by rw[bu];lia)];simp
  rw[<- List.map_set];refine hN _ _ ⟨_,_,u.set j ((u[j]+1+e)%p),rf,M4.wr,⟨by rw[List.length_set];exact lu,λy hy=>?_⟩,by lia,(dF.lst M4.g).bc agb⟩;rcases List.mem_or_eq_of_mem_set hy with z|z
  ·exact nG.2 y z
  ·rw[z];exact⟨qB _ (by lia),qC _ p0⟩
 ·clear M nG uj;rintro σ G ⟨c9,n9,u,rfl,M,nG,VC,uj⟩;have lu:=nG.1;have part:∀{v:List Int},Rw p (r.length+m.length) v->Rw p (d.bh+d.bf) (v.take r.length)/\Rw p (ck d) (v.drop r.length):=λ{v} h=>⟨⟨by rw[gy,h.1,rl];lia,λx hx=>h.2 x (pB hx)⟩,⟨by rw[jW,h.1,rl,ml];lia,λx hx=>h.2 x (pC hx)⟩⟩;refine⟨_,rf,_,rf,_,rf,_,rf,ra,_,rf,.inr uj,_,rf,bl,_,rf,.of M.g,λl1 nq=>?_⟩;rw[bu,Xw,<- List.map_take];have k1:=aW.upd (o:=.lst ((u.take r.length).map V.int)) nq;refine⟨l1,_,rf,.inl ⟨.of bb,λt1 iq=>?_⟩⟩;have k2:=k1.trans (aW.upd (o:=.tup ((u.take r.length).map V.int)) iq);have uc:bq K (upd (upd G l1 (.lst ((u.take r.length).map V.int))) t1 (.tup ((u.take r.length).map V.int))) t1 ((u.take r.length).map V.int):=.of bb;generalize upd (upd G l1 (.lst ((u.take r.length).map V.int))) t1 (.tup ((u.take r.length).map V.int))=G2 at k2 uc |-;refine⟨_,rf,_,rf,ra,_,rf,.inr (k2.bc uj),_,rf,bl,_,rf,.of (k2 _ _ M.g),λl2 jm=>?_⟩;rw[bu,Xx,<- List.map_drop];have k3:=aW.upd (o:=.lst ((u.drop r.length).map V.int)) jm;refine⟨l2,_,rf,.inl ⟨.of bb,λt2 pj=>?_⟩⟩;have k4:=k3.trans (aW.upd (o:=.tup ((u.drop r.length).map V.int)) pj);have M2:=M.mono (k2.trans k4);refine⟨p,aw,t1,t2,d,_,_,rf,pp,jI,by lia,by lia,M2.full.w,k4.bc uc,(part nG).1,.of bb,(part nG).2,λG3 NZ=>⟨true,rf,dB ?_⟩⟩;have M3:=M2.mono NZ;have N1:=(k2.trans (k4.trans NZ)).bc uj;clear M2 M uj;refine⟨_,rf,bl,rf,⟨_,.of M3.g⟩,af7 (K:=K) (xs:=u.map V.int) (cp:=[some (.ref ha),some (.int p)]) (λi H' zs=>∃v nA,zs=v.map V.int/\Rw p i v/\nI K ha vl aw bl VS ds d nA u H'/\nA<=n9+i/\bq K H' ra (r.map V.int)) (by rw[bu];lia) ⟨[],n9,rfl,⟨rfl,λx hx=>by cases hx⟩,M3,cn _,N1⟩ (λi H' zs ⟨u,_,e,h,_⟩=>by rw[e,bu,h.1];exact cn _) (λi H' zs ⟨_,_,_,_,h,_⟩=>.of h.g) ?_ ?_⟩
  ·rintro k y H' zs hy ⟨v,nA,rfl,hv,M9,N2,N3⟩;have kl:k<u.length:=by have:=(dC.mp hy).1;rwa[bu]at this
   refine pq (i:=1) (t:=bg 2) rf (λR h=>⟨_,rf,h⟩) M9.full.hand (by lia) (by lia) (by lia) λc jE c0 c1 sc hc=>?_;refine .mk ⟨v++[c],nA+1,by rw[du];rfl,⟨by rw[cm,hv.1];rfl,λy hy=>?_⟩,M9.de sc hc,by lia,cw.bc sc M9.full.hand N3⟩;rcases(cN.mp hy)with(z|z)
   ·exact hv.2 y z
   ·rw[cA.mp z];exact⟨c0,c1⟩
  ·rintro G4 zs ⟨v,nA,rfl,hv,M9,N2,N3⟩ lz i7;rw[bu]at hv N2;rw[lu]at hv N2;refine⟨lz,_,rf,.inl ⟨.of bb,λtt xx=>?_⟩⟩;have k5:=(aW.upd (o:=.lst (v.map V.int)) i7).trans (aW.upd (o:=.tup (v.map V.int)) xx);have MA:=M9.mono k5;have N4:=k5.bc N3;have N5:bq K (upd (upd G4 lz (.lst (v.map V.int))) tt (.tup (v.map V.int))) tt (v.map V.int):=.of bb;generalize upd (upd G4 lz (.lst (v.map V.int))) tt (.tup (v.map V.int))=G5 at MA N4 N5 |-;refine⟨_,rf,_,rf,_,rf,_,rf,ra,_,rf,.inr N4,_,rf,tt,_,rf,N5,λb1 G6 Hl oD=>?_⟩;rw[bu,Xw,<- List.map_take]at oD;refine⟨_,rf,_,rf,ra,_,rf,.inr (Hl.bc N4),_,rf,tt,_,rf,Hl.bc N5,λb2 G7 Cv xF=>?_⟩;rw[bu,Xx,<- List.map_drop]at xF;have MB:=MA.mono (Hl.trans Cv);refine⟨p,aw,b1,b2,d,_,_,rf,pp,jI,by lia,by lia,MB.full.w,Cv.bc oD,(part hv).1,xF,(part hv).2,λG8 zt=>⟨true,rf,dB ?_⟩⟩;have MC:=(MB.mono zt).full;exact⟨_,_,_,_,_,_,_,_,_,rf,MC.gl,MC.dr,MC.hand,by lia⟩
noncomputable def qv(K:Frag)(x:Str):Addr:=match nsIn K mainGlobals x with
 |some (some (.ref a))=>a
 |_=>0
noncomputable def CH(K:Frag)(x:Str):Bool:=match nsIn K mainGlobals x with
 |some (some (.ref _))=>true
 |_=>false
theorem Hn{K:Frag}(h:CH K x=true):nsIn K mainGlobals x=some (some (.ref (qv K x))):=by
 unfold CH at h;split at h
 case h_2=>cases h
 case h_1 a e=>
  unfold qv;rw[e]
noncomputable def xK(K:Frag):Bool:=CH K "PARTS"&&CH K "SIDES"&&CH K "BOX_ROWS"&&Bi K (qv K "PARTS")&&decide (kQ K (qv K "PARTS")=Ez)&&By K (qv K "SIDES") (qv K "BOX_ROWS")&&BR K (qv K "SIDES")
noncomputable def N6(K:Frag):Bool:=nsIn K mainGlobals "dict"==some none&&nsIn K mainGlobals "sorted"==some none
section
variable{K:Frag}{h:Heap}{mg:Str->Option Value}
theorem uk(X:K.In h)(G:h.Ns mainGlobals mg)(e:xK K=true):Parts K mg (qv K "PARTS"):=by
 simp only[xK,gM,aJ]at e;obtain⟨⟨⟨⟨⟨⟨e1,_⟩,_⟩,e4⟩,e5⟩,_⟩,_⟩:=e;exact⟨dE X G (Hn e1),λh X=>e5▸Ec X e4⟩
theorem Ho(X:K.In h)(G:h.Ns mainGlobals mg)(e:xK K=true):tI K mg (qv K "SIDES") (qv K "BOX_ROWS"):=by
 simp only[xK,gM,aJ]at e;obtain⟨⟨⟨⟨⟨⟨_,e2⟩,e3⟩,_⟩,_⟩,e6⟩,_⟩:=e;exact⟨dE X G (Hn e2),dE X G (Hn e3),e6⟩
theorem xM(X:K.In h)(G:h.Ns mainGlobals mg)(e:xK K=true):pd K mg (qv K "SIDES"):=by
 simp only[xK,gM,aJ]at e;obtain⟨⟨⟨⟨⟨⟨_,e2⟩,_⟩,_⟩,_⟩,_⟩,e7⟩:=e;exact⟨dE X G (Hn e2),e7⟩
theorem xN(X:K.In h)(G:h.Ns mainGlobals mg)(e:N6 K=true):mg "dict"=none:=mq X G (beq_iff_eq.mp (Bool.and_eq_true_iff.mp e).1)
theorem XI(X:K.In h)(G:h.Ns mainGlobals mg)(e:N6 K=true):mg "sorted"=none:=mq X G (beq_iff_eq.mp (Bool.and_eq_true_iff.mp e).2)
end
theorem rP(h:∀a0,bindArgs fd ⟨[a0],[]⟩=pure (ps.zip [a0])):∀(us:List Value),us.length=1->bindArgs fd ⟨us,[]⟩=pure (ps.zip us)
 | [a0],_=>h a0
theorem oF(h:∀a0 a1,bindArgs fd ⟨[a0,a1],[]⟩=pure (ps.zip [a0,a1])):∀(us:List Value),us.length=2->bindArgs fd ⟨us,[]⟩=pure (ps.zip us)
 | [a0,a1],_=>h a0 a1
theorem lI(h:∀a0 a1 a2,bindArgs fd ⟨[a0,a1,a2],[]⟩=pure (ps.zip [a0,a1,a2])):∀(us:List Value),us.length=3->bindArgs fd ⟨us,[]⟩=pure (ps.zip us)
 | [a0,a1,a2],_=>h a0 a1 a2
theorem rQ(h:∀a0 a1 a2 a3,bindArgs fd ⟨[a0,a1,a2,a3],[]⟩=pure (ps.zip [a0,a1,a2,a3])):∀(us:List Value),us.length=4->bindArgs fd ⟨us,[]⟩=pure (ps.zip us)
 | [a0,a1,a2,a3],_=>h a0 a1 a2 a3
theorem us5(h:∀a0 a1 a2 a3 a4,bindArgs fd ⟨[a0,a1,a2,a3,a4],[]⟩=pure (ps.zip [a0,a1,a2,a3,a4])):∀(us:List Value),us.length=5->bindArgs fd ⟨us,[]⟩=pure (ps.zip us)
 | [a0,a1,a2,a3,a4],_=>h a0 a1 a2 a3 a4
structure FA(K:Frag)(x:Str)(st:Stmt)(f:Addr)(fd:FuncData):Prop where
 a:nsIn K mainGlobals x=some (some (.ref f))
 F:cJ K x x st f fd
 k:keepIn K (.ref f)=true
theorem FA.of{K:Frag}{st:Stmt}{od an:Option Addr}{sl:Array (Option Value)}{oc kV dc pm cd ct:Value}(a:nsIn K mainGlobals x=some (some (.ref f)))(l:K.lookup f=some ⟨oc,od,.func (fnOf x x (uJ st) (pQ st) (cu st) .none kV dc pm an cd ct),sl⟩)(c:PySem.W.codeIn K cd x=true)(k:keepIn K (.ref f)=true):FA K x st f (fnOf x x (uJ st) (pQ st) (cu st) .none kV dc pm an cd ct):=⟨a,PH l c k,k⟩
theorem all_mk{l:PySem.W.OpenLaw}{w:World}{K:Frag}{h:Heap}{mg:Str->Option Value}{fa f1 f2 f3 f4 f5 f6 f7 f8 f9 f10 f11 f12 f13 f14 f15 f16 f17 f18 f19 f20 f21 f22 f23 f24 f25 f26 f27 f28 f29 f30 f31 f32 f33 f34 f35 f36 f37 f38 f39 f40 f41 f42 f43 f44 f45 f46 f47 f48 f49 f50 N7:Addr}(X:K.In h)(G:h.Ns mainGlobals mg)(xH:mg "law"=some (.ref fa))
  {agc XJ:Option Addr} {agd:Array (Option Value)} {age XM XN XO N8 XQ:Value} {d1 d2 d3 d4 d5 d6 d7 d8 d9 d10 d11 Qh d13 d14 d15 d16 d17 d18 d19 d20 d21 d22 d23 d24 d25 d26 d27 d28 d29 d30 d31 d32 d33 d34 d35 d36 d37 d38 d39 d40 d41 d42 d43 d44 d45 d46 d47 d48 d49 d50:FuncData}
  (A1:FA K "turned" Bk f1 d1)
  (A2:FA K "added" tj f2 d2)
  (A3:FA K "summed" Bl f3 d3)
  (A4:FA K "reduced" yV f4 d4)
  (A5:FA K "led" Ed f5 d5)
  (A6:FA K "cleared" Ee f6 d6)
  (A7:FA K "first_place" Ef f7 d7)
  (A8:FA K "factors_of" Bm f8 d8)
  (A9:FA K "wires" JE f9 d9)
  (A10:FA K "folded" Eg f10 d10)
  (A11:FA K "all_folded" Eh f11 d11)
  (A12:FA K "ends" JF f12 Qh)
  (A13:FA K "end_of" Bn f13 d13)
  (A14:FA K "measured" JG f14 d14)
  (A15:FA K "measure" Ei f15 d15)
  (A16:FA K "joined_sides" JH f16 d16)
  (A17:FA K "refuse_late" JI f17 d17)
  (A18:FA K "form" JJ f18 d18)
  (A19:FA K "inner" JK f19 d19)
  (A20:FA K "stands" Bo f20 d20)
  (A21:FA K "size" wK f21 d21)
  (A22:FA K "laid" JL f22 d22)
  (A23:FA K "laid_parts" JM f23 d23)
  (A24:FA K "laid_beside" JN f24 d24)
  (A25:FA K "laid_then" JO f25 d25)
  (A26:FA K "at_wires" Ej f26 d26)
  (A27:FA K "content" JP f27 d27)
  (A28:FA K "_law_hand" JQ f28 d28)
  (A29:FA K "_law_draw" JR f29 d29)
  (A30:FA K "_law_box" JS f30 d30)
  (A31:FA K "_law_ids" JT f31 d31)
  (A32:FA K "_law_padded" JU f32 d32)
  (A33:FA K "_law_next" JV f33 d33)
  (A34:FA K "_law_joined" JW f34 d34)
  (A35:FA K "_law_fits" JX f35 d35)
  (A36:FA K "_law_grown" JY f36 d36)
  (A37:FA K "_law_prime" JZ f37 d37)
  (A38:FA K "_law_equations" J3 f38 d38)
  (A39:FA K "_law_ports" Ek f39 d39)
  (A40:FA K "_law_merged" El f40 d40)
  (A41:FA K "_law_less" Em f41 d41)
  (A42:FA K "_law_solved" wL f42 d42)
  (A43:FA K "_law_system" Eo f43 d43)
  (A44:FA K "_law_solution" yX f44 d44)
  (A45:FA K "_law_zero" Ep f45 d45)
  (A46:FA K "_law_stands" Er f46 d46)
  (A47:FA K "_law_asked" J4 f47 d47)
  (A48:FA K "_law_delayed" J5 f48 d48)
  (A49:FA K "_law_counted" J6 f49 d49)
  (A50:FA K "_law_unlike" J7 f50 d50)
  (a51:nsIn K mainGlobals "law"=some (some (.ref N7))) (l51:K.lookup N7=some ⟨age,agc,.func (fnOf "law" "law" (uJ qZ) (pQ qZ) (cu qZ) .none XM XN XO XJ N8 XQ),agd⟩) (c51:PySem.W.codeIn K N8 "law"=true) (k51:keepIn K (.ref N7)=true)
  (z1:nsIn K mainGlobals "range"=some none) (z2:nsIn K mainGlobals "zip"=some none) (z3:nsIn K mainGlobals "tuple"=some none) (z4:nsIn K mainGlobals "list"=some none) (z5:nsIn K mainGlobals "int"=some none) (z6:nsIn K mainGlobals "bool"=some none) (z7:nsIn K mainGlobals "isinstance"=some none) (z8:nsIn K mainGlobals "len"=some none) (z9:nsIn K mainGlobals "sum"=some none) (z10:nsIn K mainGlobals "max"=some none) (z11:nsIn K mainGlobals "min"=some none) (z12:nsIn K mainGlobals "enumerate"=some none) (z13:nsIn K mainGlobals "any"=some none) (z14:nsIn K mainGlobals "all"=some none) (hx1:xK K=true) (hx2:N6 K=true) :
  ∃fd:FuncData,(∀(s:Shared)(v:Value),BindsTo s fd ⟨[v],[]⟩ [("script",v)])/\∀base:Heap,K.In base->base.Ns mainGlobals mg->cc l.prog w K mg base cb 10 fa fd ["script"] (Hk K):=by
 have e:=xH.symm.trans (dE X G a51);cases e;have T:Txt mg:=⟨mq X G z1,mq X G z2,mq X G z3,mq X G z4,mq X G z5,mq X G z6,mq X G z7,mq X G z8,mq X G z9,mq X G z10,mq X G z11,mq X G z12,mq X G z13,mq X G z14⟩;obtain⟨a1,F1,k1⟩:=A1;obtain⟨a2,F2,k2⟩:=A2;obtain⟨a3,F3,k3⟩:=A3;obtain⟨a4,F4,k4⟩:=A4;obtain⟨a5,F5,k5⟩:=A5;obtain⟨a6,F6,k6⟩:=A6;obtain⟨a7,F7,k7⟩:=A7;obtain⟨a8,F8,k8⟩:=A8;obtain⟨a9,F9,k9⟩:=A9;obtain⟨a10,zR,CI⟩:=A10;obtain⟨a11,rR,um⟩:=A11;obtain⟨a12,N9,XR⟩:=A12;obtain⟨a13,CJ,k13⟩:=A13;obtain⟨a14,Oa,XT⟩:=A14;obtain⟨a15,CK,k15⟩:=A15;obtain⟨a16,zS,CL⟩:=A16;obtain⟨a17,Ob,XU⟩:=A17;obtain⟨a18,Oc,XW⟩:=A18;obtain⟨a19,Hq,Od⟩:=A19;obtain⟨a20,Oe,XX⟩:=A20;obtain⟨a21,qw,k21⟩:=A21;obtain⟨a22,Of,XY⟩:=A22;obtain⟨a23,Og,XZ⟩:=A23;obtain⟨a24,Oh,X0⟩:=A24;obtain⟨a25,Oi,X1⟩:=A25;obtain⟨a26,Oj,X2⟩:=A26;obtain⟨a27,Ol,X3⟩:=A27;obtain⟨a28,Om,X4⟩:=A28;obtain⟨a29,qx,rS⟩:=A29;obtain⟨a30,Oo,X5⟩:=A30;obtain⟨a31,X6,k31⟩:=A31;obtain⟨a32,X7,k32⟩:=A32;obtain⟨a33,X8,k33⟩:=A33;obtain⟨a34,X9,k34⟩:=A34;obtain⟨a35,Ya,k35⟩:=A35;obtain⟨a36,Yb,k36⟩:=A36;obtain⟨a37,Yc,k37⟩:=A37;obtain⟨a38,Oq,Yd⟩:=A38;obtain⟨a39,Ot,Ye⟩:=A39;obtain⟨a40,Ou,Yf⟩:=A40;obtain⟨a41,Yg,k41⟩:=A41;obtain⟨a42,Yh,k42⟩:=A42;obtain⟨a43,Yi,k43⟩:=A43;obtain⟨a44,Yj,k44⟩:=A44;obtain⟨a45,Yk,k45⟩:=A45;obtain⟨a46,Yl,k46⟩:=A46;obtain⟨a47,Ym,k47⟩:=A47;obtain⟨a48,Yn,k48⟩:=A48;obtain⟨a49,Yo,k49⟩:=A49;obtain⟨a50,Yp,k50⟩:=A50;have F51:=PH (st:=qZ) l51 c51 k51;have b1:=F1.binds (ps:=["p","number"]) λ_ _ _ _ _ _=>oF λ_ _=>rfl;have m1:=dE X G a1;have b2:=F2.binds (ps:=["p","row","factor","other"]) λ_ _ _ _ _ _=>rQ λ_ _ _ _=>rfl;have m2:=dE X G a2;have b3:=F3.binds (ps:=["p","rows","factors","length"]) λ_ _ _ _ _ _=>rQ λ_ _ _ _=>rfl;have m3:=dE X G a3;have b4:=F4.binds (ps:=["p","rows"]) λ_ _ _ _ _ _=>oF λ_ _=>rfl;have m4:=dE X G a4;have b5:=F5.binds (ps:=["p","row","place"]) λ_ _ _ _ _ _=>lI λ_ _ _=>rfl;have m5:=dE X G a5;have b6:=F6.binds (ps:=["p","row","lead","place"]) λ_ _ _ _ _ _=>rQ λ_ _ _ _=>rfl;have m6:=dE X G a6;have b7:=F7.binds (ps:=["row"]) λ_ _ _ _ _ _=>rP λ_=>rfl;have m7:=dE X G a7;have b8:=F8.binds (ps:=["p","rows","row"]) λ_ _ _ _ _ _=>lI λ_ _ _=>rfl;have m8:=dE X G a8;have b9:=F9.binds (ps:=["words"]) λ_ _ _ _ _ _=>rP λ_=>rfl;have m9:=dE X G a9;have CM:=zR.binds (ps:=["words","made"]) λ_ _ _ _ _ _=>oF λ_ _=>rfl;have CN:=dE X G a10;have uo:=rR.binds (ps:=["words","made"]) λ_ _ _ _ _ _=>oF λ_ _=>rfl;have uq:=dE X G a11;have Yq:=N9.binds (ps:=["words"]) λ_ _ _ _ _ _=>rP λ_=>rfl;have Yr:=dE X G a12;have Ys:=CJ.binds (ps:=["place","word","parts"]) λ_ _ _ _ _ _=>lI λ_ _ _=>rfl;have Yt:=dE X G a13;have Yu:=Oa.binds (ps:=["words"]) λ_ _ _ _ _ _=>rP λ_=>rfl;have Yv:=dE X G a14;have Yw:=CK.binds (ps:=["place","word","parts"]) λ_ _ _ _ _ _=>lI λ_ _ _=>rfl;have Yx:=dE X G a15;have CO:=zS.binds (ps:=["word","parts"]) λ_ _ _ _ _ _=>oF λ_ _=>rfl;have CP:=dE X G a16;have Yy:=Ob.binds (ps:=["words"]) λ_ _ _ _ _ _=>rP λ_=>rfl;have Yz:=dE X G a17;have YA:=Oc.binds (ps:=["p","word","parts"]) λ_ _ _ _ _ _=>lI λ_ _ _=>rfl;have YB:=dE X G a18;have Ov:=Hq.binds (ps:=["words"]) λ_ _ _ _ _ _=>rP λ_=>rfl;have Ow:=dE X G a19;have YC:=Oe.binds (ps:=["p","words","row","setting"]) λ_ _ _ _ _ _=>rQ λ_ _ _ _=>rfl;have YD:=dE X G a20;have CQ:=qw.binds (ps:=["place","word","parts"]) λ_ _ _ _ _ _=>lI λ_ _ _=>rfl;have CS:=dE X G a21;have YE:=Of.binds (ps:=["words"]) λ_ _ _ _ _ _=>rP λ_=>rfl;have YF:=dE X G a22;have YG:=Og.binds (ps:=["word","whole","one"]) λ_ _ _ _ _ _=>lI λ_ _ _=>rfl;have YH:=dE X G a23;have YI:=Oh.binds (ps:=["whole","one"]) λ_ _ _ _ _ _=>oF λ_ _=>rfl;have YJ:=dE X G a24;have YK:=Oi.binds (ps:=["whole","one"]) λ_ _ _ _ _ _=>oF λ_ _=>rfl;have YL:=dE X G a25;have YM:=Oj.binds (ps:=["numbers","lying"]) λ_ _ _ _ _ _=>oF λ_ _=>rfl;have YN:=dE X G a26;have YO:=Ol.binds (ps:=["p","words","place","row"]) λ_ _ _ _ _ _=>rQ λ_ _ _ _=>rfl;have YQ:=dE X G a27;have YR:=Om.binds (ps:=["cell","k"]) λ_ _ _ _ _ _=>oF λ_ _=>rfl;have YS:=dE X G a28;have rT:=qx.binds (ps:=["hand","limit"]) λ_ _ _ _ _ _=>oF λ_ _=>rfl;have rV:=dE X G a29;have YT:=Oo.binds (ps:=["hand","p"]) λ_ _ _ _ _ _=>oF λ_ _=>rfl;have YU:=dE X G a30;have b31:=X6.binds (ps:=["many"]) λ_ _ _ _ _ _=>rP λ_=>rfl;have m31:=dE X G a31;have b32:=X7.binds (ps:=["hand","box","many"]) λ_ _ _ _ _ _=>lI λ_ _ _=>rfl;have m32:=dE X G a32;have b33:=X8.binds (ps:=["hand","p","here"]) λ_ _ _ _ _ _=>lI λ_ _ _=>rfl;have m33:=dE X G a33;have b34:=X9.binds (ps:=["hand","one","other"]) λ_ _ _ _ _ _=>lI λ_ _ _=>rfl;have m34:=dE X G a34;have b35:=Ya.binds (ps:=["drawing","most","side"]) λ_ _ _ _ _ _=>lI λ_ _ _=>rfl;have m35:=dE X G a35;have b36:=Yb.binds (ps:=["script","p","most","side"]) λ_ _ _ _ _ _=>rQ λ_ _ _ _=>rfl;have m36:=dE X G a36;have b37:=Yc.binds (ps:=["hand"]) λ_ _ _ _ _ _=>rP λ_=>rfl;have m37:=dE X G a37;have YV:=Oq.binds (ps:=["word","number"]) λ_ _ _ _ _ _=>oF λ_ _=>rfl;have YW:=dE X G a38;have YX:=Ot.binds (ps:=["words"]) λ_ _ _ _ _ _=>rP λ_=>rfl;have YY:=dE X G a39;have YZ:=Ou.binds (ps:=["p","row","alias"]) λ_ _ _ _ _ _=>lI λ_ _ _=>rfl;have Y0:=dE X G a40;have b41:=Yg.binds (ps:=["p","row","other","factor"]) λ_ _ _ _ _ _=>rQ λ_ _ _ _=>rfl;have m41:=dE X G a41;have b42:=Yh.binds (ps:=["p","order","rows"]) λ_ _ _ _ _ _=>lI λ_ _ _=>rfl;have m42:=dE X G a42;have b43:=Yi.binds (ps:=["p","words"]) λ_ _ _ _ _ _=>oF λ_ _=>rfl;have m43:=dE X G a43;have b44:=Yj.binds (ps:=["p","system","hand"]) λ_ _ _ _ _ _=>lI λ_ _ _=>rfl;have m44:=dE X G a44;have b45:=Yk.binds (ps:=["p","row","values"]) λ_ _ _ _ _ _=>lI λ_ _ _=>rfl;have m45:=dE X G a45;have b46:=Yl.binds (ps:=["p","words","row","numbers"]) λ_ _ _ _ _ _=>rQ λ_ _ _ _=>rfl;have m46:=dE X G a46;have b47:=Ym.binds (ps:=["p","words","row","numbers"]) λ_ _ _ _ _ _=>rQ λ_ _ _ _=>rfl;have m47:=dE X G a47;have b48:=Yn.binds (ps:=["hand","words","many"]) λ_ _ _ _ _ _=>lI λ_ _ _=>rfl;have m48:=dE X G a48;have b49:=Yo.binds (ps:=["hand","words","left","right","due"]) λ_ _ _ _ _ _=>us5 λ_ _ _ _ _=>rfl;have m49:=dE X G a49;have b50:=Yp.binds (ps:=["p","words","row","numbers"]) λ_ _ _ _ _ _=>rQ λ_ _ _ _=>rfl;have m50:=dE X G a50;exact⟨fnOf "law" "law" (uJ qZ) (pQ qZ) (cu qZ) .none XM XN XO XJ N8 XQ,λs v=>.of_eq rf,λbase _ _=>aga F51 T (VO Om) X4 YR YS (ae4 Yc (rJ qx) rS rT rV) k37 b37 m37 (af6 Yb T (VO Om) X4 YR YS (rJ qx) rS rT rV (WZ Oo T (rJ qx) rS rT rV) X5 YT YU (afX X9 (rJ qx) rS rT rV) k34 b34 m34 (afZ Ya T) k35 b35 m35 (afV X8 (rJ qx) rS rT rV (WZ Oo T (rJ qx) rS rT rV) X5 YT YU (afT X7 (rJ qx) rS rT rV (afP X6) k31 b31 m31) k32 b32 m32) k33 b33 m33) k36 b36 m36 (rJ qx) rS rT rV (adI Yi T (Wv Ot T (xN X G hx2) (Ui Oq ) Yd YV YW) Ye YX YY (TB Ou (xN X G hx2)) Yf YZ Y0 (adx Yh T (xN X G hx2) (adq Yg (xN X G hx2)) k41 b41 m41) k42 b42 m42) k43 b43 m43 (afE Yo T (afC Yn (rJ qx) rS rT rV) k48 b48 m48 (LX Hq (LU zR (tG rR T (uk X G hx1)) um uo uq) CI CM CN (BV qw (xM X G hx1) T (BS zS) CL CO CP) qw CQ CS) Od Ov Ow) k49 b49 m49 (afL Yj T (rJ qx) rS rT rV) k44 b44 m44 (afw Ym T (Vv Oe T (xM X G hx1) (Sx Ob) XU Yy Yz (LX Hq (LU zR (tG rR T (uk X G hx1)) um uo uq) CI CM CN (BV qw (xM X G hx1) T (BS zS) CL CO CP) qw CQ CS) Od Ov Ow (U4 Of T (XI X G hx2) (tG rR T (uk X G hx1)) um uo uq (BV qw (xM X G hx1) T (BS zS) CL CO CP) qw CQ CS (UU N9 (tG rR T (uk X G hx1)) um uo uq (UR CJ) CJ Ys Yt) XR Yq Yr (UQ Og (UL Oh) X0 YI YJ (UP Oi T) X1 YK YL) XZ YG YH) XY YE YF (Vr Ol (Vo Oc (Ho X G hx1) (Sr F9 (Sn Oa (Sk zR (tG rR T (uk X G hx1)) um uo uq) CI CM CN (Sf CK (Ho X G hx1)) CK Yw Yx) XT Yu Yv) k9 b9 m9) XW YA YB (Vm F8 T (RW F4 T F2 b2 m2 F1 b1 m1 F3 b3 m3 F6 b6 m6 F5 b5 m5) k4 b4 m4 (R9 F7 T) k7 b7 m7) k8 b8 m8) X3 YO YQ (UX Oj T) X2 YM YN) XX YC YD (afr Yl T (xN X G hx2) (Wv Ot T (xN X G hx2) (Ui Oq ) Yd YV YW) Ye YX YY (TB Ou (xN X G hx2)) Yf YZ Y0 (aeX Yk T) k45 b45 m45) k46 b46 m46) k47 b47 m47 (afz Yp T (Vv Oe T (xM X G hx1) (Sx Ob) XU Yy Yz (LX Hq (LU zR (tG rR T (uk X G hx1)) um uo uq) CI CM CN (BV qw (xM X G hx1) T (BS zS) CL CO CP) qw CQ CS) Od Ov Ow (U4 Of T (XI X G hx2) (tG rR T (uk X G hx1)) um uo uq (BV qw (xM X G hx1) T (BS zS) CL CO CP) qw CQ CS (UU N9 (tG rR T (uk X G hx1)) um uo uq (UR CJ) CJ Ys Yt) XR Yq Yr (UQ Og (UL Oh) X0 YI YJ (UP Oi T) X1 YK YL) XZ YG YH) XY YE YF (Vr Ol (Vo Oc (Ho X G hx1) (Sr F9 (Sn Oa (Sk zR (tG rR T (uk X G hx1)) um uo uq) CI CM CN (Sf CK (Ho X G hx1)) CK Yw Yx) XT Yu Yv) k9 b9 m9) XW YA YB (Vm F8 T (RW F4 T F2 b2 m2 F1 b1 m1 F3 b3 m3 F6 b6 m6 F5 b5 m5) k4 b4 m4 (R9 F7 T) k7 b7 m7) k8 b8 m8) X3 YO YQ (UX Oj T) X2 YM YN) XX YC YD) k50 b50 m50⟩
theorem walk{l:PySem.W.OpenLaw}{q:Program}{yj:List Str}{XP:(Str->Option Value)->Heap->Prop}{YP:World->Heap->Prop}{d:DefRec}{K:Params->Frag}(hn:l.most=some 63)(wx:d.params.defaults=[])
  (hY:∀(w:World)(h:Heap),YP w h->(K w.params).In h)
  (F:∀(w:World)(mg:Str->Option Value)(fa:Addr)(h:Heap),(K w.params).In h->h.Ns mainGlobals mg->mg d.name=some (.ref fa)->
   ∃fd:FuncData,(∀(s:Shared)(u:Value),BindsTo s fd ⟨[u],[]⟩ [("script",u)])/\∀base:Heap,(K w.params).In base->base.Ns mainGlobals mg->cc l.prog w (K w.params) mg base cb 10 fa fd ["script"] (Hk (K w.params))) :
  PySem.W.WalkO q yj XP YP l.row.toRowW d [] (λf vs=>PySem.call f vs):=
 L2.aaz (n:=63) (k:=10) (x := "script") (CX:=λ_=>cb) (sp:=λw=>Hk (K w.params)) hn (by decide) wx ⟨rfl,by decide,by decide⟩ hY F (λ_ _ a ns hl _ hS=>⟨a,ns,rfl,hS,hl,λ_=>rfl⟩) λ_ _ _ _ _ z=>z
end S21
structure PySem.W.Fast:Prop where
 (tw17102919566893861959 tw16347212709292977254 tw8838718719241454315 tw12337606565164431122 tw2668504750196966388 tw16361464917985246043 tw6719347195121869436 tw16897660206208199651 tw14299055316612115612 tw9527277300775585930 tw9389097849410428615 tw3424640779012761367 tw6299709340449801379 tw9412711880718817713 tw3090033736095489570 tw16532761840123844132 tw18342654615199234370 tw2918700038897737197 tw6202754014981916469 tw4174005807730175126 tw12500936488179778560 tw828188611016829526 tw16724406515829616308 tw6774815507745654773 tw5335084125971328997 tw18186511388784760379 tw15698103165261309039 tw12576133069689762723 tw2726656858245963305 tw4780634214875427878 tw4788741006438078754 tw17629696302000678775 tw11724501326638489609 tw15357120834657731021 tw10630614411950403047 tw484661113428788439 tw3871338508346335056 tw2379230824082255444 tw15456808239311111932 tw9736776050807694806 tw8856385349150176906 tw8567914747638466907 tw1145272727160939826 tw8399560131235061368 tw7799442589870140214 tw4846894911637403783 tw7947599851452010740 tw667057514822348202 tw17586279117551795117 tw9927249410218887563 tw6852355553987052685 tw17498397621683293278 tw17751955125085246708 tw6379568924194610150 tw12513443425817587786 tw13177650196036316616 tw1134662154654159483 tw14893408603702278962 tw5422271466127215524 tw2897898515007083998 tw16844272394442298250 tw15136392716503251069 tw12878159810461204090 tw11615295112279885097 tw16356067727971177704 tw3915154984114077744 tw15568800123938636762 tw17337746871840858472 tw10084151821392762016 tw18090885826691201287 tw1145772626221922924 tw11475933697407292256 tw7267237120141374875 tw3540252571944903227 tw1841090101462023459 tw10270185558678826378 tw4439554999281037000 tw980825925580026357 tw16513727404061525978 tw17569570646971234794 tw13896886057124564136 tw13787241001221726580 tw7709590887048161678 tw14780045121994087922 tw6035008526748289883 tw8063035939594876347 tw14170479672799776269 tw3105905942370396019 tw5560793443385276259 tw16642227711565098397 tw5645938638346085735 tw10950109905415812216 tw1469348656681947558 tw1234210487516508625 tw14664729555578175839 tw10278558398969259469 tw1331831870766381927 tw7123485730755963495 tw7883175269203735036 tw3283805160465129551 tw1543478382495468648 tw6126966750395628837 tw6368422543372341951 tw15883231983088595065 tw6783978972367365115 tw18254790846210862352 tw10930451984768381661 tw3246021771828841757 tw838219720949497231 tw13520017690684830021 tw643406007253901182 tw11200196286837747938 tw13291485352797447820 tw16863909219642924655 tw17909330073454321939 tw6864393561550678490 tw14589647217059608311 tw5198770504042835761 tw14290524358194279067 tw17746430248145287238 tw8579254724508479082 tw10186066962407235673 tw2782914608920675542 tw8645416706762741411 tw14449809599204649240 tw14741461005735505526 tw15081260740788192691 tw2468940443024851116 tw16903085289114361896 tw13210575692722752077 tw3715775372540959405 tw4226333718230914040 tw17724889407397652497 tw12361267393971256929 tw4870261441400892344 tw3722073524120405226 tw12640121947221367132:True)
open PySem PySem.W PyProof.Rows
set_option maxRecDepth 100000 in
set_option maxHeartbeats 0 in
theorem PySem.Challenge.cw_bentwires_k31_inner_and_stands_holds : PySem.Challenge.rw_bentwires_k31_inner_and_stands.Holds := by
 w_on;o_law;k_head;(case hw=>w_witness2)
 k_fill
 refine S21.walk (l:=PySem.Challenge.rw_bentwires_k31_inner_and_stands) rfl rfl (fun w h Y=>PySem.W.kIn_of Y) ?F
 case F =>
  intro w mg fa h KX G hmg
  refine' S21.all_mk KX G hmg ?_ ?_ ?_ ?_ ?_ ?_ ?_ ?_ ?_ ?_ ?_ ?_ ?_ ?_ ?_ ?_ ?_ ?_ ?_ ?_ ?_ ?_ ?_ ?_ ?_ ?_ ?_ ?_ ?_ ?_ ?_ ?_ ?_ ?_ ?_ ?_ ?_ ?_ ?_ ?_ ?_ ?_ ?_ ?_ ?_ ?_ ?_ ?_ ?_ ?_ ?a51 ?l51 ?c51 ?k51 ?z1 ?z2 ?z3 ?z4 ?z5 ?z6 ?z7 ?z8 ?z9 ?z10 ?z11 ?z12 ?z13 ?z14 ?hx1 ?hx2
  (case a51=>k_is)
  (case l51=>k_is)
  (case c51=>k_is)
  (case k51=>k_is)
  (case hx1=>kernel_rfl)
  (case hx2=>kernel_rfl)
  any_goals refine' S21.FA.of ?_ ?_ ?_ ?_
  any_goals k_is

import PyProof.Rows.All
import KE.KTabLook
import KE.KLam
import Wide.All
import OpenK.AllK
import Wide.FinOn
import Lean
import PyProof.EqAt
import PyProof.EqKinds
import PyProof.TupleCall
import PySem.Challenge.RW_bentwires_k43_whole_drawn_and_alike
set_option compiler.extract_closed false
set_option maxHeartbeats 3900000
set_option maxRecDepth 100000
set_option Elab.async false
set_option linter.all false
open PySem.W(Frag keepIn nsIn fnOf kitOne CodeHd tabIn kqdOk Dat)
noncomputable section
abbrev aZ:=@List.length_map
abbrev bY:=@List.length_append
abbrev cf:=@List.getElem?_eq_getElem
abbrev cu:=@Nat.le_refl
abbrev cB:=@List.length_take
abbrev cO:=@List.getD_eq_getElem?_getD
abbrev cP:=@List.mem_map
abbrev cZ:=@List.mem_of_getElem?
abbrev c8:=@Option.some.inj
abbrev c9:=@PySem.W.mg_of
abbrev da:=@List.length_drop
abbrev dB:=@List.getElem?_eq_some_iff
abbrev dC:=@List.map_append
abbrev dI:=@List.mem_append
abbrev dP:=@List.mem_singleton
abbrev dR:=@List.size_toArray
abbrev dS:=@PySem.Heap.get?_push_of_some
abbrev dU:=@List.getElem?_map
abbrev dX:=@PySem.Heap.lt_size
abbrev dY:=@List.length_replicate
abbrev ek:=@List.mem_cons_self
abbrev eE:=@List.length_cons
abbrev eW:=@List.mem_cons
abbrev eX:=@Bool.and_eq_true
abbrev gy:=@List.mem_of_mem_take
abbrev gK:=@List.take_add_one
abbrev gM:=@List.mem_of_mem_drop
abbrev hU:=@Nat.le_trans
abbrev ia:=@List.getElem?_append_left
abbrev iw:=@Nat.ne_of_lt
abbrev iy:=@List.mem_cons_of_mem
abbrev iz:=@Bool.false_ne_true
abbrev iA:=@PySem.Heap.get?_push_size
abbrev iI:=@List.getElem?_append_right
abbrev jb:=@List.mem_append_right
abbrev jo:=@Nat.lt_of_lt_of_le
abbrev jq:=@List.mem_range
abbrev jr:=@List.append_assoc
abbrev jy:=@Int.zero_add
abbrev jM:=@List.take_of_length_le
abbrev jN:=@List.all_eq_true
abbrev j7:=@Nat.zero_le
abbrev j8:=@List.append_nil
abbrev lj:=@List.getElem_mem
abbrev lC:=@List.getElem?_eq_none
abbrev lD:=@PySem.PassesOwn.never
abbrev lR:=@Int.emod_nonneg
abbrev lS:=@Int.emod_lt_of_pos
abbrev lT:=@List.take_length
abbrev mx:=@List.map_cons
abbrev my:=@List.mem_iff_getElem
abbrev nR:=@List.mem_append_left
abbrev nS:=@PySem.W.mg_none_of
abbrev oS:=@PySem.Heap.size_push
abbrev oT:=@Int.mul_sub
abbrev oU:=@Int.add_zero
abbrev pW:=@List.mem_filter
abbrev pX:=@PySem.W.kia_one
abbrev pY:=@PySem.mem_of_lookup
abbrev pZ:=@PySem.Heap.SameBut.update
abbrev p6:=@Int.dvd_add
abbrev p7:=@PySem.F.plainAttrs_list
abbrev qI:=@List.of_mem_zip
abbrev qJ:=@List.replicate_succ
abbrev qK:=@List.cons_append
abbrev qL:=@List.length_range
abbrev qM:=@List.mem_replicate
abbrev qN:=@Int.one_mul
abbrev si:=@List.getElem?_drop
abbrev sj:=@Int.mul_comm
abbrev sk:=@List.map_congr_left
abbrev so:=@List.length_nil
abbrev sr:=@Int.natCast_add
abbrev uc:=@Nat.lt_irrefl
abbrev ud:=@List.lookup_cons
abbrev ue:=@PySem.AutoSeq1.wpAny_loadPart'
abbrev uf:=@Nat.zero_add
abbrev ug:=@Nat.min_eq_left
abbrev uh:=@PySem.F.slot_list_append
abbrev ui:=@PySem.F.type_list_append
abbrev uj:=@List.length_take_le
abbrev uk:=@List.eq_nil_of_length_eq_zero
abbrev vC:=@PySem.Heap.get?_update_self
abbrev vD:=@List.flatten_cons
abbrev vE:=@List.drop_zero
abbrev vF:=@List.reverse_append
abbrev vG:=@Nat.le_of_ble_eq_true
abbrev xX:=@List.length_singleton
abbrev xY:=@List.nil_append
abbrev xZ:=@List.not_mem_nil
abbrev x4:=@List.take_append_drop
abbrev x5:=@List.mem_of_mem_eraseIdx
abbrev x6:=@List.length_eraseIdx
abbrev AI:=@PyProof.Rows.slot_tuple_getitem
abbrev AJ:=@Int.dvd_mul_of_dvd_right
abbrev AK:=@List.pairwise_cons
abbrev AL:=@List.mem_map_of_mem
abbrev AM:=@List.filter_append
abbrev AN:=@List.map_replicate
abbrev Fz:=@PyProof.Rows.callWith_type1
abbrev FD:=@PySem.W.cellsFrom_some
abbrev FE:=@List.getElem?_replicate
abbrev FF:=@Classical.byContradiction
abbrev FG:=@List.filter_cons_of_pos
abbrev Mn:=@PySem.F.slot_tuple_iterator_next
abbrev Mo:=@Int.mul_le_mul_of_nonneg_left
abbrev ab:=@decide_eq_false
abbrev ae:=@if_pos
abbrev af:=@if_neg
abbrev ag:=@PySem.wpAny_mono
abbrev ah:=@PySem.wpAny_truthy_bool
abbrev ai:=@congrArg
abbrev aj:=@PySem.wpAny_bind
abbrev ak:=@PySem.wpAny_holding
abbrev ao:=@PySem.wpAny_passesOwn
abbrev aq:=@PySem.wpAny_pure
abbrev ar:=@PySem.wpAny_Call_Name_kw
abbrev au:=@PySem.wpAny_newFunctionEnv_cells
abbrev av:=@PySem.wpAny_loadPart'
abbrev ax:=@PySem.wpAny_callSpecial?_slot
abbrev ay:=@PySem.wpAny_call_entry
abbrev az:=@PySem.wpAny_newObj_type
abbrev aA:=@PySem.call_meets
abbrev aC:=@decide_eq_true
abbrev aD:=@PySem.wpAny_ite_false
abbrev aE:=@decide_eq_false_iff_not
abbrev aF:=@decide_eq_true_eq
abbrev aG:=@of_decide_eq_true
abbrev aH:=@decide_eq_true_iff
abbrev Kp(K:Frag)(f:PySem.Addr):Prop:=keepIn K (.ref f)=true
abbrev Mg(m:PySem.Str→Option PySem.Value)(x:PySem.Str)(f:PySem.Addr):Prop:=m x=some (.ref f)
abbrev QV:=PySem.Value→PySem.Shared→Prop
abbrev LL:=List (List Int)
variable{P:PySem.Program}{w:PySem.World}{K:Frag}{mg:PySem.Str→Option PySem.Value}{base:PySem.Heap}
namespace L2
open PySem PySem.Spec PyProof.Rows
variable{A:Around}{CX:qO}{D:Ends}{E:QV}{H:Hp}{M:Model}{Q:Unit→Shared→Prop}{X:Cx}{a b:Addr}{body:List Stmt}{c e tg:Expr}{ch fp:List Addr}{f:Value→Value→Sem Value}{g:TG}{h:Heap}{i n t':Nat}{o:HO}{op:CmpOp}{aI:List (Addr×Obj)}{ps:List Str}{s:Shared}{t:TE}{tb:TS}{u:Value}{us:List Value}{v:V}{x:Str}{xs:List V}{σ:St}
abbrev Key:=Sum Int Str
noncomputable def vH:Key→Value→Bool
 | .inl k,v=>Value.isInt k v
 | .inr x,v=>Value.isStrOf x v
noncomputable def WB(w:World):Key→Int
 | .inl k=>hashInt k
 | .inr x=>hashStr w x
theorem qP:∀{k:Key}{v:Value},vH k v=true→(∃i t,k=Sum.inl i∧v=Value.int i t)∨(∃x t,k=Sum.inr x∧v=Value.str x t)
 | .inl i,v,h=>by
  obtain⟨t,e⟩:=Value.isInt_shape (k:=i) (v:=v) h;exact .inl ⟨i,t,rfl,e⟩
 | .inr x,v,h=>by
  obtain⟨t,e⟩:=Value.isStrOf_shape (x:=x) (v:=v) h;exact .inr ⟨x,t,rfl,e⟩
theorem WC(i:Int)(t:Tok):vH (.inl i) (.int i t)=true:=by simp[vH,Value.isInt]
theorem WD(x:Str)(t:Tok):vH (.inr x) (.str x t)=true:=by simp[vH,Value.isStrOf]
theorem WE(a b:Int):decide ((Sum.inl a:Key)=Sum.inl b)=(a==b):=by
 by_cases e:a=b
 ·subst e;simp
 ·have h:¬(Sum.inl a:Key)=Sum.inl b:=λq=>e (Sum.inl.inj q);rw[ab h];exact(beq_eq_false_iff_ne.mpr e).symm
theorem WG(a b:Str):decide ((Sum.inr a:Key)=Sum.inr b)=decide (a=b):=by
 by_cases e:a=b
 ·subst e;simp
 ·have h:¬(Sum.inr a:Key)=Sum.inr b:=λq=>e (Sum.inr.inj q);rw[ab h,ab e]
theorem WH(a:Int)(b:Str):decide ((Sum.inl a:Key)=Sum.inr b)=false:=ab (λq=>nomatch q)
theorem WI(a:Str)(b:Int):decide ((Sum.inr a:Key)=Sum.inl b)=false:=ab (λq=>nomatch q)
noncomputable def j9(prog:Program)(w:World):PySem.KeyKind prog w Key where
 is:=vH
 hash:=WB w
 inj:=λv a b ha hb=>by
  rcases qP ha with⟨i,t,rfl,rfl⟩|⟨x,t,rfl,rfl⟩
  ·rcases qP hb with⟨j,u,rfl,e⟩|⟨y,u,rfl,e⟩
   ·injection e with e1 _;rw[e1]
   ·exact nomatch e
  ·rcases qP hb with⟨j,u,rfl,e⟩|⟨y,u,rfl,e⟩
   ·exact nomatch e
   ·injection e with e1 _;rw[e1]
 byValue:=λk v h=>by
  rcases qP h with⟨i,t,rfl,rfl⟩|⟨x,t,rfl,rfl⟩<;>rfl
 pyHash:=λhv h=>by
  rcases qP hv with⟨i,t,rfl,rfl⟩|⟨x,t,rfl,rfl⟩
  ·exact wpAny_pyHash_int h
  ·exact wpAny_pyHash_str h
 eqBool:=λhu hv h=>by
  rcases qP hu with⟨i,t,rfl,rfl⟩|⟨x,t,rfl,rfl⟩
  ·rcases qP hv with⟨j,u,rfl,rfl⟩|⟨y,u,rfl,rfl⟩
   ·rw[WE]at h;exact wpAny_eqBool_int h
   ·rw[WH]at h;exact SeqAt.EqAt.int_str i t y u _ _ _ _ h
  ·rcases qP hv with⟨j,u,rfl,rfl⟩|⟨y,u,rfl,rfl⟩
   ·rw[WI]at h;exact SeqAt.EqAt.str_int x t j u _ _ _ _ h
   ·rw[WG]at h;exact wpAny_eqBool_str h
 «strs»:=λk x t v h=>by
  rcases qP h with⟨i,u,rfl,e⟩|⟨y,u,rfl,e⟩
  ·exact nomatch e
  ·injection e with e1 _;subst e1;cases v<;>rfl
theorem WJ(prog:Program)(w:World)(i:Int)(t:Tok):(j9 prog w).is (.inl i) (.int i t)=true:=WC i t
theorem WK(prog:Program)(w:World)(x:Str)(t:Tok):(j9 prog w).is (.inr x) (.str x t)=true:=WD x t
inductive V where
 |ck|bl (b:Bool)|int (i:Int)|str (x:Str)|lU (b:Array UInt8)|um (b:UInt64)|ref (a:Addr)|ty (n:String)
 deriving DecidableEq
def RelV:V→Value→Prop
 | .ck,u=>u=Value.none
 | .bl b,u=>u=Value.bool b
 | .int i,u=>∃t,u=Value.int i t
 | .str x,u=>∃t,u=Value.str x t
 | .lU b,u=>∃t,u=Value.bytes b t
 | .um b,u=>∃t,u=Value.float b t
 | .ref a,u=>u=Value.ref a
 | .ty n,u=>u=Value.type n
abbrev Vals:List V→List Value→Prop:=Paired RelV
theorem Vals.length{xs:List V}{us:List Value}(r:Vals xs us):xs.length=us.length:=Paired.length r
theorem Vals.get:∀{xs:List V}{us:List Value}{i:Nat}{x:V},Vals xs us→xs[i]?=some x→∃u,us[i]?=some u∧RelV x u
 |_,_,_,_,.nil,e=>by simp at e
 |_,_,0,_,.cons r _,e=>by simp at e;subst e;exact⟨_,rfl,r⟩
 |_,_,i+1,x,.cons _ t,e=>by
  obtain⟨u,h1,h2⟩:=Vals.get (i:=i) (x:=x) t (by simpa using e);exact⟨u,by simpa using h1,h2⟩
theorem Vals.set{x:V}{u:Value}(r:RelV x u):∀{xs:List V}{us:List Value}(i:Nat),Vals xs us→Vals (xs.set i x) (us.set i u)
 |_,_,_,.nil=>.nil
 |_,_,0,.cons _ t=>.cons r t
 |_,_,i+1,.cons q t=>.cons q (Vals.set r i t)
theorem Vals.append:∀{xs ys:List V}{us ws:List Value},Vals xs us→Vals ys ws→Vals (xs++ys) (us++ws)
 |_,_,_,_,.nil,s=>s
 |_,_,_,_,.cons r t,s=>.cons r (Vals.append t s)
theorem Vals.take:∀{xs:List V}{us:List Value}(n:Nat),Vals xs us→Vals (xs.take n) (us.take n)
 |_,_,0,_=>.nil
 |_,_,_+1,.nil=>.nil
 |_,_,n+1,.cons r t=>.cons r (Vals.take n t)
theorem Vals.drop:∀{xs:List V}{us:List Value}(n:Nat),Vals xs us→Vals (xs.drop n) (us.drop n)
 |_,_,0,r=>r
 |_,_,_+1,.nil=>.nil
 |_,_,n+1,.cons _ t=>Vals.drop n t
def oV:Option V→Option Value→Prop
 |some v,some u=>RelV v u
 |none,none=>True
 |_,_=>False
def KV{κ:Type}:List (κ×V)→List (κ×Value)→Prop:=Paired λ(p:κ×V)(q:κ×Value)=>p.1=q.1∧RelV p.2 q.2
noncomputable def kV:Key→V
 | .inl i=>.int i
 | .inr x=>.str x
inductive HO where
 |lst (xs:List V)
 |tup (xs:List V)
 |dK (aR:List (Key×V))|dT (aR:List (List Key×V))
 |set (S:Int→Bool) (n:Nat)
 |ins (C dx:Addr) (fs:List (Str×V))
 |own (x:Addr)
 |xd (fs:List (Str×V))
 |met (f x:Addr)
 |mz (lo hi:Int)
 |jO (o:Obj) (u:HO)
 |gj (ps:Array Value)
 |ext (φ:Heap→Prop)
abbrev Hp:=Addr→Option HO
noncomputable def upd(H:Hp)(a:Addr)(o:HO):Hp:=λb=>if b=a then some o else H b
theorem aV:upd H a o a=some o:=by unfold upd;rw[ae rfl]
theorem cG(h:b≠a):upd H a o b=H b:=by unfold upd;rw[af h]
theorem WM{u:HO}:upd (upd H a o) a u=upd H a u:=by
 funext b;unfold upd;split<;>rfl
theorem WN{u:HO}(h:H a=some o)(h':H b=some u)(d:o≠u):a≠b:=by
 intro e;subst e;rw[h]at h';exact d (c8 h')
theorem gN(h:H a=some o)(h':H b=none):a≠b:=by
 intro e;subst e;rw[h]at h';cases h'
section
variable(P:Program)(w:World)
def fu(H:Hp)(h:Heap)(a:Addr):HO→Prop
 | .lst xs=>xs.length≤sizeLine∧∃(its:List Value)(n:Nat),Vals xs its∧h.get? a=some { cls:=.type "list",data:=.seq its.toArray n }
 | .tup xs=>xs.length≤sizeLine∧∃its:List Value,Vals xs its∧IsTup h a its.toArray
 | .dK aR=>aR.length≤sizeLine∧(a==sysModules)=false∧∃vs,KV aR vs∧h.DictOf (j9 P w) a vs
 | .dT aR=>aR.length≤sizeLine∧(a==sysModules)=false∧∃xs:List (List Key×Addr×Value),
   Paired (λ(p:List Key×V)(q:List Key×Addr×Value)=>p.1=q.1∧H q.2.1=some (.tup (p.1.map kV))∧RelV p.2 q.2.2) aR xs∧
   ∃o es ep,h.get? a=some o∧o.ExactDict∧o.data=.dict es ep∧es.toList=xs.map (entryOfKey (tupleKind (j9 P w)))∧(xs.map (·.1)).Nodup
 | .set S n=>h.SetOf (intKind P w) a S n
 | .ins C dx fs=>H dx=some (.own a)∧fs.length≤1000∧dx≠a∧h.get? a=some (PySem.W.instObj C dx)∧
   ∃mA,h.Ns1 dx mA∧(∀f,oV (fs.lookup f) (mA f))∧PySem.Within mA (fs.map (·.1))
 | .own _=>∃o,h.get? a=some o
 | .xd fs=>∃mA,h.Ns1 a mA∧∀f,oV (fs.lookup f) (mA f)
 | .mz lo hi=>∃t u v,h.get? a=some { cls:=.type "range",data:=.fields #[.int lo t,.int hi u,.int 1 v] }
 | .jO o u=>h.get? a=some o∧fu H h a u
 | .gj ps=>h.get? a=some { cls:=.none,data:=.fields ps }
 | .met f x=>h.get? a=some (PySem.W.methodObj (.ref f) (.ref x))
 | .ext φ=>φ h∧(∃o,h.get? a=some o)∧∀h1 h2:Heap,φ h1→(∀o,h1.get? a=some o→h2.get? a=some o)→φ h2
def fE(H:Hp)(h:Heap):Prop:=∀a o,H a=some o→fu P w H h a o
end
section
variable{P:Program}{w:World}{H H':Hp}{h h':Heap}{a:Addr}{o:HO}
theorem fu.lt(x:fu P w H h a o):a<h.objs.size:=by
 cases o with
 |lst xs=>obtain⟨_,_,_,_,e⟩:=x;exact dX e
 |tup xs=>obtain⟨_,_,_,p⟩:=x;exact p.lt
 |dK aR=>obtain⟨_,_,_,_,o,_,_,e,_⟩:=x;exact dX e
 |dT aR=>obtain⟨_,_,_,_,o,_,_,e,_⟩:=x;exact dX e
 |set S n=>obtain⟨o,_,_,_,e,_⟩:=x;exact dX e
 |ins C dx fs=>obtain⟨_,_,_,e,_⟩:=x;exact dX e
 |own y=>obtain⟨_,e⟩:=x;exact dX e
 |xd fs=>obtain⟨_,⟨_,_,_,e,_⟩,_⟩:=x;exact dX e
 |mz lo hi=>obtain⟨_,_,_,e⟩:=x;exact dX e
 |jO ob u=>obtain⟨e,_⟩:=x;exact dX e
 |gj ps=>exact dX (show h.get? a=some _ from x)
 |met f y=>exact dX (show h.get? a=some _ from x)
 |ext φ=>obtain⟨_,⟨_,e⟩,_⟩:=x;exact dX e
theorem Paired.FH{α β:Type}{F G:α→β→Prop}:∀{l₁:List α}{l₂:List β},Paired F l₁ l₂→(∀a b,F a b→G a b)→Paired G l₁ l₂
 |_,_,.nil,_=>.nil
 |_,_,.cons r t,f=>.cons (f _ _ r) (Paired.FH t f)
theorem fu.qQ(x:fu P w H h a o)(k:∀b u,(b=a∨H b=some (.own a))→h.get? b=some u→h'.get? b=some u)
  (ho:∀b,H b=some (.own a)→H' b=some (.own a)) (ht:∀b xs,H b=some (.tup xs)→H' b=some (.tup xs)):fu P w H' h' a o:=by
 induction o with
 |lst xs=>obtain⟨z,its,n,r,e⟩:=x;exact⟨z,its,n,r,k _ _ (.inl rfl) e⟩
 |tup xs=>obtain⟨z,its,r,ob,e,c⟩:=x;exact⟨z,its,r,ob,k _ _ (.inl rfl) e,c⟩
 |dK aR=>obtain⟨z,y,vs,r,ob,es,ep,e,c⟩:=x;exact⟨z,y,vs,r,ob,es,ep,k _ _ (.inl rfl) e,c⟩
 |dT aR=>
  obtain⟨z,y,xs,r,ob,es,ep,e,c⟩:=x;exact⟨z,y,xs,Paired.FH r λp q z=>⟨z.1,ht _ _ z.2.1,z.2.2⟩,ob,es,ep,k _ _ (.inl rfl) e,c⟩
 |set S n=>obtain⟨ob,es,ep,t,e,c⟩:=x;exact⟨ob,es,ep,t,k _ _ (.inl rfl) e,c⟩
 |ins C dx fs=>
  obtain⟨d,z,ne,e,mA,⟨od,es,ep,e2,c⟩,r⟩:=x;exact⟨ho _ d,z,ne,k _ _ (.inl rfl) e,mA,⟨od,es,ep,k _ _ (.inr d) e2,c⟩,r⟩
 |own y=>obtain⟨ob,e⟩:=x;exact⟨ob,k _ _ (.inl rfl) e⟩
 |xd fs=>obtain⟨mA,⟨od,es,ep,e,c⟩,r⟩:=x;exact⟨mA,⟨od,es,ep,k _ _ (.inl rfl) e,c⟩,r⟩
 |mz lo hi=>obtain⟨t,u,v,e⟩:=x;exact⟨t,u,v,k _ _ (.inl rfl) e⟩
 |jO ob u ih=>obtain⟨e,q⟩:=x;exact⟨k _ _ (.inl rfl) e,ih q⟩
 |gj ps=>
  have e:h.get? a=some { cls:=.none,data:=.fields ps }:=x;show h'.get? a=some { cls:=.none,data:=.fields ps };exact k a _ (.inl rfl) e
 |met f y=>
  have e:h.get? a=some (PySem.W.methodObj (.ref f) (.ref y)):=x;show h'.get? a=some (PySem.W.methodObj (.ref f) (.ref y));exact k a _ (.inl rfl) e
 |ext φ=>obtain⟨p,⟨o,e⟩,st⟩:=x;exact⟨st _ _ p λo q=>k _ _ (.inl rfl) q,⟨o,k _ _ (.inl rfl) e⟩,st⟩
theorem fE.lt(x:fE P w H h)(e:H a=some o):a<h.objs.size:=(x a o e).lt
theorem fE.fresh(x:fE P w H h)(e:h.objs.size≤a):H a=none:=by
 cases q:H a with
 |none=>rfl
 |some u=>exact absurd (jo (x.lt q) e) (uc _)
theorem fE.kept(x:fE P w H h)(k:∀b u,h.get? b=some u→h'.get? b=some u):fE P w H h':=λa o e=>
 (x a o e).qQ (λb u _ q=>k b u q) (λ_ q=>q) λ_ _ q=>q
theorem fE.laid(x:fE P w H h)(k:∀b u,h.get? b=some u→h'.get? b=some u)(hp:h.objs.size≤a)(new:fu P w (upd H a o) h' a o):fE P w (upd H a o) h':=λb u e=>by
 have hn:=x.fresh hp;by_cases hb:b=a
 ·subst hb;rw[aV]at e;cases e;exact new
 ·rw[cG hb]at e;exact(x b u e).qQ (λc v _ q=>k c v q) (λc q=>by rw[cG (gN q hn)];exact q) λc xs q=>by rw[cG (gN q hn)];exact q
end
def Rd(H:Hp)(a:Addr)(u:HO):Prop:=H a=some u∨∃o,H a=some (.jO o u)
theorem Rd.ok{P:Program}{w:World}{u:HO}(r:Rd H a u)(x:fE P w H h):fu P w H h a u:=by
 rcases r with r|⟨o,r⟩
 ·exact x a u r
 ·obtain⟨_,q⟩:=x a _ r;exact q
def x8:Option HO→Prop
 |some (.lst _)=>True
 |some (.dK _)=>True
 |some (.dT _)=>True
 |some (.set _ _)=>True
 |some (.ins _ _ _)=>True
 |some (.ext _)=>True
 |_=>False
section
variable{P:Program}{w:World}{H:Hp}{h h':Heap}{x e:Addr}{o':HO}
theorem fE.write(ok:fE P w H h)(mu:x8 (H x))(he:e=x∨H e=some (.own x))(k:∀b u,b≠e→h.get? b=some u→h'.get? b=some u)(vI:∃u,h'.get? e=some u)
  (new:fu P w (upd H x o') h' x o'):fE P w (upd H x o') h':=λb u q=>by
 have Mp:∀c y,H c=some (.own y)→c≠x:=λc y r z=>by subst z;rw[r]at mu;exact mu
 have WO:∀c xs,H c=some (.tup xs)→c≠x:=λc xs r z=>by subst z;rw[r]at mu;exact mu
 by_cases hb:b=x
 ·subst hb;rw[aV]at q;cases q;exact new
 ·rw[cG hb]at q;by_cases uo:b=e
  ·have q':H b=some (.own x):=by
    rcases he with z|z
    ·exact absurd (uo.trans z) hb
    ·rw[uo];exact z
   rw[q]at q';cases q';obtain⟨v,hv⟩:=vI;exact⟨v,by rw[uo];exact hv⟩
  ·refine(ok b u q).qQ (λc v hc r=>k c v ?_ r) (λc r=>by rw[cG (Mp c b r)];exact r) λc xs r=>by rw[cG (WO c xs r)];exact r
   rcases hc with rfl|hc
   ·exact uo
   ·rintro rfl;rcases he with z|z
    ·exact Mp c b hc z
    ·rw[hc]at z;cases z;exact hb rfl
end
structure Un(fs ex:List Addr)(H H':Hp)(h h':Heap):Prop where
 keep:∀b o,h.get? b=some o→H b=none→b ∉ fs→b ∉ ex→h'.get? b=some o
 slot:∀b o,h.get? b=some o→H b=none→b∈fs→b ∉ ex→∃sl,h'.get? b=some { o with slots:=sl }
 free:∀b o,h.get? b=some o→H b=none→b ∉ ex→H' b=none
 there:∀b o,h.get? b=some o→b ∉ ex→∃o',h'.get? b=some o'
 qR:∀b xs,H b=some (.tup xs)→H' b=some (.tup xs)
 p8:∀b o u,H b=some (.jO o u)→H' b=some (.jO o u)
 p9:∀b ps,H b=some (.gj ps)→∃gY,H' b=some (.gj (ps++gY))
section
variable{fs Mq ex ex':List Addr}{H H1 H2:Hp}{h h1 h2 h':Heap}{a x e:Addr}{o:HO}
theorem Un.any(u:Un fs ex H H1 h h1){ob:Obj}(q:h.get? b=some ob)(n:H b=none)(hx:b ∉ ex):∃sl,h1.get? b=some { ob with slots:=sl }:=by
 by_cases hb:b∈fs
 ·exact u.slot b ob q n hb hx
 ·exact⟨ob.slots,u.keep b ob q n hb hx⟩
theorem Un.kept(k:∀b u,h.get? b=some u→h'.get? b=some u):Un fs ex H H h h':=
 ⟨λb ob q _ _ _=>k b ob q,λb ob q _ _ _=>⟨ob.slots,k b ob q⟩,λ_ _ _ n _=>n,λb ob q _=>⟨ob,k b ob q⟩,λ_ _ q=>q,λ_ _ _ q=>q,λ_ ps q=>⟨#[],by rw[q];simp⟩⟩
theorem Un.refl:Un fs ex H H h h:=Un.kept λ_ _ q=>q
theorem Un.laid(k:∀b u,h.get? b=some u→h'.get? b=some u)(hp:h.objs.size≤a)(hn:H a=none):Un fs ex H (upd H a o) h h' where
 keep:=λb u q _ _ _=>k b u q
 slot:=λb u q _ _ _=>⟨u.slots,k b u q⟩
 free:=λb u q n _=>by rw[cG (iw (jo (dX q) hp))];exact n
 there:=λb u q _=>⟨u,k b u q⟩
 qR:=λb xs q=>by rw[cG (gN q hn)];exact q
 p8:=λb u xs q=>by rw[cG (gN q hn)];exact q
 p9:=λb ps q=>⟨#[],by rw[cG (gN q hn),q];simp⟩
theorem Un.write(mu:x8 (H x))(he:e=x∨H e=some (.own x))(k:∀b u,b≠e→h.get? b=some u→h'.get? b=some u)(vI:∃u,h'.get? e=some u):Un fs ex H (upd H x o) h h':=by
 have hx:∀b,H b=none→b≠x:=λb n z=>by subst z;rw[n]at mu;exact mu
 have hb:∀b,H b=none→b≠e:=λb n z=>by
  subst z;rcases he with r|r
  ·exact hx b n r
  ·rw[n]at r;cases r
 have hm:∀b u,H b=some u→¬x8 (some u)→b≠x:=λb u q nm z=>by subst z;rw[q]at mu;exact nm mu
 refine⟨λb u q n _ _=>k b u (hb b n) q,λb u q n _ _=>⟨u.slots,k b u (hb b n) q⟩,λb u q n _=>by rw[cG (hx b n)];exact n,λb u q _=>?_,
  λb xs q=>by rw[cG (hm b _ q λz=>z)];exact q,λb u xs q=>by rw[cG (hm b _ q λz=>z)];exact q,λb ps q=>⟨#[],by rw[cG (hm b _ q λz=>z),q];simp⟩⟩
 by_cases uo:b=e
 ·subst uo;exact vI
 ·exact⟨u,k b u uo q⟩
end
noncomputable def AO(h:Heap)(H:Hp):List Addr:=(List.range h.objs.size).filter λa=>(H a).isSome
noncomputable def oW(h:Heap)(H:Hp):Heap:=PySem.W.hideAll h (AO h H)
theorem WQ(h:Heap)(H:Hp):(oW h H).objs.size=h.objs.size:=PySem.W.hideAll_size _ _
theorem WR{o:Obj}(e:h.get? b=some o)(n:H b=none):(oW h H).get? b=some o:=
 PySem.W.hideAll_get _ e λhm=>by
  have q:(H b).isSome=true:=(pW.mp hm).2;rw[n]at q;simp at q
theorem WU{o:Obj}(e:(oW h H).get? b=some o):h.get? b=some o∧H b=none:=by
 have e':h.get? b=some o:=PySem.W.of_hideAll (AO h H) e;refine⟨e',?_⟩;cases q:H b with
 |none=>rfl
 |some x=>
  have hm:b∈AO h H:=pW.mpr ⟨jq.mpr (dX e'),by simp[q]⟩;have z:(oW h H).get? b=none:=PySem.W.hideAll_none (AO h H) hm;rw[z]at e;cases e
noncomputable def WV(g h:Heap)(L:Addr):List (Addr×Obj):=(List.range h.objs.size).filterMap λa=>if a=L∨(g.get? a).isSome=true then none else(h.get? a).map λo=>(a,o)
noncomputable def dM(g h:Heap)(L d:Addr):List (Addr×Obj):=(WV g h L).filter λp=>decide (p.1≠d)
structure Mod(K:Frag)(mg:Str→Option Value)(base:Heap):Prop where
 uq:K.In base
 glob:base.Ns mainGlobals mg
 blt:∃mb,base.Ns builtinsNs mb∧∀x:Str,x ≠ "__name__"→mb x=bootBuiltins x
 nolimit:base.NoLimit
structure Cx where
 prog:Program
 w:World
 K:Frag
 mg:Str→Option Value
 base:Heap
 A:Around
 N:List Str
 s₀:Shared
 H₀:Hp
 env:Env
 outer:List Env
 stack:List Env
 ex:List Addr
 fn:Str→Bool
 calm:Bool
 pn:List (Addr×Obj)
 xe:QV
noncomputable def lV(l:List Env):List Addr:=l.filterMap (·.frame)
noncomputable abbrev Cx.fs(X:Cx):List Addr:=lV X.outer
def x9(sc:Scope)(x:Str):Prop:=sc.names.lookup x=some .local∨sc.names.lookup x=some .cell∨sc.names.lookup x=some .free
def Loc(sc:Scope)(x:Str):Prop:=sc.names.lookup x=some .local∨sc.names.lookup x=some .cell
def Look(env:Env)(h:Heap)(m:Str→Option Value)(x:Str)(u:Value):Prop:=
 (env.kindOf x=some .local∧m x=some u)∨((env.kindOf x=some .cell∨env.kindOf x=some .free)∧∃c,env.cells.lookup x=some c∧h.IsCell c (some u))
structure Cx.Ok(X:Cx):Prop where
 mod:Mod X.K X.mg X.base
 kind:X.env.scope.kind=.function
 glob:X.env.globals=mainGlobals
 blt:X.env.builtins=builtinsNs
 above:X.s₀.heap.objs.size≤X.env.locals
 inj:∀x y c,X.env.cells.lookup x=some c→X.env.cells.lookup y=some c→x=y
 has:∀x,(X.env.kindOf x=some .cell∨X.env.kindOf x=some .free)→∃c,X.env.cells.lookup x=some c
 ya:∀x c,X.fn x=true→X.env.cells.lookup x=some c→X.s₀.heap.objs.size≤c
 hd:X.calm=true→X.A.handled=none
 frames:X.A.frames=some X.stack
 AQ:X.stack=X.outer∨(X.stack=X.env::X.outer∧X.env.frame=some X.env.locals)
 yd:∀b∈X.ex,b≠X.env.locals∧∀x c,X.env.cells.lookup x=some c→c≠b
 bs:∀b o,X.base.get? b=some o→X.s₀.heap.get? b=some o∧X.H₀ b=none
 qS:X.base.objs.size≤X.s₀.heap.objs.size
 yf:∀b o,X.base.get? b=some o→b ∉ X.ex
 vJ:∀b∈X.ex,b ∉ X.fs
 nT:X.s₀.heap.FunFrames X.base X.outer
 ur:∀b∈X.fs,X.H₀ b=none
structure Inv(X:Cx)(aI:List (Addr×Obj))(σ:List (Option V))(H:Hp)(s:Shared):Prop where
 ok:X.Ok
 os:s.os=X.s₀.os
 bare:AllBare s.gens
 base:Un X.fs X.ex X.H₀ H X.s₀.heap s.heap
 loc:∃m,s.heap.Ns X.env.locals m∧∀(i:Nat)(x:Str)(v:V),X.N[i]?=some x→σ[i]?=some (some v)→x9 X.env.scope x→∃u,RelV v u∧Look X.env s.heap m x u
 cell:∀x c,X.env.cells.lookup x=some c→∃v,s.heap.IsCell c v
 free:H X.env.locals=none
 oX:∀x c,X.env.cells.lookup x=some c→H c=none
 pin:∀p∈X.pn++aI,s.heap.get? p.1=some p.2∧H p.1=none∧p.1≠X.env.locals∧p.1 ∉ X.fs∧∀v,p.2.data≠.cell v
 bK:fE X.prog X.w H s.heap
 len:σ.length=X.N.length
section
variable{X:Cx}{aI:List (Addr×Obj)}{σ:List (Option V)}{H H':Hp}{s:Shared}{h':Heap}
theorem Cx.Ok.WW(ok:X.Ok){o:Obj}(e:X.base.get? b=some o):b ∉ X.fs:=λhb=>by
 have:=(ok.nT.mem hb).1
 rw[e]at this;cases this
theorem Inv.bs(I:Inv X aI σ H s):∀b o,X.base.get? b=some o→s.heap.get? b=some o∧H b=none:=λb o e=>
 ⟨I.base.keep b o (I.ok.bs b o e).1 (I.ok.bs b o e).2 (I.ok.WW e) (I.ok.yf b o e),I.base.free b o (I.ok.bs b o e).1 (I.ok.bs b o e).2 (I.ok.yf b o e)⟩
theorem Inv.bk(I:Inv X aI σ H s):∀b o,X.base.get? b=some o→s.heap.get? b=some o:=λb o e=>(I.bs b o e).1
theorem Inv.mod(I:Inv X aI σ H s):Mod X.K X.mg X.base:=I.ok.mod
theorem Inv.gO(I:Inv X aI σ H s):X.K.In s.heap:=I.ok.mod.uq.keeps I.bk
theorem Inv.lt(I:Inv X aI σ H s):X.env.locals<s.heap.objs.size:=let ⟨_,hn,_⟩:=I.loc;hn.lt
theorem Inv.sz(I:Inv X aI σ H s):X.s₀.heap.objs.size≤s.heap.objs.size:=hU I.ok.above (Nat.le_of_lt I.lt)
theorem Inv.WX(I:Inv X aI σ H s)(h:s.heap.objs.size≤a):a ∉ X.fs:=λhb=>by
 obtain⟨_,o,ho,_⟩:=I.ok.nT.mem hb;exact absurd (jo (dX ho) (hU I.sz h)) (uc _)
theorem Inv.uv(I:Inv X aI σ H s):∀x c,X.env.cells.lookup x=some c→c≠X.env.locals:=λx c e z=>by
 obtain⟨v,o,ho,hd⟩:=I.cell x c e;obtain⟨m,⟨o',es,ep,qT,AR,_⟩,_⟩:=I.loc;rw[z,qT]at ho;cases ho;rw[AR]at hd;cases hd
theorem Inv.nT(I:Inv X aI σ H s):s.heap.FunFrames X.base X.outer:=by
 have all:∀(l:List Env),(∀b∈lV l,b∈X.fs)→X.s₀.heap.FunFrames X.base l→s.heap.FunFrames X.base l:=by
  intro l;induction l with
  |nil=>intro _ _;trivial
  |cons env r ih=>
   intro hs hl;obtain⟨hk,⟨L,o,hf,hn,ho,hd⟩,hr⟩:=hl;have hL:L∈X.fs:=hs L (by unfold lV;rw[List.filterMap_cons,hf];exact ek);obtain⟨sl,e⟩:=I.base.slot L o ho (I.ok.ur L hL) hL λz=>I.ok.vJ L z hL;exact⟨hk,⟨L,_,hf,hn,e,hd⟩,ih (λb hb=>hs b (by unfold lV;rw[List.filterMap_cons,hf];exact iy _ hb)) hr⟩
 exact all X.outer (λ_ hb=>hb) I.ok.nT
theorem Inv.stack(I:Inv X aI σ H s):s.heap.FunFrames X.base X.stack:=by
 rcases I.ok.AQ with e|⟨e,hf⟩
 ·rw[e];exact I.nT
 ·rw[e];obtain⟨m,hn,_⟩:=I.loc;refine .cons (by rw[I.ok.kind];decide) hf hn ?_ I.nT;exact Heap.get?_none_of_le (hU I.ok.qS I.ok.above)
theorem Inv.FJ(I:Inv X aI σ H s):∀b∈lV X.stack,b∈X.env.locals::X.fs:=λb hb=>by
 rcases I.ok.AQ with e|⟨e,hf⟩
 ·rw[e]at hb;exact iy _ hb
 ·rw[e]at hb;unfold lV at hb;rw[List.filterMap_cons,hf]at hb;exact hb
theorem Inv.Mr(I:Inv X aI σ H s):∀b∈lV X.stack,H b=none:=λb hb=>by
 rcases eW.mp (I.FJ b hb)with e|hb
 ·rw[e];exact I.free
 ·obtain⟨_,o,ho,_⟩:=I.ok.nT.mem hb;exact I.base.free b o ho (I.ok.ur b hb) λz=>I.ok.vJ b z hb
theorem Inv.step{g':Array GenState}{d':Drawn}(I:Inv X aI σ H s)
  (qc:∀b∈ch,(b∈X.ex∨X.s₀.heap.objs.size≤b)∧b≠X.env.locals∧(∀x c,X.env.cells.lookup x=some c→c≠b)∧∀p∈X.pn++aI,p.1≠b)
  (keep:∀b o,b≠X.env.locals→b ∉ X.fs→b ∉ ch→s.heap.get? b=some o→H b=none→h'.get? b=some o)
  (slot:∀b o,b≠X.env.locals→b∈X.fs→b ∉ ch→s.heap.get? b=some o→H b=none→∃sl,h'.get? b=some { o with slots:=sl }) (free:∀b o,b ∉ ch→s.heap.get? b=some o→H b=none→H' b=none)
  (there:∀b o,b ∉ ch→s.heap.get? b=some o→∃o',h'.get? b=some o')
  (qR:∀b xs,H b=some (.tup xs)→H' b=some (.tup xs)) (p8:∀b o u,H b=some (.jO o u)→H' b=some (.jO o u)) (p9:∀b ps,H b=some (.gj ps)→∃gY,H' b=some (.gj (ps++gY)))
  (ns:∀m,s.heap.Ns X.env.locals m→h'.Ns X.env.locals m) (bK:fE X.prog X.w H' h') (hg:AllBare g') :
  Inv X aI σ H' { s with heap:=h',gens:=g',drawn:=d',toks:=t' }:=by
 have Ms:∀b o,X.s₀.heap.get? b=some o→b≠X.env.locals:=λb o e=>iw (jo (dX e) I.ok.above);have AU:∀b o,X.s₀.heap.get? b=some o→b ∉ X.ex→b ∉ ch:=λb o e hx hb=>by
  rcases(qc b hb).1 with z|z
  ·exact hx z
  ·exact absurd (jo (dX e) z) (uc _)
 have Mt:∀x c,X.env.cells.lookup x=some c→∀v,s.heap.IsCell c v→h'.IsCell c v:=λx c e v ⟨o,ho,hd⟩=>by
  have yh:c ∉ ch:=λz=>(qc c z).2.2.1 x c e rfl;by_cases hc:c∈X.fs
  ·obtain⟨sl,q⟩:=slot c o (I.uv x c e) hc yh ho (I.oX x c e);exact⟨_,q,hd⟩
  ·exact⟨o,keep c o (I.uv x c e) hc yh ho (I.oX x c e),hd⟩
 refine⟨I.ok,I.os,hg,⟨λb o e n hb hx=>?_,λb o e n hb hx=>?_,λb o e n hx=>?_,λb o e hx=>?_,λb xs e=>qR b xs (I.base.qR b xs e),λb o xs e=>p8 b o xs (I.base.p8 b o xs e),λb ps e=>?_⟩,?_,λx c e=>?_,?_,λx c e=>?_,λp hp=>?_,bK,I.len⟩
 ·exact keep b o (Ms b o e) hb (AU b o e hx) (I.base.keep b o e n hb hx) (I.base.free b o e n hx)
 ·obtain⟨sl,e1⟩:=I.base.slot b o e n hb hx;obtain⟨FK,e2⟩:=slot b _ (Ms b o e) hb (AU b o e hx) e1 (I.base.free b o e n hx);exact⟨FK,e2⟩
 ·obtain⟨o',e1⟩:=I.base.there b o e hx;exact free b o' (AU b o e hx) e1 (I.base.free b o e n hx)
 ·obtain⟨o',e1⟩:=I.base.there b o e hx;exact there b o' (AU b o e hx) e1
 ·obtain⟨m1,e1⟩:=I.base.p9 b ps e;obtain⟨m2,e2⟩:=p9 b _ e1;exact⟨m1++m2,by rw[e2,Array.append_assoc]⟩
 ·obtain⟨m,hn,hl⟩:=I.loc;refine⟨m,ns m hn,λi x v e1 e2 e3=>?_⟩;obtain⟨u,r,l⟩:=hl i x v e1 e2 e3;refine⟨u,r,?_⟩;rcases l with l|⟨k,c,e,z⟩
  ·exact .inl l
  ·exact .inr ⟨k,c,e,Mt x c e _ z⟩
 ·obtain⟨v,z⟩:=I.cell x c e;exact⟨v,Mt x c e v z⟩
 ·obtain⟨m,⟨o,_,_,ho,_⟩,_⟩:=I.loc;exact free _ o (λz=>(qc _ z).2.1 rfl) ho I.free
 ·obtain⟨v,o,ho,hd⟩:=I.cell x c e;exact free c o (λz=>(qc c z).2.2.1 x c e rfl) ho (I.oX x c e)
 ·obtain⟨e,n,ne,nf,d⟩:=I.pin p hp;have yh:p.1 ∉ ch:=λz=>(qc p.1 z).2.2.2 p hp rfl;exact⟨keep p.1 p.2 ne nf yh e n,free p.1 p.2 yh e n,ne,nf,d⟩
theorem Inv.un(I:Inv X aI σ H s)(u:Un X.fs [] H H' s.heap h')(bK:fE X.prog X.w H' h'):Inv X aI σ H' { s with heap:=h',toks:=t' }:=by
 obtain⟨m,⟨o,es,ep,ho,r⟩,_⟩:=id I.loc;obtain⟨sl,hL⟩:=u.any ho I.free (by simp);exact I.step (g':=s.gens) (d':=s.drawn) (ch:=[]) (λ_ z=>nomatch z) (λb o _ hb _ e n=>u.keep b o e n hb (by simp)) (λb o _ hb _ e n=>u.slot b o e n hb (by simp)) (λb o _ e n=>u.free b o e n (by simp)) (λb o _ e=>u.there b o e (by simp)) u.qR u.p8 u.p9 (λm' hm=>by
  obtain⟨o',es',FN,qT,r'⟩:=hm;rw[ho]at qT;cases qT;exact⟨_,es',FN,hL,r'⟩) bK I.bare
theorem Inv.call{g':Array GenState}{d':Drawn}(I:Inv X aI σ H s)(u:Un (lV X.stack) ch H H' s.heap h')(bK:fE X.prog X.w H' h')(hg:AllBare g')
  (qc:∀b∈ch,(b∈X.ex∨X.s₀.heap.objs.size≤b)∧b≠X.env.locals∧(∀x c,X.env.cells.lookup x=some c→c≠b)∧∀p∈X.pn++aI,p.1≠b) :
  Inv X aI σ H' { s with heap:=h',gens:=g',drawn:=d',toks:=t' }:=by
 obtain⟨m,⟨o,es,ep,ho,r⟩,_⟩:=id I.loc;obtain⟨sl,hL⟩:=u.any ho I.free λz=>(qc _ z).2.1 rfl;exact I.step (ch:=ch) qc (λb o hL hb hc e n=>u.keep b o e n (λz=>(eW.mp (I.FJ b z)).elim hL hb) hc) (λb o _ _ hc e n=>u.any e n hc) (λb o hc e n=>u.free b o e n hc) (λb o hc e=>u.there b o e hc) u.qR u.p8 u.p9 (λm' hm=>by
  obtain⟨o',es',FN,qT,r'⟩:=hm;rw[ho]at qT;cases qT;exact⟨_,es',FN,hL,r'⟩) bK hg
theorem Inv.turned{it:Addr}(I:Inv X aI σ H s)(k:∀b o,b≠it→s.heap.get? b=some o→h'.get? b=some o)(hn:H it=none)(hL:it≠X.env.locals)
  (h1:it∈X.ex∨X.s₀.heap.objs.size≤it) (h2:∀x c,X.env.cells.lookup x=some c→c≠it) (h3:∀p∈X.pn++aI,p.1≠it):Inv X aI σ H { s with heap:=h',toks:=t' }:=by
 have yi:∀b u,H b=some u→b≠it:=λb u e z=>by rw[z,hn]at e;cases e
 refine I.step (g':=s.gens) (d':=s.drawn) (ch:=[it]) (λb hb=>?_) (λb o _ _ hc e _=>k b o (λz=>hc (by simp[z])) e) (λb o _ _ hc e _=>⟨o.slots,k b o (λz=>hc (by simp[z])) e⟩) (λ_ _ _ _ n=>n)
  (λb o hc e=>⟨o,k b o (λz=>hc (by simp[z])) e⟩) (λ_ _ e=>e) (λ_ _ _ e=>e) (λb ps e=>⟨#[],by rw[e];simp⟩) (λm hm=>?_) (λb u e=>?_) I.bare
 ·have e:b=it:=by simpa using hb
  subst e;exact⟨h1,hL,h2,h3⟩
 ·obtain⟨o,es,ep,ho,r⟩:=hm;exact⟨o,es,ep,k _ o (Ne.symm hL) ho,r⟩
 ·refine(I.bK b u e).qQ (λc v hc q=>k c v ?_ q) (λ_ q=>q) λ_ _ q=>q;rcases hc with z|z
  ·rw[z];exact yi b u e
  ·exact yi c _ z
theorem Inv.tok(I:Inv X aI σ H s)(t:Nat):Inv X aI σ H { s with toks:=t }:=I.un (h':=s.heap) (t':=t) Un.refl I.bK
theorem Inv.kept{t':Nat}(I:Inv X aI σ H s)(k:∀b u,s.heap.get? b=some u→h'.get? b=some u):Inv X aI σ H { s with heap:=h',toks:=t' }:=I.un (Un.kept k) (I.bK.kept k)
theorem Inv.laid{a:Addr}{o:HO}{t':Nat}(I:Inv X aI σ H s)(k:∀b u,s.heap.get? b=some u→h'.get? b=some u)(hp:s.heap.objs.size≤a)(new:fu X.prog X.w (upd H a o) h' a o) :
  Inv X aI σ (upd H a o) { s with heap:=h',toks:=t' }:=I.un (Un.laid k hp (I.bK.fresh hp)) (I.bK.laid k hp new)
theorem Inv.write{x e:Addr}{o:HO}{t':Nat}(I:Inv X aI σ H s)(mu:x8 (H x))(he:e=x∨H e=some (.own x))(k:∀b u,b≠e→s.heap.get? b=some u→h'.get? b=some u)(vI:∃u,h'.get? e=some u)
  (new:fu X.prog X.w (upd H x o) h' x o):Inv X aI σ (upd H x o) { s with heap:=h',toks:=t' }:=I.un (Un.write mu he k vI) (I.bK.write mu he k vI new)
theorem Inv.AV{Mu:List (Addr×Obj)}(I:Inv X aI σ H s)(h:∀p∈Mu,s.heap.get? p.1=some p.2∧H p.1=none∧p.1≠X.env.locals∧p.1 ∉ X.fs∧∀v,p.2.data≠.cell v):Inv X Mu σ H s:=
 ⟨I.ok,I.os,I.bare,I.base,I.loc,I.cell,I.free,I.oX,λp hp=>(dI.mp hp).elim (λz=>I.pin p (nR _ z)) (h p),I.bK,I.len⟩
theorem Mv{N:List Str}(hN:N.Nodup){j:Nat}(a:N[i]?=some x)(b:N[j]?=some x):i=j:=by
 obtain⟨h1,e1⟩:=dB.mp a;obtain⟨h2,e2⟩:=dB.mp b;exact(List.getElem_inj hN).mp (e1.trans e2.symm)
theorem Mw(I:Inv X aI σ H s)(hN:X.N.Nodup)(hi:X.N[i]?=some x)(hx:Loc X.env.scope x)(r:RelV v u)
  (h:∀s',Inv X aI (σ.set i (some v)) H s'→(∃a,Heap.SameBut a s.heap s'.heap∧(a=X.env.locals∨X.env.cells.lookup x=some a))→Q () s') (hf:X.fn x=true∨X.env.scope.names.lookup x=some .local:=by first|exact .inl rfl|exact .inr rfl|assumption):wpAny M A (storeName X.env x u) Q E s:=by
 obtain⟨m,hn,hl⟩:=id I.loc;have WY:(X.env.scope.kind == .class||(X.env.scope.kind == .module&&X.env.locals != X.env.globals))=false:=by rw[I.ok.kind];rfl
 have Mx:i<σ.length:=by rw[I.len];exact(dB.mp hi).1
 have uv:=I.uv;have My:∀{a:Addr}{h':Heap},(∃o,s.heap.get? a=some o∧H a=none)→Heap.SameBut a s.heap h'→fE X.prog X.w H h':=λ{a h'} ha hs b ob e=>by
  obtain⟨_,_,Mz⟩:=ha;refine(I.bK b ob e).qQ (λc w' hc q=>(hs.2 c ?_).trans q) (λ_ q=>q) λ_ _ q=>q;rintro rfl;rcases hc with rfl|hc
  ·rw[Mz]at e;cases e
  ·rw[Mz]at hc;cases hc
 rcases hx with hk|hk
 ·refine wpAny_storeName_local hk hn (λh' FO hs=>?_) WY;obtain⟨oL,_,_,WZ,_⟩:=id hn;refine h _ ⟨I.ok,I.os,I.bare,⟨λb o e n hb hx=>?_,λb o e n hb hx=>?_,I.base.free,λb o e hx=>?_,I.base.qR,I.base.p8,I.base.p9⟩,⟨_,FO,λj y v' e1 e2 e3=>?_⟩,λy c e=>?_,I.free,I.oX,λp hp=>?_,My ⟨oL,WZ,I.free⟩ hs,by simpa using I.len⟩ ⟨_,hs,.inl rfl⟩
  ·exact(hs.2 b (iw (jo (dX e) I.ok.above))).trans (I.base.keep b o e n hb hx)
  ·obtain⟨sl,e1⟩:=I.base.slot b o e n hb hx;exact⟨sl,(hs.2 b (iw (jo (dX e) I.ok.above))).trans e1⟩
  ·obtain⟨o',e1⟩:=I.base.there b o e hx;exact⟨o',(hs.2 b (iw (jo (dX e) I.ok.above))).trans e1⟩
  ·by_cases hj:j=i
   ·subst hj;rw[hi]at e1;cases e1;rw[List.getElem?_set_self Mx]at e2;cases e2;exact⟨u,r,.inl ⟨hk,by simp⟩⟩
   ·rw[List.getElem?_set_ne (Ne.symm hj)]at e2;obtain⟨u',r',q⟩:=hl j y v' e1 e2 e3;refine⟨u',r',?_⟩;rcases q with⟨k,e⟩|⟨k,c,e,z⟩
    ·refine .inl ⟨k,?_⟩
     have:y≠x:=λe=>hj (Mv hN e1 (e▸hi))
     simp[this,e]
    ·exact .inr ⟨k,c,e,z.sameBut hs (uv y c e)⟩
  ·obtain⟨w',z⟩:=I.cell y c e;exact⟨w',z.sameBut hs (uv y c e)⟩
  ·obtain⟨e,n,ne,nf,d⟩:=I.pin p hp;exact⟨(hs.2 p.1 ne).trans e,n,ne,nf,d⟩
 ·have yj:X.fn x=true:=by
   rcases hf with z|z
   ·exact z
   ·rw[z]at hk;cases hk
  obtain⟨c,hc⟩:=I.ok.has x (.inl hk);obtain⟨w',z⟩:=I.cell x c hc;refine wpAny_storeName_cell I.ok.kind hk hc z (λh' iJ hs=>?_);obtain⟨oc,MA,W0⟩:=id z;refine h { s with heap:=h' } ⟨I.ok,I.os,I.bare,⟨λb o e n hb hx=>?_,λb o e n hb hx=>?_,I.base.free,λb o e hx=>?_,I.base.qR,I.base.p8,I.base.p9⟩,⟨m,hn.sameBut hs (Ne.symm (uv x c hc)),λj y v' e1 e2 e3=>?_⟩,λy c' e=>?_,I.free,I.oX,λp hp=>?_,My ⟨oc,MA,I.oX x c hc⟩ hs,by simpa using I.len⟩ ⟨c,hs,.inr hc⟩
  ·exact(hs.2 b (iw (jo (dX e) (I.ok.ya x c yj hc)))).trans (I.base.keep b o e n hb hx)
  ·obtain⟨sl,e1⟩:=I.base.slot b o e n hb hx;exact⟨sl,(hs.2 b (iw (jo (dX e) (I.ok.ya x c yj hc)))).trans e1⟩
  ·obtain⟨o',e1⟩:=I.base.there b o e hx;exact⟨o',(hs.2 b (iw (jo (dX e) (I.ok.ya x c yj hc)))).trans e1⟩
  ·by_cases hj:j=i
   ·subst hj;rw[hi]at e1;cases e1;rw[List.getElem?_set_self Mx]at e2;cases e2;exact⟨u,r,.inr ⟨.inl hk,c,hc,iJ⟩⟩
   ·rw[List.getElem?_set_ne (Ne.symm hj)]at e2;obtain⟨u',r',q⟩:=hl j y v' e1 e2 e3;refine⟨u',r',?_⟩;rcases q with q|⟨k,c',e,z'⟩
    ·exact .inl q
    ·refine .inr ⟨k,c',e,z'.sameBut hs ?_⟩;rintro rfl;exact hj (Mv hN e1 (I.ok.inj _ _ _ e hc▸hi))
  ·by_cases AW:c'=c
   ·subst AW;exact⟨_,iJ⟩
   ·obtain⟨w2,z2⟩:=I.cell y c' e;exact⟨w2,z2.sameBut hs AW⟩
  ·obtain⟨e,n,ne,nf,d⟩:=I.pin p hp;refine⟨(hs.2 p.1 ?_).trans e,n,ne,nf,d⟩;intro q;rw[q,MA]at e;have q':oc=p.2:=c8 e;exact d w' (by rw[← q'];exact W0)
theorem MB(I:Inv X aI σ H s)(hN:X.N.Nodup)(hi:X.N[i]?=some x)(hx:Loc X.env.scope x)(r:RelV v u)
  (h:∀s',Inv X aI (σ.set i (some v)) H s'→Q () s') (hf:X.fn x=true∨X.env.scope.names.lookup x=some .local:=by first|exact .inl rfl|exact .inr rfl|assumption):wpAny M A (storeName X.env x u) Q E s:=
 Mw I hN hi hx r (λs' I' _=>h s' I') hf
theorem Inv.W2{s':Shared}(I:Inv X aI σ H s)(ho:s'.os=s.os)(u:Un (lV X.stack) ch H H' s.heap s'.heap)(bK:fE X.prog X.w H' s'.heap)(hg:AllBare s'.gens)
  (qc:∀b∈ch,(b∈X.ex∨X.s₀.heap.objs.size≤b)∧b≠X.env.locals∧(∀x c,X.env.cells.lookup x=some c→c≠b)∧∀p∈X.pn++aI,p.1≠b):Inv X aI σ H' s':=by
 obtain⟨h',g',d',t',o'⟩:=s';have e:o'=s.os:=ho;subst e;exact I.call (g':=g') (t':=t') (d':=d') u bK hg qc
end
abbrev XK:=Value→Option Addr→Hp→Prop
abbrev St:=List (Option V)
abbrev VK:=V→Hp→Prop
abbrev TE:=St→Hp→VK→Prop
abbrev TT:=St→Hp→(Bool→Hp→Prop)→Prop
abbrev TA:=St→Hp→(List V→Hp→Prop)→Prop
structure Ends where
 nx:St→Hp→Prop
 rt:VK
 bk:St→Hp→Prop:=λ_ _=>False
 ct:St→Hp→Prop:=λ_ _=>False
abbrev TS:=Ends→St→Hp→Prop
def EP(X:Cx)(aI:List (Addr×Obj))(σ:St)(Q:VK)(u:Value)(s':Shared):Prop:=∃v H',Inv X aI σ H' s'∧RelV v u∧Q v H'
def TP(X:Cx)(aI:List (Addr×Obj))(σ:St)(Q:Bool→Hp→Prop)(b:Bool)(s':Shared):Prop:=∃H',Inv X aI σ H' s'∧Q b H'
def AP(X:Cx)(aI:List (Addr×Obj))(σ:St)(Q:List V→Hp→Prop)(us:List Value)(s':Shared):Prop:=∃vs H',Inv X aI σ H' s'∧Vals vs us∧Q vs H'
def SP(X:Cx)(aI:List (Addr×Obj))(D:Ends)(f:Flow)(s':Shared):Prop:=
 match f with
 | .next=>∃σ' H',Inv X aI σ' H' s'∧D.nx σ' H'
 | .brk=>∃σ' H',Inv X aI σ' H' s'∧D.bk σ' H'
 | .cont=>∃σ' H',Inv X aI σ' H' s'∧D.ct σ' H'
 | .ret u=>∃v σ' H',Inv X aI σ' H' s'∧RelV v u∧D.rt v H'
def PE(X:Cx)(e:Expr)(t:TE):Prop:=
 ∀(aI:List (Addr×Obj))(s:Shared)(σ:St)(H:Hp)(Q:VK),Inv X aI σ H s→t σ H Q→wpAny (model X.prog X.w) X.A (eval e X.env) (EP X aI σ Q) X.xe s
def PT(X:Cx)(e:Expr)(t:TT):Prop:=
 ∀(aI:List (Addr×Obj))(s:Shared)(σ:St)(H:Hp)(Q:Bool→Hp→Prop),Inv X aI σ H s→t σ H Q→wpAny (model X.prog X.w) X.A (isTrue e X.env (eval e X.env)) (TP X aI σ Q) X.xe s
def PW(X:Cx)(e:Expr)(t:TT):Prop:=
 ∀(qU:Sem Value)(aI:List (Addr×Obj))(s:Shared)(σ:St)(H:Hp)(Q:Bool→Hp→Prop),Inv X aI σ H s→t σ H Q→wpAny (model X.prog X.w) X.A (isTrue e X.env qU) (TP X aI σ Q) X.xe s
theorem PW.pt{t:TT}(h:PW X e t):PT X e t:=h _
def PA(X:Cx)(es:List Expr)(t:TA):Prop:=
 ∀(pos:Pos)(aI:List (Addr×Obj))(s:Shared)(σ:St)(H:Hp)(Q:List V→Hp→Prop),Inv X aI σ H s→t σ H Q→wpAny (model X.prog X.w) X.A (spliced (backTo pos (starEach es X.env))) (AP X aI σ Q) X.xe s
def PS(X:Cx)(st:Stmt)(t:TS):Prop:=
 ∀(aI:List (Addr×Obj))(s:Shared)(σ:St)(H:Hp)(D:Ends),Inv X aI σ H s→t D σ H→wpAny (model X.prog X.w) X.A (exec st X.env) (SP X aI D) X.xe s
def jP(X:Cx)(st:List Stmt)(t:TS):Prop:=
 ∀(aI:List (Addr×Obj))(s:Shared)(σ:St)(H:Hp)(D:Ends),Inv X aI σ H s→t D σ H→wpAny (model X.prog X.w) X.A (execs st X.env) (SP X aI D) X.xe s
theorem bc{α:Type}{t:Sem α}{Q Q':α→Shared→Prop}(h:wpAny M A t Q E s)(hQ:∀a s,Q a s→Q' a s):wpAny M A t Q' E s:=ag h hQ λ_ _ x=>x
section
variable{X:Cx}
theorem bin{a b:Expr}{ta tb:TE}(ha:PE X a ta)(hb:PE X b tb){R:V→V→Hp→Prop}(I:Inv X aI σ H s)(h:ta σ H λx H1=>tb σ H1 λy H2=>R x y H2)
  {α:Type} {Q:α→Shared→Prop} {f:Value→Value→Sem α}
  (hf:∀v u s2 x y H2,Inv X aI σ H2 s2→RelV x v→RelV y u→R x y H2→wpAny (model X.prog X.w) X.A (f v u) Q X.xe s2) :
  wpAny (model X.prog X.w) X.A (eval a X.env) (λv s₁=>wpAny (model X.prog X.w) X.A (eval b X.env) (λu s₂=>wpAny (model X.prog X.w) X.A (f v u) Q X.xe s₂) X.xe s₁) X.xe s:=by
 refine bc (ha aI s σ H _ I h) λv s1 ⟨x,H1,I1,r1,q1⟩=>?_;refine bc (hb aI s1 σ H1 _ I1 q1) λu s2 ⟨y,H2,I2,r2,q2⟩=>?_;exact hf v u s2 x y H2 I2 r1 r2 q2
def aY(i:Nat):TE:=λσ H Q=>∃v,σ[i]?=some (some v)∧Q v H
def tC(v:V):TE:=λ_ H Q=>Q v H
theorem MC{pos:Pos}(hN:X.N[i]?=some x)(hv:x9 X.env.scope x)(hd:(x==("__debug__":Str))=false:=by decide)(iQ:(x==("__classdict__":Str))=false:=by decide):PE X (.Name x pos) (aY i):=by
 intro aI s σ H Q I h;obtain⟨v,e,h⟩:=h;obtain⟨m,hn,hl⟩:=I.loc;obtain⟨u,r,l⟩:=hl i x v hN e hv;have fin:EP X aI σ Q u s:=⟨v,H,I,r,h⟩;rcases l with⟨hk,hm⟩|⟨hk,c,hc,vK⟩
 ·exact wpAny_Name (wpAny_loadName_local I.ok.kind hk hn hm fin) hd
 ·rcases hk with hk|hk
  ·exact wpAny_Name (wpAny_loadName_cell I.ok.kind hk hc vK fin) hd
  ·exact wpAny_Name (wpAny_loadName_free I.ok.kind hk hc vK fin iQ) hd
theorem aW{i j pos}:PE X (.Constant (.int i) j pos) (tC (.int i)):=λ_ _ _ H _ I h=>wpAny_Constant_int ⟨.int i,H,I.tok _,⟨_,rfl⟩,h⟩
theorem vL{b j pos}:PE X (.Constant (.bool b) j pos) (tC (.bl b)):=λ_ _ _ H _ I h=>Constant_bool ⟨.bl b,H,I,rfl,h⟩
theorem oY{j pos}:PE X (.Constant .none j pos) (tC .ck):=λ_ _ _ H _ I h=>Constant_none ⟨.ck,H,I,rfl,h⟩
theorem cz{x j pos}:PE X (.Constant (.str x) j pos) (tC (.str x)):=λ_ _ _ H _ I h=>Calls.Constant_str ⟨.str x,H,I.tok _,⟨_,rfl⟩,h⟩
def Gl(X:Cx)(x:Str):Prop:=X.env.kindOf x=some .globalImplicit
theorem FP{pos:Pos}{Q:QV}(I:Inv X aI σ H s)(hg:Gl X x)(hm:X.mg x=some u)(h:Q u s)
  (hd:(x==("__debug__":Str))=false:=by decide):wpAny (model X.prog X.w) X.A (eval (.Name x pos) X.env) Q E s:=
 Calls.Name_function_global I.ok.kind hg (Calls.loadGlobal_global (by rw[I.ok.glob];exact I.mod.glob.keeps I.bk) hm h) hd
theorem uw{pos:Pos}{Q:QV}(I:Inv X aI σ H s)(hg:Gl X x)(hm:X.mg x=none)(hv:bootBuiltins x=some u)(h:Q u s)
  (hn:x ≠ "__name__":=by decide) (hd:(x==("__debug__":Str))=false:=by decide):wpAny (model X.prog X.w) X.A (eval (.Name x pos) X.env) Q E s:=by
 obtain⟨mb,h1,h2⟩:=I.mod.blt;exact Calls.Name_function_global I.ok.kind hg (Calls.loadGlobal_builtin (by rw[I.ok.glob];exact I.mod.glob.keeps I.bk) hm (by rw[I.ok.blt];exact h1.keeps I.bk) ((h2 x hn).trans hv) h) hd
theorem su{pos:Pos}(hg:Gl X x)(hm:X.mg x=some u)(r:RelV v u)(hd:(x==("__debug__":Str))=false:=by decide):PE X (.Name x pos) (tC v):=
 λ_ _ _ H _ I h=>FP I hg hm ⟨v,H,I,r,h⟩ hd
theorem W3{pos:Pos}(hg:Gl X x)(hm:X.mg x=none)(hv:bootBuiltins x=some u)(r:RelV v u)(hn:x ≠ "__name__":=by decide)(hd:(x==("__debug__":Str))=false:=by decide):PE X (.Name x pos) (tC v):=
 λ_ _ _ H _ I h=>uw I hg hm hv ⟨v,H,I,r,h⟩ hn hd
def W4(ta tb:TE)(k:Int→Int→Hp→Prop):St→Hp→Prop:=λσ H=>ta σ H λx H1=>tb σ H1 λy H2=>∃i j,x=.int i∧y=.int j∧k i j H2
variable{a b:Expr}{ta tb:TE}{pos:Pos}
def PC(X:Cx)(op:CmpOp)(a b:Expr)(t:TE):Prop:=
 ∀(aI:List (Addr×Obj))(s:Shared)(σ:St)(H:Hp)(Q:VK),Inv X aI σ H s→t σ H Q→
  wpAny (model X.prog X.w) X.A (eval a X.env) (λv s₁=>wpAny (model X.prog X.w) X.A (eval b X.env) (λu s₂=>wpAny (model X.prog X.w) X.A (compareOp op v u) (EP X aI σ Q) X.xe s₂) X.xe s₁) X.xe s
theorem W5(b:Expr)(h:op≠.In)(h2:op≠.NotIn):behindInMarks op b=false:=by
 have e1:(op==CmpOp.In)=false:=by cases op<;>first|rfl|exact absurd rfl h
 have e2:(op==CmpOp.NotIn)=false:=by cases op<;>first|rfl|exact absurd rfl h2
 cases b<;>simp[behindInMarks,e1,e2]
def MD(p:Int→Int→Bool)(ta tb:TE):TE:=λσ H Q=>W4 ta tb (λi j H2=>Q (.bl (p i j)) H2) σ H
abbrev W6:TE→TE→TE:=MD λi j=>decide (i≤j)
theorem W7{p:Int→Int→Bool}(ha:PE X a ta)(hb:PE X b tb)
  (rule:∀(i j:Int)(t u:Tok)(Q:QV)(s:Shared),Q (.bool (p i j)) s→wpAny (model X.prog X.w) X.A (compareOp op (.int i t) (.int j u)) Q X.xe s):PC X op a b (MD p ta tb):=by
 intro aI s σ H Q I h;refine bin ha hb I h λv u s2 x y H2 I2 rx ry q=>?_;obtain⟨i,j,rfl,rfl,q⟩:=q;obtain⟨t,rfl⟩:=rx;obtain⟨t',rfl⟩:=ry;exact rule i j t t' _ s2 ⟨.bl _,H2,I2,rfl,q⟩
theorem ME(ha:PE X a ta)(hb:PE X b tb):PC X .LtE a b (W6 ta tb):=W7 ha hb λ_ _ _ _ _ _ h=>le_int h
def W8(ta:TE):TE:=λσ H Q=>ta σ H λx H1=>Q (.bl (!decide (x=.ck))) H1
theorem RelV.W9{x:V}{v:Value}(r:RelV x v):(v==Value.none)=decide (x=.ck):=by
 cases x with
 |ck=>cases r;rfl
 |bl _=>cases r;rfl
 |int _=>obtain⟨t,rfl⟩:=r;rfl
 |str _=>obtain⟨t,rfl⟩:=r;rfl
 |lU _=>obtain⟨t,rfl⟩:=r;rfl
 |um _=>obtain⟨t,rfl⟩:=r;rfl
 |ref _=>cases r;rfl
 |ty _=>cases r;rfl
theorem Xa{j mE}(ha:PE X a ta):PC X .IsNot a (.Constant .none j mE) (W8 ta):=by
 intro aI s σ H Q I h;refine bc (ha aI s σ H _ I h) λv s1 ⟨x,H1,I1,r1,q1⟩=>?_;exact Constant_none (isnot_none_gen ⟨.bl _,H1,I1,by rw[r1.W9];rfl,q1⟩)
def tB(t:TE):TT:=λσ H Q=>t σ H λx H1=>∃c,x=.bl c∧Q c H1
theorem AX(h:PC X op a b t)(h1:behindInMarks op b=false:=by first|exact W5 _ (by decide) (by decide)|rfl):PT X (.Compare a [op] [b] pos) (tB t):=by
 intro aI s σ H Q I hw;refine wpAny_isTrue_Compare1 (bc (h aI s σ H _ I hw) λv s1 h1=>bc h1 λu s2 h2=>bc h2 λc s3 ⟨x,H1,I1,r1,q1⟩=>?_) h1;obtain⟨d,rfl,q⟩:=q1;cases r1;exact ah ⟨H1,I1,q⟩
theorem ux(h:PE X e t)(he:∀qU,isTrue e X.env qU=(do let v ← qU;standAt e.pos;holding [v] (truthy v)):=by intro _;rfl):PT X e (tB t):=by
 intro aI s σ H Q I hw;refine isTrue_plain (bc (h aI s σ H _ I hw) λv s1 ⟨x,H1,I1,r1,q1⟩=>?_) (he _);obtain⟨d,rfl,q⟩:=q1;cases r1;exact ah ⟨H1,I1,q⟩
variable{tA AY:TT}{dM:List Expr}
def AZ(t u:TT):TT:=λσ H Q=>t σ H λc H1=>if c=true then u σ H1 Q else Q false H1
def FQ(t u:TT):TT:=λσ H Q=>t σ H λc H1=>if c=true then Q true H1 else u σ H1 Q
def MF(t:TT):TT:=λσ H Q=>t σ H λc H1=>Q (!c) H1
theorem yk(ha:PT X a tA):PW X (.BoolOp .And [a] pos) tA:=by
 intro wh aI s σ H Q I h;refine isTrue_and (bc (ha aI s σ H Q I h) λc s1 e=>?_);cases c with
 |true=>exact isTrue_and_nil e
 |false=>exact e
theorem A0(ha:PT X a tA):PW X (.BoolOp .Or [a] pos) tA:=by
 intro wh aI s σ H Q I h;refine isTrue_or (bc (ha aI s σ H Q I h) λc s1 e=>?_);cases c with
 |false=>exact isTrue_or_nil e
 |true=>exact e
theorem uy(ha:PT X a tA)(hb:PW X (.BoolOp .And (b::dM) pos) AY):PW X (.BoolOp .And (a::b::dM) pos) (AZ tA AY):=by
 intro wh aI s σ H Q I h;refine isTrue_and (bc (ha aI s σ H _ I h) λc s1 ⟨H1,I1,q1⟩=>?_);cases c with
 |true=>exact hb wh aI s1 σ H1 Q I1 q1
 |false=>exact⟨H1,I1,q1⟩
theorem vM(ha:PT X a tA)(hb:PW X (.BoolOp .Or (b::dM) pos) AY):PW X (.BoolOp .Or (a::b::dM) pos) (FQ tA AY):=by
 intro wh aI s σ H Q I h;refine isTrue_or (bc (ha aI s σ H _ I h) λc s1 ⟨H1,I1,q1⟩=>?_);cases c with
 |true=>exact⟨H1,I1,q1⟩
 |false=>exact hb wh aI s1 σ H1 Q I1 q1
theorem Ba(ha:PT X a tA):PT X (.UnaryOp .Not a pos) (MF tA):=by
 intro aI s σ H Q I h;exact isTrue_not (ha aI s σ H (λc H1=>Q (!c) H1) I h)
def Xb(ta tb:TE):TE:=λσ H Q=>ta σ H λx H1=>∃c,x=.bl c∧if c=true then tb σ H1 Q else Q (.bl false) H1
def Xc(ta:TE):TE:=λσ H Q=>ta σ H λx H1=>∃c,x=.bl c∧Q (.bl (!c)) H1
theorem Xd{op}(h:PE X a t):PE X (.BoolOp op [a] pos) t:=λaI s σ H Q I hw=>BoolOp_one (h aI s σ H Q I hw)
theorem Xe(ha:PE X a ta)(hb:PE X (.BoolOp .And (b::dM) pos) tb):PE X (.BoolOp .And (a::b::dM) pos) (Xb ta tb):=by
 intro aI s σ H Q I h;refine BoolOp_and (bc (ha aI s σ H _ I h) λv s1 ⟨x,H1,I1,r1,q1⟩=>?_);obtain⟨c,rfl,q1⟩:=q1;cases r1;refine ah ?_;cases c with
 |true=>exact hb aI s1 σ H1 Q I1 q1
 |false=>exact⟨.bl false,H1,I1,rfl,q1⟩
theorem MG(ha:PE X a ta):PE X (.UnaryOp .Not a pos) (Xc ta):=by
 intro aI s σ H Q I h;refine UnaryOp_ (bc (ha aI s σ H _ I h) λv s1 ⟨x,H1,I1,r1,q1⟩=>?_);obtain⟨c,rfl,q1⟩:=q1;cases r1;exact not_of (ah ⟨.bl (!c),H1,I1,rfl,q1⟩)
def Xf(t:TT)(ta tb:TE):TE:=λσ H Q=>t σ H λc H1=>if c=true then ta σ H1 Q else tb σ H1 Q
theorem ym(hc:PT X c tA)(ha:PE X a ta)(hb:PE X b tb):PE X (.IfExp c a b pos) (Xf tA ta tb):=by
 intro aI s σ H Q I h;refine wpAny_IfExp (bc (hc aI s σ H _ I h) λd s1 ⟨H1,I1,q1⟩=>?_);cases d with
 |true=>exact ha aI s1 σ H1 Q I1 q1
 |false=>exact hb aI s1 σ H1 Q I1 q1
end
def dq(K:Frag)(H:Hp)(a:Addr)(xs:List V):Prop:=
 Rd H a (.lst xs) ∨
  ∃(o:Obj)(its:Array Value)(n:Nat),K.lookup a=some o∧o.cls=.type "list"∧o.dict=none∧o.data=.seq its n∧its.size≤sizeLine∧Vals xs its.toList
def bf(K:Frag)(H:Hp)(a:Addr)(xs:List V):Prop:=
 Rd H a (.tup xs) ∨
  ∃(o:Obj)(its:Array Value)(n:Nat),K.lookup a=some o∧o.cls=.type "tuple"∧o.data=.seq its n∧its.size≤sizeLine∧Vals xs its.toList
noncomputable def Xg:Value→Option V
 | .none=>some .ck
 | .bool b=>some (.bl b)
 | .int i _=>some (.int i)
 | .str x _=>some (.str x)
 | .bytes b _=>some (.lU b)
 | .float b _=>some (.um b)
 | .ref a=>some (.ref a)
 | .type n=>some (.ty n)
 |_=>none
theorem RelV.abs{x:V}(r:RelV x u):Xg u=some x:=by
 cases x with
 |ck=>cases r;rfl
 |bl _=>cases r;rfl
 |int _=>obtain⟨t,rfl⟩:=r;rfl
 |str _=>obtain⟨t,rfl⟩:=r;rfl
 |lU _=>obtain⟨t,rfl⟩:=r;rfl
 |um _=>obtain⟨t,rfl⟩:=r;rfl
 |ref _=>cases r;rfl
 |ty _=>cases r;rfl
theorem RelV.inj{x y:V}{u:Value}(r:RelV x u)(q:RelV y u):x=y:=c8 (r.abs.symm.trans q.abs)
theorem Vals.inj:∀{xs ys:List V}{us:List Value},Vals xs us→Vals ys us→xs=ys
 |_,_,_,.nil,.nil=>rfl
 |_,_,_,.cons r t,.cons r' t'=>by rw[r.inj r',Vals.inj t t']
section
variable{X:Cx}{aI:List (Addr×Obj)}{σ:St}{H:Hp}{s:Shared}{a:Addr}{xs ys:List V}
theorem dq.of{K:Frag}(h:H a=some (.lst xs)):dq K H a xs:=.inl (.inl h)
theorem bf.of{K:Frag}(h:H a=some (.tup xs)):bf K H a xs:=.inl (.inl h)
theorem Inv.list(I:Inv X aI σ H s)(h:dq X.K H a xs):∃its:List Value,Vals xs its∧PlainL s.heap a its.toArray∧xs.length≤sizeLine:=by
 rcases h with h|⟨o,its,n,hk,hc,hd,hs,hz,r⟩
 ·obtain⟨z,its,n,r,e⟩:=h.ok I.bK;exact⟨its,r,⟨_,n,e,rfl,rfl,rfl⟩,z⟩
 ·refine⟨its.toList,r,⟨o,n,I.gO a o hk,hc,hd,by simpa using hs⟩,?_⟩;have e:=r.length;simp only[Array.length_toList]at e;lia
theorem Inv.tuple(I:Inv X aI σ H s)(h:bf X.K H a xs):∃its:List Value,Vals xs its∧IsTup s.heap a its.toArray∧xs.length≤sizeLine:=by
 rcases h with h|⟨o,its,n,hk,hc,hs,hz,r⟩
 ·obtain⟨z,its,r,p⟩:=h.ok I.bK;exact⟨its,r,p,z⟩
 ·refine⟨its.toList,r,⟨o,I.gO a o hk,hc,n,by simpa using hs⟩,?_⟩;have e:=r.length;simp only[Array.length_toList]at e;lia
theorem Inv.MH(I:Inv X aI σ H s)(h:dq X.K H a xs)(h':dq X.K H a ys):xs=ys:=by
 obtain⟨its,r,⟨o,n,e,_,_,d⟩,_⟩:=I.list h;obtain⟨its',r',⟨o',n',e',_,_,d'⟩,_⟩:=I.list h';rw[e]at e';cases e';rw[d]at d';injection d' with d1 _
 have:its=its':=by simpa using ai Array.toList d1
 subst this;exact r.inj r'
theorem Inv.MI(I:Inv X aI σ H s)(h:bf X.K H a xs)(h':bf X.K H a ys):xs=ys:=by
 obtain⟨its,r,⟨o,e,_,n,d⟩,_⟩:=I.tuple h;obtain⟨its',r',⟨o',e',_,n',d'⟩,_⟩:=I.tuple h';rw[e]at e';cases e';rw[d]at d';injection d' with d1 _
 have:its=its':=by simpa using ai Array.toList d1
 subst this;exact r.inj r'
end
noncomputable abbrev Cx.oZ(X:Cx)(E:QV):Cx:={ X with xe:=E }
noncomputable abbrev Cx.lW(X:Cx):Cx:=X.oZ λ_ _=>False
theorem Cx.Ok.oZ{X:Cx}(ok:X.Ok)(E:QV):(X.oZ E).Ok:=
 ⟨ok.mod,ok.kind,ok.glob,ok.blt,ok.above,ok.inj,ok.has,ok.ya,ok.hd,ok.frames,ok.AQ,ok.yd,ok.bs,ok.qS,ok.yf,ok.vJ,ok.nT,ok.ur⟩
theorem Cx.Ok.qV(ok:(X.oZ E).Ok):X.Ok:=
 ⟨ok.mod,ok.kind,ok.glob,ok.blt,ok.above,ok.inj,ok.has,ok.ya,ok.hd,ok.frames,ok.AQ,ok.yd,ok.bs,ok.qS,ok.yf,ok.vJ,ok.nT,ok.ur⟩
section
variable{X:Cx}{aI:List (Addr×Obj)}{σ:St}{H:Hp}{s:Shared}{E:QV}
theorem Inv.oZ(I:Inv X aI σ H s)(E:QV):Inv (X.oZ E) aI σ H s:=⟨I.ok.oZ E,I.os,I.bare,I.base,I.loc,I.cell,I.free,I.oX,I.pin,I.bK,I.len⟩
theorem Inv.qV(I:Inv (X.oZ E) aI σ H s):Inv X aI σ H s:=⟨I.ok.qV,I.os,I.bare,I.base,I.loc,I.cell,I.free,I.oX,I.pin,I.bK,I.len⟩
theorem SP.qV{D:Ends}{f:Flow}{s':Shared}(h:SP (X.oZ E) aI D f s'):SP X aI D f s':=by
 cases f with
 |next=>obtain⟨σ',H',I,q⟩:=h;exact⟨σ',H',I.qV,q⟩
 |brk=>obtain⟨σ',H',I,q⟩:=h;exact⟨σ',H',I.qV,q⟩
 |cont=>obtain⟨σ',H',I,q⟩:=h;exact⟨σ',H',I.qV,q⟩
 |ret u=>obtain⟨v,σ',H',I,r,q⟩:=h;exact⟨v,σ',H',I.qV,r,q⟩
theorem PE.lW{e:Expr}{t:TE}(h:PE X.lW e t):PE X e t:=λaI s σ H Q I hw=>
 ag (h aI s σ H Q (I.oZ _) hw) (λ_ _ ⟨v,H',I',r,q⟩=>⟨v,H',I'.qV,r,q⟩) λ_ _ z=>False.elim z
theorem jP.lW{st:List Stmt}{t:TS}(h:jP X.lW st t):jP X st t:=λaI s σ H D I hw=>
 ag (h aI s σ H D (I.oZ _) hw) (λ_ _ q=>q.qV) λ_ _ z=>False.elim z
end
section
variable{X:Cx}{st:Stmt}{dM:List Stmt}{t u:TS}{e:Expr}{te:TE}{pos:Pos}
def iR:TS:=λD σ H=>D.nx σ H
def cI(t u:TS):TS:=λD σ H=>t { D with nx:=u D } σ H
theorem dy:jP X [] iR:=λ_ _ σ H _ I h=>wpAny_execs_nil ⟨σ,H,I,h⟩
theorem ba(h1:PS X st t)(h2:jP X dM u):jP X (st::dM) (cI t u):=by
 intro aI s σ H D I h;refine wpAny_execs_cons (bc (h1 aI s σ H { D with nx:=u D } I h) λf s1 q=>?_);cases f with
 |next=>
  obtain⟨σ',H',I',q⟩:=q;exact h2 aI s1 σ' H' D I' q
 |ret v=>exact q
 |brk=>exact q
 |cont=>exact q
theorem bq(h1:PS X st t):jP X [st] t:=by
 intro aI s σ H D I h;refine wpAny_execs_cons (bc (h1 aI s σ H D I h) λf s1 q=>?_);cases f with
 |next=>exact wpAny_execs_nil q
 |ret v=>exact q
 |brk=>exact q
 |cont=>exact q
theorem Inv.quiet(I:Inv X aI σ H s):interactive X.env=false:=by simp[interactive,I.ok.kind]
def Bb(te:TE):TS:=λD σ H=>te σ H λ_ H1=>D.nx σ H1
theorem mH(he:PE X e te)(hs:swapsWith e none pos.line X.env=pure false:=by rfl):PS X (.Expr e pos) (Bb te):=by
 intro aI s σ H D I h;exact wpAny_Expr_any (bc (he aI s σ H _ I h) λv s1 ⟨x,H1,I1,r1,q1⟩=>⟨σ,H1,I1,q1⟩) I.quiet hs
def gR(te:TE):TS:=λD σ H=>te σ H D.rt
theorem bV(he:PE X e te):PS X (.Return (some e) pos) (gR te):=by
 intro aI s σ H D I h;exact wpAny_Return_some (bc (he aI s σ H _ I h) λv s1 ⟨x,H1,I1,r1,q1⟩=>⟨x,σ,H1,I1,r1,q1⟩)
def fb(c:TT)(t u:TS):TS:=λD σ H=>c σ H λb H1=>if b=true then t D σ H1 else u D σ H1
theorem cX{a b:List Stmt}{tc:TT}(hc:PT X c tc)(ha:jP X a t)(hb:jP X b u):PS X (.If c a b pos) (fb tc t u):=by
 intro aI s σ H D I h;refine wpAny_If (bc (hc aI s σ H _ I h) λd s1 ⟨H1,I1,q1⟩=>?_);cases d with
 |true=>exact ha aI s1 σ H1 D I1 q1
 |false=>exact hb aI s1 σ H1 D I1 q1
def MJ:TS:=λ_ _ _=>False
theorem Xh:PS X st MJ:=λ_ _ _ _ _ _ h=>h.elim
theorem MK{Xi:List Stmt}:jP X Xi MJ:=λ_ _ _ _ _ _ h=>h.elim
end
abbrev TG:=V→St→Hp→(St→Hp→Prop)→Prop
abbrev qd:=List V→St→Hp→(St→Hp→Prop)→Prop
def PG(X:Cx)(target:Expr)(t:TG):Prop:=
 ∀(aI:List (Addr×Obj))(s:Shared)(σ:St)(H:Hp)(v:V)(u:Value)(Q:St→Hp→Prop),Inv X aI σ H s→RelV v u→t v σ H Q→
  wpAny (model X.prog X.w) X.A (assign target X.env u) (λ_ s'=>∃σ' H',Inv X aI σ' H' s'∧Q σ' H') X.xe s
def vN(X:Cx)(ts:List Expr)(t:qd):Prop:=
 ∀(aI:List (Addr×Obj))(s:Shared)(σ:St)(H:Hp)(vs:List V)(us:List Value)(Q:St→Hp→Prop),Inv X aI σ H s→Vals vs us→t vs σ H Q→
  wpAny (model X.prog X.w) X.A (assignInOrder ((assignEach ts X.env).map (·.2)) us) (λ_ s'=>∃σ' H',Inv X aI σ' H' s'∧Q σ' H') X.xe s
abbrev FR:=V→V→V→Hp→(Hp→Prop)→Prop
def ML(X:Cx)(t:FR):Prop:=
 ∀(aI:List (Addr×Obj))(s:Shared)(σ:St)(H:Hp)(o i v:V)(ov iv u:Value)(Q:Hp→Prop),Inv X aI σ H s→RelV o ov→RelV i iv→RelV v u→t o i v H Q→
  wpAny (model X.prog X.w) X.A (setItem ov iv u) (λ_ s'=>∃H',Inv X aI σ H' s'∧Q H') X.xe s
section
variable{X:Cx}{pos:Pos}
def bX(i:Nat):TG:=λv σ H Q=>Q (σ.set i (some v)) H
theorem cx(hN:X.N.Nodup)(hi:X.N[i]?=some x)(hx:Loc X.env.scope x)(hf:X.fn x=true∨X.env.scope.names.lookup x=some .local:=by first|exact .inl rfl|exact .inr rfl|assumption):PG X (.Name x pos) (bX i):=by
 intro aI s σ H v u Q I r h;exact wpAny_assign_Name (MB I hN hi hx r (λs' I'=>⟨_,H,I',h⟩) hf)
def uz:qd:=λvs σ H Q=>vs=[]∧Q σ H
def jz(t:TG)(u:qd):qd:=λvs σ H Q=>∃v r,vs=v::r∧t v σ H λσ' H'=>u r σ' H' Q
theorem lX:vN X [] uz:=by
 intro aI s σ H vs us Q I r h;obtain⟨e,h⟩:=h;subst e;cases r;exact assignInOrder_nil ⟨σ,H,I,h⟩
theorem eF{es:List Expr}{t:TG}{u:qd}(h1:PG X e t)(h2:vN X es u)
  (hs:(assignEach (e::es) X.env).map (·.2)=assign e X.env::(assignEach es X.env).map (·.2):=by rfl):vN X (e::es) (jz t u):=by
 intro aI s σ H vs us Q I r h;obtain⟨v,vr,e1,h⟩:=h;subst e1;cases r with
 |cons r rr=>
  rw[hs];refine assignInOrder_cons (bc (h1 aI s σ H _ _ _ I r h) λ_ s1 ⟨σ1,H1,I1,q1⟩=>?_);exact h2 aI s1 σ1 H1 _ _ Q I1 rr q1
def FU(K:Frag)(n:Nat)(t:qd):TG:=λv σ H Q=>∃a xs,v=.ref a∧bf K H a xs∧xs.length=n∧t xs σ H Q
theorem Xj{es:List Expr}{k:Nat}{t:qd}(hc:X.calm=true)(h:vN X es t)
  (hn:(assignEach es X.env).length=n:=by rfl) (uA:(assignEach es X.env).findIdx? (·.1)=none:=by rfl):PG X (.Tuple es k pos) (FU X.K n t):=by
 intro aI s σ H v u Q I r hw;obtain⟨a,xs,e1,hq,hl,hw⟩:=hw;subst e1;cases r;obtain⟨its,rv,ht,hz⟩:=I.tuple hq;refine assign_Tuple_tuple (I.ok.hd hc) ht (by simp[hn,← hl,rv.length]) uA λh' hx=>?_;have I1:Inv X aI σ H { s with heap:=h' }:=I.kept (t':=s.toks) λb o e=>hx b o (iw (dX e)) e;exact h aI _ σ H xs _ Q I1 (by simpa using rv) hw
def MM(to ti:TE)(t:FR):TG:=λv σ H Q=>to σ H λo H1=>ti σ H1 λi H2=>t o i v H2 λH3=>Q σ H3
theorem Bc{o i:Expr}{to ti:TE}{t:FR}(ho:PE X o to)(hi:PE X i ti)(hs:ML X t)
  (ha:∀v,assign (.Subscript o i pos) X.env v=(do
   let ov ← holding [v] (eval o X.env)
   let iv ← holding [v,ov] (eval i X.env)
   standAt pos
   holding [v,ov,iv] (setItem ov iv v)
   release [v,ov,iv] []):=by intro _;rfl):PG X (.Subscript o i pos) (MM to ti t):=by
 intro aI s σ H v u Q I r h;rw[ha];refine aj (ak (bc (ho aI s σ H _ I h) λov s1 ⟨x,H1,I1,r1,q1⟩=>?_));refine aj (ak (bc (hi aI s1 σ H1 _ I1 q1) λiv s2 ⟨y,H2,I2,r2,q2⟩=>?_));refine aj (wpAny_standAt (aj (ak (bc (hs aI s2 σ H2 x y v ov iv u _ I2 r1 r2 r q2) λ_ s3 ⟨H3,I3,q3⟩=>?_))));exact wpAny_release ⟨σ,H3,I3,q3⟩
def dz(te:TE)(g:TG):TS:=λD σ H=>te σ H λx H1=>g x σ H1 D.nx
theorem mK{te:TE}(he:PE X e te)(hg:PG X tg g)(hs:swapsWithSole [tg] e pos.line X.env=pure false:=by rfl)(hw:swappedStores [tg] e X.env=pure none:=by rfl)
  (h1:(assignEach [tg] X.env).map (·.2)=[assign tg X.env]:=by rfl):PS X (.Assign [tg] e pos) (dz te g):=by
 intro aI s σ H D I h;refine wpAny_Assign_stores (bc (he aI s σ H _ I h) λv s1 ⟨x,H1,I1,r1,q1⟩=>?_) hs hw;rw[h1];exact bc (hg aI s1 σ H1 x v _ I1 r1 q1) λ_ s2 q=>q
theorem bH{te:TE}{mE:Pos}(hN:X.N.Nodup)(hi:X.N[i]?=some x)(hx:Loc X.env.scope x)(he:PE X e te)(hs:swapsWith e (some (.Name x mE)) pos.line X.env=pure false:=by rfl)(hf:X.fn x=true∨X.env.scope.names.lookup x=some .local:=by first|exact .inl rfl|exact .inr rfl|assumption) :
  PS X (.Assign [.Name x mE] e pos) (dz te (bX i)):=by
 intro aI s σ H D I h;refine wpAny_Assign_Name (bc (he aI s σ H _ I h) λv s1 ⟨y,H1,I1,r1,q1⟩=>?_) hs;exact MB I1 hN hi hx r1 (λs2 I2=>⟨_,H1,I2,q1⟩) hf
end
section
variable{X:Cx}{pos:Pos}
def Xk(c:TT)(tb:TS):TS:=λD σ H=>∃W:Nat→St→Hp→Prop,(∃m,W m σ H)∧∀m σ H,W m σ H→
 c σ H λb H1=>if b=true then ∃N:St→Hp→Prop,(∀σ' H',N σ' H'→∃m',m'<m∧W m' σ' H')∧tb { D with nx:=N,ct:=N,bk:=D.nx } σ H1 else D.nx σ H1
theorem Xl{tc:TT}(hp:PassesOwn (model X.prog X.w) X.A X.env X.xe)(hc:PT X c tc)(hb:jP X body tb):PS X (.While c body [] pos) (Xk tc tb):=by
 intro aI s σ H D I h;obtain⟨W,⟨m0,w0⟩,o3⟩:=h;refine wpAny_While (codeAny_whileLoop (λn s'=>∃σ' H',Inv X aI σ' H' s'∧W n σ' H') ?_ m0 ⟨σ,H,I,w0⟩);rintro n s1 ⟨σ1,H1,I1,w1⟩;refine ao hp (bc (hc aI s1 σ1 H1 _ I1 (o3 n σ1 H1 w1)) λb s2 ⟨H2,I2,q2⟩=>?_);cases b with
 |true=>
  obtain⟨N,hN,q2⟩:=q2;rw[ae rfl];refine ao hp (bc (hb aI s2 σ1 H2 _ I2 q2) λf s3 q3=>?_);cases f with
  |next=>
   obtain⟨σ3,H3,I3,n3⟩:=q3;obtain⟨m',hm,w3⟩:=hN σ3 H3 n3;exact⟨m',hm,σ3,H3,I3,w3⟩
  |cont=>
   obtain⟨σ3,H3,I3,n3⟩:=q3;obtain⟨m',hm,w3⟩:=hN σ3 H3 n3;exact⟨m',hm,σ3,H3,I3,w3⟩
  |brk=>exact q3
  |ret v=>exact q3
 |false=>
  rw[af iz];exact wpAny_execs_nil ⟨σ1,H2,I2,q2⟩
end
structure It where
 go:Nat→Hp→Prop
 qW:Nat→Hp→V→Hp→Prop
 stop:Nat→Hp→Prop
def jA(X:Cx)(aI:List (Addr×Obj))(H:Hp)(b:Addr):Prop:=
 H b=none∧b≠X.env.locals∧b ∉ X.fs∧(b∈X.ex∨X.s₀.heap.objs.size≤b)∧(∀x c,X.env.cells.lookup x=some c→c≠b)∧∀p∈X.pn++aI,p.1≠b
theorem Inv.o4{H':Hp}(I:Inv X aI σ H s)(hb:s.heap.objs.size≤b)(hn:H' b=none):jA X aI H' b:=by
 refine⟨hn,Nat.ne_of_gt (jo I.lt hb),I.WX hb,.inr (hU I.sz hb),λx c e z=>?_,λp hp z=>?_⟩
 ·obtain⟨v,q⟩:=I.cell x c e;exact absurd (jo q.lt (by rw[z];exact hb)) (uc _)
 ·exact absurd (jo (dX (I.pin p hp).1) (by rw[z];exact hb)) (uc _)
structure Turn(P:Program)(w:World)(K:Frag)(tg:Expr)(J:It)(fp:List Addr)(it:Addr)(tn:Nat→Heap→Prop):Prop where
 mem:it∈fp
 obj:∀i h,tn i h→∀b∈fp,∃o,h.get? b=some o∧∀v,o.data≠.cell v
 keep:∀i h h',tn i h→(∀b∈fp,∀o,h.get? b=some o→h'.get? b=some o)→tn i h'
 item:∀(X:Cx),X.prog=P→X.w=w→X.K=K→X.calm=true→∀(i:Nat)(aI:List (Addr×Obj))(s:Shared)(σ:St)(H:Hp)(E:QV),Inv X aI σ H s→(∀b∈fp,jA X aI H b)→tn i s.heap→J.go i H→
  wpAny (model P w) X.A (pyNext (.ref it)) (λr s1=>∃u,r=some u∧
   wpAny (model P w) X.A (letOwnedTupleGo tg (.ref it) u) (λ_ s2=>∃x H',Inv X aI σ H' s2∧RelV x u∧J.qW i H x H'∧tn (i+1) s2.heap∧∀b∈fp,H' b=none) E s1) E s
 done:∀(X:Cx),X.prog=P→X.w=w→X.K=K→X.calm=true→∀(i:Nat)(aI:List (Addr×Obj))(s:Shared)(σ:St)(H:Hp)(E:QV),Inv X aI σ H s→(∀b∈fp,jA X aI H b)→tn i s.heap→J.stop i H→
  wpAny (model P w) X.A (pyNext (.ref it)) (λr s1=>r=none∧Inv X aI σ H s1) E s
 self:∀(A:Around)(i:Nat)(s:Shared)(Q:QV)(E:QV),tn i s.heap→Q (.ref it) s→wpAny (model P w) A (pyIter (.ref it)) Q E s
abbrev TI:=St→Hp→(It→Hp→Prop)→Prop
def FV(X:Cx)(aI:List (Addr×Obj))(σ:St)(tg:Expr)(R:It→Hp→Prop)(Bd:Value)(s2:Shared):Prop:=
 ∃(it:Addr)(fp:List Addr)(tn:Nat→Heap→Prop)(J:It)(H':Hp),Bd=.ref it∧Inv X aI σ H' s2∧Turn X.prog X.w X.K tg J fp it tn∧tn 0 s2.heap∧(∀b∈fp,jA X aI H' b)∧R J H'
def PI(X:Cx)(tg iter:Expr)(wi:TI):Prop:=
 ∀(aI:List (Addr×Obj))(s:Shared)(σ:St)(H:Hp)(R:It→Hp→Prop),Inv X aI σ H s→wi σ H R→
  wpAny (model X.prog X.w) X.A (eval iter X.env) (λv s1=>wpAny (model X.prog X.w) X.A (pyIter v) (FV X aI σ tg R) X.xe s1) X.xe s
theorem Be{it:Addr}{o:Obj}{n:String}{vs:Array Value}(ho:s.heap.get? it=some o)(hc:o.cls=.type n)(hd:o.data=.fields vs)
  (hn:["enumerate","zip","dict_itemiterator","dict_reverseitemiterator","odict_iterator","itertools.zip_longest","itertools.pairwise"].contains n=false) (hQ:Q () s):wpAny M A (letOwnedTupleGo tg (.ref it) u) Q E s:=by
 unfold letOwnedTupleGo;cases tg<;>first
  |exact aq hQ
  |(cases u<;>first
    |exact aq hQ
    |(refine aj (wpAny_load ho ?_);rw[hc,hd];show wpAny M A (if(["enumerate","zip","dict_itemiterator","dict_reverseitemiterator","odict_iterator","itertools.zip_longest","itertools.pairwise"].contains n&&vs[0]? == some (rawInt _))=true then _ else _) Q E s;rw[af (by intro h;rw[hn,Bool.false_and]at h;cases h)];exact aq hQ))
noncomputable def qe(K:Frag)(a:Addr):It:=
 ⟨λi H=>∃xs x,dq K H a xs∧xs[i]?=some x,λi H x H'=>H'=H∧∀xs,dq K H a xs→xs[i]?=some x,λi H=>∃xs,dq K H a xs∧xs.length≤i⟩
noncomputable def qf(K:Frag)(a:Addr):It:=
 ⟨λi H=>∃xs x,bf K H a xs∧xs[i]?=some x,λi H x H'=>H'=H∧∀xs,bf K H a xs→xs[i]?=some x,λi H=>∃xs,bf K H a xs∧xs.length≤i⟩
noncomputable def sx(lo:Int)(n:Nat):It:=⟨λi _=>i<n,λi H x H'=>H'=H∧x=.int (lo+i),λi _=>n≤i⟩
theorem Xm{P:Program}{w:World}{K:Frag}(a it:Addr):Turn P w K tg (qe K a) [it] it (λi h=>h.IsListIter it a i) where
 mem:=by simp
 obj:=λi h st b hb=>by
  have e:b=it:=by simpa using hb
  subst e;obtain⟨o,e,c,d⟩:=st;exact⟨o,e,λv z=>by rw[d]at z;cases z⟩
 keep:=λi h h' st k=>st.at λo e=>k it (by simp) o e
 item:=by
  intro X hP hw hK hc i aI s σ H E I hf st hg;subst hP hw hK;obtain⟨xs,x,hq,hx⟩:=hg;obtain⟨its,rv,p,hz⟩:=I.list hq;obtain⟨u,hu,ru⟩:=rv.get hx;obtain⟨f0,f1,f2,f3,f4,f5⟩:=hf it (by simp);refine wpAny_pyNext_list_item st p.isList (x:=u) (by simpa using hu) λh' o5 sb=>?_;have I1:Inv X aI σ H { s with heap:=h' }:=I.turned (t':=s.toks) (λb o hb e=>(sb.2 b hb).trans e) f0 f1 f3 f4 f5;obtain⟨o,e,c,d⟩:=id o5;exact⟨u,rfl,Be (s:={ s with heap:=h' }) e c d (by decide) ⟨x,H,I1,ru,⟨rfl,λys hy=>by rw[I.MH hy hq];exact hx⟩,o5,λb hb=>(hf b hb).1⟩⟩
 done:=by
  intro X hP hw hK hc i aI s σ H E I hf st hg;subst hP hw hK;obtain⟨xs,hq,hx⟩:=hg;obtain⟨its,rv,p,hz⟩:=I.list hq;obtain⟨f0,f1,f2,f3,f4,f5⟩:=hf it (by simp);have hl:=rv.length;exact wpAny_pyNext_list_end (I.ok.hd hc) st p.isList (by simp;lia) λh' eb=>⟨rfl,I.turned (t':=s.toks) (λb o hb e=>eb b o hb e) f0 f1 f3 f4 f5⟩
 self:=λ_ _ _ _ _ st h=>wpAny_pyIter_listiter st h
theorem Xn{P:Program}{w:World}{K:Frag}(a it:Addr):Turn P w K tg (qf K a) [it] it (λi h=>h.IsTupleIter it a i) where
 mem:=by simp
 obj:=λi h st b hb=>by
  have e:b=it:=by simpa using hb
  subst e;obtain⟨o,e,c,d⟩:=st;exact⟨o,e,λv z=>by rw[d]at z;cases z⟩
 keep:=λi h h' st k=>st.at λo e=>k it (by simp) o e
 item:=by
  intro X hP hw hK hc i aI s σ H E I hf st hg;subst hP hw hK;obtain⟨xs,x,hq,hx⟩:=hg;obtain⟨its,rv,p,hz⟩:=I.tuple hq;obtain⟨u,hu,ru⟩:=rv.get hx;obtain⟨f0,f1,f2,f3,f4,f5⟩:=hf it (by simp);refine wpAny_pyNext_tuple_item st (show s.heap.IsTuple a its.toArray from p) (x:=u) (by simpa using hu) λh' o5 sb=>?_
  have I1:Inv X aI σ H { s with heap:=h' }:=I.turned (t':=s.toks) (λb o hb e=>(sb.2 b hb).trans e) f0 f1 f3 f4 f5;obtain⟨o,e,c,d⟩:=id o5;exact⟨u,rfl,Be (s:={ s with heap:=h' }) e c d (by decide) ⟨x,H,I1,ru,⟨rfl,λys hy=>by rw[I.MI hy hq];exact hx⟩,o5,λb hb=>(hf b hb).1⟩⟩
 done:=by
  intro X hP hw hK hc i aI s σ H E I hf st hg;subst hP hw hK;obtain⟨xs,hq,hx⟩:=hg;obtain⟨its,rv,p,hz⟩:=I.tuple hq;obtain⟨f0,f1,f2,f3,f4,f5⟩:=hf it (by simp);have hl:=rv.length;exact wpAny_pyNext_tuple_end (I.ok.hd hc) st (show s.heap.IsTuple a its.toArray from p) (by simp;lia) λh' eb=>⟨rfl,I.turned (t':=s.toks) (λb o hb e=>eb b o hb e) f0 f1 f3 f4 f5⟩
 self:=λ_ _ _ _ _ st h=>wpAny_pyIter_tupleiter st h
theorem Xo{P:Program}{w:World}{K:Frag}(it:Addr)(lo:Int)(n:Nat):Turn P w K tg (sx lo n) [it] it (λi h=>IsRangeIter h it (lo+(i:Nat)*1) ((n:Int)-(i:Nat)) 1) where
 mem:=by simp
 obj:=λi h st b hb=>by
  have e:b=it:=by simpa using hb
  subst e;exact⟨_,st,λv z=>by
   have z':Data.fields _=Data.cell v:=z;cases z'⟩
 keep:=λi h h' st k=>k it (by simp) _ st
 item:=by
  intro X hP hw hK hc i aI s σ H E I hf st hg;subst hP hw hK;obtain⟨f0,f1,f2,f3,f4,f5⟩:=hf it (by simp);have W:=Walks.range (prog:=X.prog) (w:=X.w) (I.ok.hd hc) it lo 1 n;refine W.item i s _ _ hg st λv h' tk hv o5 kk=>?_;obtain⟨t,rfl⟩:=hv;have I1:Inv X aI σ H { s with heap:=h',toks:=tk }:=I.turned (λb o hb e=>kk b o (by simpa using hb) e) f0 f1 f3 f4 f5;refine⟨_,rfl,Be (s:={ s with heap:=h',toks:=tk }) (n := "range_iterator") o5 rfl rfl (by decide) ⟨.int (lo+i),H,I1,⟨t,?_⟩,⟨rfl,rfl⟩,o5,λb hb=>(hf b hb).1⟩⟩;rw[Int.mul_one]
 done:=by
  intro X hP hw hK hc i aI s σ H E I hf st hg;subst hP hw hK;obtain⟨f0,f1,f2,f3,f4,f5⟩:=hf it (by simp);exact wpAny_pyNext_range_end (I.ok.hd hc) st (by have:n≤i:=hg;lia) λh' eb=>⟨rfl,I.turned (t':=s.toks) (λb o hb e=>eb b o hb e) f0 f1 f3 f4 f5⟩
 self:=λ_ _ _ _ _ st h=>wpAny_pyIter_rangeiter st h
section
variable{X:Cx}{tg:Expr}
def Bf(K:Frag)(tl:TE):TI:=λσ H R=>tl σ H λx H1=>∃a,x=.ref a∧(∃xs,dq K H1 a xs)∧R (qe K a) H1
def sy(K:Frag)(tl:TE):TI:=λσ H R=>tl σ H λx H1=>∃a,x=.ref a∧(∃xs,bf K H1 a xs)∧R (qf K a) H1
theorem Xp{l:Expr}{tl:TE}(hl:PE X l tl):PI X tg l (Bf X.K tl):=by
 intro aI s σ H R I h;refine bc (hl aI s σ H _ I h) λv s1 ⟨x,H1,I1,r1,q1⟩=>?_;obtain⟨a,e,⟨xs,hq⟩,q⟩:=q1;subst e;cases r1;obtain⟨its,rv,p,hz⟩:=I1.list hq;refine wpAny_pyIter_list p.isList ?_;refine⟨s1.heap.objs.size,[s1.heap.objs.size],_,_,H1,rfl,I1.kept (t':=s1.toks) λb o e=>dS _ e,Xm a _,⟨_,iA _ rfl,rfl,rfl⟩,λb hb=>?_,q⟩;have e:b=s1.heap.objs.size:=by simpa using hb
 subst e;exact I1.o4 (cu _) (I1.bK.fresh (cu _))
theorem Xq{l:Expr}{tl:TE}(hl:PE X l tl):PI X tg l (sy X.K tl):=by
 intro aI s σ H R I h;refine bc (hl aI s σ H _ I h) λv s1 ⟨x,H1,I1,r1,q1⟩=>?_;obtain⟨a,e,⟨xs,hq⟩,q⟩:=q1;subst e;cases r1;obtain⟨its,rv,p,hz⟩:=I1.tuple hq;refine wpAny_pyIter_tuple (show s1.heap.IsTuple a its.toArray from p) ?_
 refine⟨s1.heap.objs.size,[s1.heap.objs.size],_,_,H1,rfl,I1.kept (t':=s1.toks) λb o e=>dS _ e,Xn a _,⟨_,iA _ rfl,rfl,rfl⟩,λb hb=>?_,q⟩;have e:b=s1.heap.objs.size:=by simpa using hb
 subst e;exact I1.o4 (cu _) (I1.bK.fresh (cu _))
theorem Xr{R:It→Hp→Prop}{lo hi:Int}{t u v:Tok}{tk:Nat}(I:Inv X aI σ H s)(h1:-(2^62)≤lo)(h2:lo<2^62)(h3:-(2^62)≤hi)(h4:hi<2^62)
  (q:R (sx lo (hi-lo).toNat) H):wpAny (model X.prog X.w) X.A (pyIter (.ref s.heap.objs.size)) (FV X aI σ tg R) E { s with heap:=s.heap.push { cls:=.type "range",data:=.fields #[.int lo t,.int hi u,.int 1 v] },toks:=tk }:=by
 refine wpAny_pyIter_range (IsRange.new ..) (small_one h1 h2 h3 h4) ?_;have I1:Inv X aI σ H { s with heap:=s.heap.push { cls:=.type "range",data:=.fields #[.int lo t,.int hi u,.int 1 v] },toks:=tk }:=I.kept λb o e=>dS _ e;refine⟨(s.heap.push { cls:=.type "range",data:=.fields #[.int lo t,.int hi u,.int 1 v] }).objs.size,[(s.heap.push { cls:=.type "range",data:=.fields #[.int lo t,.int hi u,.int 1 v] }).objs.size],_,_,H,rfl,
  I1.kept (t':=tk) λb o e=>dS _ e,Xo _ lo (hi-lo).toNat,?_,λb hb=>?_,q⟩
 ·have e1:lo+((0:Nat):Int)*1=lo:=by simp
  have e2:(((hi-lo).toNat:Nat):Int)-((0:Nat):Int)=Builtin.Range.rangeSize lo hi 1:=by rw[rangeSize_one];split<;>lia
  show IsRangeIter _ _ (lo+((0:Nat):Int)*1) ((((hi-lo).toNat:Nat):Int)-((0:Nat):Int)) 1;rw[e1,e2];exact iA _ rfl
 ·have e:b=(s.heap.push { cls:=.type "range",data:=.fields #[.int lo t,.int hi u,.int 1 v] }).objs.size:=by simpa using hb
  subst e;exact I1.o4 (cu _) (I1.bK.fresh (cu _))
def Xs(ta:TA):TI:=λσ H R=>ta σ H λvs H1=>∃j:Int,vs=[.int j]∧-(2^62)≤j∧j<2^62∧R (sx 0 j.toNat) H1
theorem qX{a:Expr}{ta:TA}{p pos:Pos}(hg:Gl X "range")(hm:X.mg "range"=none)(ha:PA X [a] ta)(hs:starEach [a] X.env=[(false,eval a X.env)]:=by rfl):PI X tg (.Call (.Name "range" p) [a] [] pos) (Xs ta):=by
 intro aI s σ H R I h;refine Call_ (uw I hg hm boot_range (Fz (bc (ha pos aI s σ H _ I h) λus s1 ⟨vs,H1,I1,r1,q1⟩=>?_) hs rfl));obtain⟨j,e,q1,q2,q⟩:=q1;subst e;cases r1 with
 |cons r rr=>
  cases rr;obtain⟨t,rfl⟩:=r;exact call_range_1 (Xr I1 (by lia) (by lia) q1 q2 (by simpa using q))
def Xt(wi:TI)(g:TG)(tb:TS):TS:=λD σ H=>wi σ H λJ H1=>∃W:Nat→Nat→St→Hp→Prop,(∃m,W 0 m σ H1)∧∀i m σ H,W i m σ H→
 (J.stop i H∧D.nx σ H)∨(J.go i H∧∃N:St→Hp→Prop,(∀σ' H',N σ' H'→∃m',m'<m∧W (i+1) m' σ' H')∧∀x H',J.qW i H x H'→g x σ H' λσ2 H2=>tb { D with nx:=N,ct:=N,bk:=D.nx } σ2 H2)
noncomputable def yn(fp:List Addr)(h:Heap):List (Addr×Obj):=fp.filterMap λb=>(h.get? b).map λo=>(b,o)
theorem Bg{o:Obj}(hb:b∈fp)(e:h.get? b=some o):(b,o)∈yn fp h:=List.mem_filterMap.mpr ⟨b,hb,by rw[e];rfl⟩
theorem Xu{p:Addr×Obj}(hp:p∈yn fp h):p.1∈fp∧h.get? p.1=some p.2:=by
 obtain⟨b,hb,e⟩:=List.mem_filterMap.mp hp;cases q:h.get? b with
 |none=>rw[q]at e;cases e
 |some o=>
  rw[q]at e;have e':(b,o)=p:=c8 e;subst e';exact⟨hb,q⟩
theorem Inv.pinned(I:Inv X aI σ H s)(hf:∀b∈fp,jA X aI H b)(ho:∀b∈fp,∃o,s.heap.get? b=some o∧∀v,o.data≠.cell v):Inv X (aI++yn fp s.heap) σ H s:=
 I.AV λp hp=>(dI.mp hp).elim (λz=>I.pin p (jb _ z)) λz=>by
  obtain⟨hb,e⟩:=Xu z;obtain⟨f0,f1,f2,_⟩:=hf p.1 hb;obtain⟨o,e',d⟩:=ho p.1 hb;rw[e]at e';cases e';exact⟨e,f0,f1,f2,d⟩
theorem Inv.FW{pl:List (Addr×Obj)}(I:Inv X (aI++pl) σ H s):Inv X aI σ H s:=I.AV λp hp=>I.pin p (jb _ (nR _ hp))
theorem kc{iter:Expr}{wi:TI}{pos:Pos}(hp:PassesOwn (model X.prog X.w) X.A X.env X.xe)(hc:X.calm=true)(hi:PI X tg iter wi)(hg:PG X tg g)(hb:jP X body tb)
  (hs:∀x,foldedSetIterable iter X.env x=pure x:=by intro _;rfl):PS X (.For tg iter body [] pos) (Xt wi g tb):=by
 intro aI s σ H D I h;refine wpAny_For (bc (hi aI s σ H _ I h) λv s1 h1=>bc h1 λBd s2 h2=>?_) hs;obtain⟨it,fp,tn,J,H2,e,I2,T,lY,f2,W,⟨m0,w0⟩,o3⟩:=h2;subst e;have FX:∀{H':Hp},(∀b∈fp,H' b=none)→∀b∈fp,jA X aI H' b:=λhn b hb=>⟨hn b hb,(f2 b hb).2⟩;refine codeAny_forLoop_any (λn s'=>∃i σ' H',Inv X aI σ' H' s'∧tn i s'.heap∧(∀b∈fp,H' b=none)∧W i n σ' H') ?_ m0 ⟨0,σ,H2,I2,lY,λb hb=>(f2 b hb).1,w0⟩;rintro n s3 ⟨i,σ3,H3,I3,MN,MO,w3⟩;rcases o3 i n σ3 H3 w3 with⟨stop,qn⟩|⟨go,N,hN,step⟩
 ·refine ao hp (bc (T.done X rfl rfl rfl hc i aI s3 σ3 H3 X.xe I3 (FX MO) MN stop) λr s4 ⟨hr,I4⟩=>?_);subst hr;exact wpAny_execs_nil ⟨σ3,H3,I4,qn⟩
 ·refine ao hp (bc (T.item X rfl rfl rfl hc i aI s3 σ3 H3 X.xe I3 (FX MO) MN go) λr s4 ⟨u,hr,h4⟩=>?_);subst hr;refine ao hp (bc h4 λ_ s5 ⟨x,H5,I5,r5,y5,FY,Bh⟩=>?_);have Xv:=I5.pinned (FX Bh) (T.obj _ _ FY);refine ao hp (bc (hg _ s5 σ3 H5 x u _ Xv r5 (step x H5 y5)) λ_ s6 ⟨σ6,H6,I6,q6⟩=>?_);refine ao hp (bc (hb _ s6 σ6 H6 _ I6 q6) λf s7 q7=>?_);have again:∀{σ7:St}{H7:Hp},Inv X (aI++yn fp s5.heap) σ7 H7 s7→N σ7 H7→∃m,m<n∧∃i σ' H',Inv X aI σ' H' s7∧tn i s7.heap∧(∀b∈fp,H' b=none)∧W i m σ' H':=λ{σ7 H7} I7 n7=>by
   obtain⟨m',hm,w7⟩:=hN σ7 H7 n7;refine⟨m',hm,i+1,σ7,H7,I7.FW,T.keep _ _ _ FY λb hb o e=>(I7.pin (b,o) (jb _ (jb _ (Bg hb e)))).1,λb hb=>?_,w7⟩;obtain⟨o,e,d⟩:=T.obj _ _ FY b hb;exact(I7.pin (b,o) (jb _ (jb _ (Bg hb e)))).2.1
  cases f with
  |next=>obtain⟨σ7,H7,I7,n7⟩:=q7;exact again I7 n7
  |cont=>obtain⟨σ7,H7,I7,n7⟩:=q7;exact again I7 n7
  |brk=>obtain⟨σ7,H7,I7,q7⟩:=q7;exact⟨σ7,H7,I7.FW,q7⟩
  |ret v=>obtain⟨x7,σ7,H7,I7,r7,q7⟩:=q7;exact⟨x7,σ7,H7,I7.FW,r7,q7⟩
end
theorem yo{K:Frag}(Pv:Nat→St→Hp→Prop)(h0:Pv 0 σ H)(hl:∀i σ H,i≤xs.length→Pv i σ H→dq K H a xs)
  (hs:∀i x σ H,xs[i]?=some x→Pv i σ H→g x σ H λσ2 H2=>tb { D with nx:=Pv (i+1),ct:=Pv (i+1),bk:=D.nx } σ2 H2) (hd:∀σ H,Pv xs.length σ H→D.nx σ H) :
  ∃W:Nat→Nat→St→Hp→Prop,(∃m,W 0 m σ H)∧∀i m σ H,W i m σ H→
   ((qe K a).stop i H∧D.nx σ H)∨((qe K a).go i H∧∃N:St→Hp→Prop,(∀σ' H',N σ' H'→∃m',m'<m∧W (i+1) m' σ' H')∧∀x H',(qe K a).qW i H x H'→g x σ H' λσ2 H2=>tb { D with nx:=N,ct:=N,bk:=D.nx } σ2 H2):=by
 refine⟨λi m σ H=>m=xs.length-i∧i≤xs.length∧Pv i σ H,⟨xs.length,by simp,j7 _,h0⟩,?_⟩;rintro i m σ H ⟨rfl,hi,p⟩;have q:=hl i σ H hi p;by_cases cR:i<xs.length
 ·refine .inr ⟨⟨xs,xs[i],q,by simp[cR]⟩,Pv (i+1),λσ' H' p'=>⟨xs.length-(i+1),by lia,rfl,cR,p'⟩,λx H' y=>?_⟩;obtain⟨e,y⟩:=y;subst e;exact hs i x σ _ (y xs q) p
 ·have e:i=xs.length:=by lia
  subst e;exact .inl ⟨⟨xs,q,cu _⟩,hd σ H p⟩
theorem FZ{K:Frag}(Pv:Nat→St→Hp→Prop)(h0:Pv 0 σ H)(hl:∀i σ H,i≤xs.length→Pv i σ H→bf K H a xs)
  (hs:∀i x σ H,xs[i]?=some x→Pv i σ H→g x σ H λσ2 H2=>tb { D with nx:=Pv (i+1),ct:=Pv (i+1),bk:=D.nx } σ2 H2) (hd:∀σ H,Pv xs.length σ H→D.nx σ H) :
  ∃W:Nat→Nat→St→Hp→Prop,(∃m,W 0 m σ H)∧∀i m σ H,W i m σ H→
   ((qf K a).stop i H∧D.nx σ H)∨((qf K a).go i H∧∃N:St→Hp→Prop,(∀σ' H',N σ' H'→∃m',m'<m∧W (i+1) m' σ' H')∧∀x H',(qf K a).qW i H x H'→g x σ H' λσ2 H2=>tb { D with nx:=N,ct:=N,bk:=D.nx } σ2 H2):=by
 refine⟨λi m σ H=>m=xs.length-i∧i≤xs.length∧Pv i σ H,⟨xs.length,by simp,j7 _,h0⟩,?_⟩;rintro i m σ H ⟨rfl,hi,p⟩;have q:=hl i σ H hi p;by_cases cR:i<xs.length
 ·refine .inr ⟨⟨xs,xs[i],q,by simp[cR]⟩,Pv (i+1),λσ' H' p'=>⟨xs.length-(i+1),by lia,rfl,cR,p'⟩,λx H' y=>?_⟩;obtain⟨e,y⟩:=y;subst e;exact hs i x σ _ (y xs q) p
 ·have e:i=xs.length:=by lia
  subst e;exact .inl ⟨⟨xs,q,cu _⟩,hd σ H p⟩
theorem uB{lo:Int}(Pv:Nat→St→Hp→Prop)(h0:Pv 0 σ H)
  (hs:∀i σ H,i<n→Pv i σ H→g (.int (lo+i)) σ H λσ2 H2=>tb { D with nx:=Pv (i+1),ct:=Pv (i+1),bk:=D.nx } σ2 H2) (hd:∀σ H,Pv n σ H→D.nx σ H) :
  ∃W:Nat→Nat→St→Hp→Prop,(∃m,W 0 m σ H)∧∀i m σ H,W i m σ H→
   ((sx lo n).stop i H∧D.nx σ H)∨((sx lo n).go i H∧∃N:St→Hp→Prop,(∀σ' H',N σ' H'→∃m',m'<m∧W (i+1) m' σ' H')∧∀x H',(sx lo n).qW i H x H'→g x σ H' λσ2 H2=>tb { D with nx:=N,ct:=N,bk:=D.nx } σ2 H2):=by
 refine⟨λi m σ H=>m=n-i∧i≤n∧Pv i σ H,⟨n,by simp,j7 _,h0⟩,?_⟩;rintro i m σ H ⟨rfl,hi,p⟩;by_cases cR:i<n
 ·refine .inr ⟨cR,Pv (i+1),λσ' H' p'=>⟨n-(i+1),by lia,rfl,cR,p'⟩,λx H' y=>?_⟩;obtain⟨e,y⟩:=y;subst e y;exact hs i σ _ cR p
 ·have e:i=n:=by lia
  subst e;exact .inl ⟨cu _,hd σ H p⟩
abbrev R2:=V→V→Hp→VK→Prop
def eK(X:Cx)(f:Value→Value→Sem Value)(r:R2):Prop:=
 ∀(aI:List (Addr×Obj))(s:Shared)(σ:St)(H:Hp)(x y:V)(v u:Value)(Q:VK),Inv X aI σ H s→RelV x v→RelV y u→r x y H Q→
  wpAny (model X.prog X.w) X.A (f v u) (EP X aI σ Q) X.xe s
def F0(X:Cx)(f:Value→Sem Value)(r:V→Hp→VK→Prop):Prop:=
 ∀(aI:List (Addr×Obj))(s:Shared)(σ:St)(H:Hp)(x:V)(v:Value)(Q:VK),Inv X aI σ H s→RelV x v→r x H Q→
  wpAny (model X.prog X.w) X.A (f v) (EP X aI σ Q) X.xe s
def iB(X:Cx)(f:Value)(r:List V→Hp→VK→Prop):Prop:=
 ∀(aI:List (Addr×Obj))(s:Shared)(σ:St)(H:Hp)(xs:List V)(us:List Value)(Q:VK),Inv X aI σ H s→Vals xs us→r xs H Q→
  wpAny (model X.prog X.w) X.A (call f us) (EP X aI σ Q) X.xe s
def Xw(X:Cx)(r:V→Hp→(Bool→Hp→Prop)→Prop):Prop:=
 ∀(aI:List (Addr×Obj))(s:Shared)(σ:St)(H:Hp)(x:V)(v:Value)(Q:Bool→Hp→Prop),Inv X aI σ H s→RelV x v→r x H Q→
  wpAny (model X.prog X.w) X.A (truthy v) (TP X aI σ Q) X.xe s
def bz(r:R2)(ta tb:TE):TE:=λσ H Q=>ta σ H λx H1=>tb σ H1 λy H2=>r x y H2 Q
def MP(r:V→Hp→VK→Prop)(ta:TE):TE:=λσ H Q=>ta σ H λx H1=>r x H1 Q
def rI(C:Int→Int→Prop)(g:Int→Int→V):R2:=λx y H Q=>∃i j,x=.int i∧y=.int j∧C i j∧Q (g i j) H
def e7(g:Int→Int→V):R2:=λx y H Q=>∃i j,x=.int i∧y=.int j∧Q (g i j) H
def rU(g:Int→V):V→Hp→VK→Prop:=λx H Q=>∃i,x=.int i∧Q (g i) H
section
variable{X:Cx}{a b c:Expr}{ta tb tc:TE}{pos:Pos}
theorem Ga(ha:PE X a ta)(hb:PE X b tb){R:V→V→Hp→Prop}(I:Inv X aI σ H s)
  (h:ta σ H λx H1=>tb σ H1 λy H2=>R x y H2) {Q:QV} {f:Value→Value→Sem Value}
  (hf:∀v u s2 x y H2,Inv X aI σ H2 s2→RelV x v→RelV y u→R x y H2→wpAny (model X.prog X.w) X.A (f v u) Q X.xe s2) :
  wpAny (model X.prog X.w) X.A (eval a X.env) (λv s₁=>wpAny (model X.prog X.w) X.A (eval b X.env) (λu s₂=>wpAny (model X.prog X.w) X.A (f v u) Q X.xe s₂) X.xe s₁) X.xe s:=by
 refine bc (ha aI s σ H _ I h) λv s1 ⟨x,H1,I1,r1,q1⟩=>?_;refine bc (hb aI s1 σ H1 _ I1 q1) λu s2 ⟨y,H2,I2,r2,q2⟩=>?_;exact hf v u s2 x y H2 I2 r1 r2 q2
theorem aX{op:Operator}{r:R2}(ho:eK X (binaryOp op) r)(ha:PE X a ta)(hb:PE X b tb):PE X (.BinOp a op b pos) (bz r ta tb):=by
 intro aI s σ H Q I h;exact wpAny_BinOp (Ga ha hb I h λv u s2 x y H2 I2 rx ry q=>ho aI s2 σ H2 x y v u Q I2 rx ry q)
theorem vO{op:UnaryOp}{r:V→Hp→VK→Prop}(ho:F0 X (unaryOp op) r)(ha:PE X a ta):PE X (.UnaryOp op a pos) (MP r ta):=by
 intro aI s σ H Q I h;exact UnaryOp_ (bc (ha aI s σ H _ I h) λv s1 ⟨x,H1,I1,r1,q1⟩=>ho aI s1 σ H1 x v Q I1 r1 q1)
theorem Gb{C:Int→Int→Prop}{g:Int→Int→Int}
  (rule:∀(i j:Int)(t u:Tok)(s:Shared)(Q:QV)(E:QV),C i j→Q (.int (g i j) s.toks) { s with toks:=s.toks+1 }→wpAny (model X.prog X.w) X.A (f (.int i t) (.int j u)) Q E s) :
  eK X f (rI C λi j=>.int (g i j)):=by
 intro aI s σ H x y v u Q I rx ry h;obtain⟨i,j,rfl,rfl,hc,q⟩:=h;obtain⟨t,rfl⟩:=rx;obtain⟨t',rfl⟩:=ry;exact rule i j t t' s _ _ hc ⟨.int (g i j),H,I.tok _,⟨_,rfl⟩,q⟩
theorem MQ{g:Int→Int→Int}
  (rule:∀(i j:Int)(t u:Tok)(s:Shared)(Q:QV)(E:QV),Q (.int (g i j) s.toks) { s with toks:=s.toks+1 }→wpAny (model X.prog X.w) X.A (f (.int i t) (.int j u)) Q E s) :
  eK X f (e7 λi j=>.int (g i j)):=by
 intro aI s σ H x y v u Q I rx ry h;obtain⟨i,j,rfl,rfl,q⟩:=h;obtain⟨t,rfl⟩:=rx;obtain⟨t',rfl⟩:=ry;exact rule i j t t' s _ _ ⟨.int (g i j),H,I.tok _,⟨_,rfl⟩,q⟩
theorem Bi{g:Int→Int→Bool}
  (rule:∀(i j:Int)(t u:Tok)(s:Shared)(Q:QV)(E:QV),Q (.bool (g i j)) s→wpAny (model X.prog X.w) X.A (f (.int i t) (.int j u)) Q E s) :
  eK X f (e7 λi j=>.bl (g i j)):=by
 intro aI s σ H x y v u Q I rx ry h;obtain⟨i,j,rfl,rfl,q⟩:=h;obtain⟨t,rfl⟩:=rx;obtain⟨t',rfl⟩:=ry;exact rule i j t t' s _ _ ⟨.bl (g i j),H,I,rfl,q⟩
def qY(i j:Int):Prop:=0<j∧j<1073741824
def Gd(i j:Int):Prop:=(-(2^64)<i∧i<2^64)∨(-(2^64)<j∧j<2^64)
theorem Gd.ok{i j:Int}(h:Gd i j):IntMulOk i j:=by
 rcases h with⟨h1,h2⟩|⟨h1,h2⟩
 ·exact .of_left (intBits_le_64 h1 h2)
 ·exact .of_right (intBits_le_64 h1 h2)
theorem eU:eK X (binaryOp .Add) (e7 λi j=>.int (i+j)):=MQ λ_ _ _ _ _ _ _ q=>add_int q
theorem iS:eK X (binaryOp .Sub) (e7 λi j=>.int (i-j)):=MQ λ_ _ _ _ _ _ _ q=>sub_int q
theorem sE:eK X (binaryOp .Mult) (rI Gd λi j=>.int (i*j)):=Gb λ_ _ _ _ _ _ _ hc q=>mul_int q hc.ok
theorem kd:eK X (binaryOp .FloorDiv) (rI qY λi j=>.int (i/j)):=Gb λi j _ _ _ _ _ hc q=>by
 have h1:(0:Int)<j:=hc.1;have h2:j<1073741824:=hc.2;exact floordiv_int (by lia) (by rw[Int.fdiv_eq_ediv_of_nonneg i (by lia)];exact q) (.inl (PyProof.noPylong_small (by lia)))
theorem iC:eK X (binaryOp .Mod) (rI (λ_ j=>0<j) λi j=>.int (i%j)):=Gb λi j _ _ _ _ _ hc q=>by
 have h1:(0:Int)<j:=hc;exact mod_int' (by lia) (by rw[Int.fmod_eq_emod_of_nonneg i (by lia)];exact q)
theorem Xx{f:Value→Sem Value}{g:Int→Int}
  (rule:∀(i:Int)(t:Tok)(s:Shared)(Q:QV)(E:QV),Q (.int (g i) s.toks) { s with toks:=s.toks+1 }→wpAny (model X.prog X.w) X.A (f (.int i t)) Q E s) :
  F0 X f (rU λi=>.int (g i)):=by
 intro aI s σ H x v Q I rx h;obtain⟨i,rfl,q⟩:=h;obtain⟨t,rfl⟩:=rx;exact rule i t s _ _ ⟨.int (g i),H,I.tok _,⟨_,rfl⟩,q⟩
theorem vP:F0 X (unaryOp .USub) (rU λi=>.int (-i)):=Xx λ_ _ _ _ _ q=>neg_int q
end
noncomputable def MR:V→V→Bool
 | .ck,.ck=>true | .ck,.int _=>true | .int _,.ck=>true | .ck,.bl _=>true | .bl _,.ck=>true | .ck,.str _=>true | .str _,.ck=>true
 | .int _,.int _=>true | .bl _,.bl _=>true | .str _,.str _=>true | .lU _,.lU _=>true
 | .int _,.str _=>true | .str _,.int _=>true | .bl _,.str _=>true | .str _,.bl _=>true
 |_,_=>false
def qZ:R2:=λx y H Q=>MR x y=true∧Q (.bl (decide (x=y))) H
def Xy:R2:=λx y H Q=>MR x y=true∧Q (.bl (!decide (x=y))) H
theorem Ge{i j:Int}:decide (V.int i=V.int j)=(i==j):=by
 rw[Bool.eq_iff_iff];simp
theorem MT{i j:Bool}:decide (V.bl i=V.bl j)=(i==j):=by
 rw[Bool.eq_iff_iff];simp
theorem MU{i j:Str}:decide (V.str i=V.str j)=(i==j):=by
 rw[Bool.eq_iff_iff];simp
theorem MV{i j:Array UInt8}:decide (V.lU i=V.lU j)=(i.toList==j.toList):=by
 rw[Bool.eq_iff_iff];cases i;cases j;simp
section
variable{X:Cx}{a b c:Expr}{ta tb tc:TE}{pos:Pos}
theorem fo{Q:VK}{k k':Bool}(I:Inv X aI σ H s)(q:Q (.bl k) H)(e:k=k'):EP X aI σ Q (.bool k') s:=by
 subst e;exact⟨.bl k,H,I,rfl,q⟩
theorem eO:eK X (compareOp .Eq) qZ:=by
 intro aI s σ H x y v u Q I rx ry h;obtain⟨hs,q⟩:=h;cases x with
 |ck=>
  cases rx;cases y with
  |ck=>cases ry;exact PySem.EqNone.eq_none_none (fo I q (by simp))
  |bl j=>cases ry;exact PySem.EqNone.eq_none_bool (fo I q (by simp))
  |int j=>obtain⟨t',rfl⟩:=ry;exact PySem.EqNone.eq_none_int (fo I q (by simp))
  |str j=>obtain⟨t',rfl⟩:=ry;exact PySem.EqNone.eq_none_str (fo I q (by simp))
  |_=>exact absurd (show false=true from hs) iz
 |bl i=>
  cases rx;cases y with
  |ck=>cases ry;exact PySem.EqNone.eq_bool_none (fo I q (by simp))
  |bl j=>cases ry;exact eq_bool (fo I q MT)
  |str j=>obtain⟨t',rfl⟩:=ry;exact PySem.EqMixed.eq_bool_str (fo I q (by simp))
  |_=>exact absurd (show false=true from hs) iz
 |int i=>
  obtain⟨t,rfl⟩:=rx;cases y with
  |ck=>cases ry;exact PySem.EqNone.eq_int_none (fo I q (by simp))
  |int j=>obtain⟨t',rfl⟩:=ry;exact eq_int (fo I q Ge)
  |str j=>obtain⟨t',rfl⟩:=ry;exact PySem.EqMixed.eq_int_str (fo I q (by simp))
  |_=>exact absurd (show false=true from hs) iz
 |str i=>
  obtain⟨t,rfl⟩:=rx;cases y with
  |ck=>cases ry;exact PySem.EqNone.eq_str_none (fo I q (by simp))
  |bl j=>cases ry;exact PySem.EqMixed.eq_str_bool (fo I q (by simp))
  |int j=>obtain⟨t',rfl⟩:=ry;exact PySem.EqMixed.eq_str_int (fo I q (by simp))
  |str j=>obtain⟨t',rfl⟩:=ry;exact eq_str (fo I q MU)
  |_=>exact absurd (show false=true from hs) iz
 |lU i=>
  obtain⟨t,rfl⟩:=rx;cases y with
  |lU j=>obtain⟨t',rfl⟩:=ry;exact PySem.W.eq_bytes (fo I q MV)
  |_=>exact absurd (show false=true from hs) iz
 |_=>cases y<;>exact absurd (show false=true from hs) iz
theorem qg:eK X (compareOp .NotEq) Xy:=by
 intro aI s σ H x y v u Q I rx ry h;obtain⟨hs,q⟩:=h;cases x with
 |ck=>
  cases rx;cases y with
  |ck=>cases ry;exact PySem.EqNone.ne_none_none (fo I q (by simp))
  |bl j=>cases ry;exact PySem.EqNone.ne_none_bool (fo I q (by simp))
  |int j=>obtain⟨t',rfl⟩:=ry;exact PySem.EqNone.ne_none_int (fo I q (by simp))
  |str j=>obtain⟨t',rfl⟩:=ry;exact PySem.EqNone.ne_none_str (fo I q (by simp))
  |_=>exact absurd (show false=true from hs) iz
 |bl i=>
  cases rx;cases y with
  |ck=>cases ry;exact PySem.EqNone.ne_bool_none (fo I q (by simp))
  |bl j=>cases ry;exact ne_bool (fo I q (ai not MT))
  |str j=>obtain⟨t',rfl⟩:=ry;exact PySem.EqMixed.ne_bool_str (fo I q (by simp))
  |_=>exact absurd (show false=true from hs) iz
 |int i=>
  obtain⟨t,rfl⟩:=rx;cases y with
  |ck=>cases ry;exact PySem.EqNone.ne_int_none (fo I q (by simp))
  |int j=>obtain⟨t',rfl⟩:=ry;exact ne_int (fo I q (ai not Ge))
  |str j=>obtain⟨t',rfl⟩:=ry;exact PySem.EqMixed.ne_int_str (fo I q (by simp))
  |_=>exact absurd (show false=true from hs) iz
 |str i=>
  obtain⟨t,rfl⟩:=rx;cases y with
  |ck=>cases ry;exact PySem.EqNone.ne_str_none (fo I q (by simp))
  |bl j=>cases ry;exact PySem.EqMixed.ne_str_bool (fo I q (by simp))
  |int j=>obtain⟨t',rfl⟩:=ry;exact PySem.EqMixed.ne_str_int (fo I q (by simp))
  |str j=>obtain⟨t',rfl⟩:=ry;exact ne_str (fo I q (ai not MU))
  |_=>exact absurd (show false=true from hs) iz
 |lU i=>
  obtain⟨t,rfl⟩:=rx;cases y with
  |lU j=>obtain⟨t',rfl⟩:=ry;exact PySem.W.ne_bytes (fo I q (ai not MV))
  |_=>exact absurd (show false=true from hs) iz
 |_=>cases y<;>exact absurd (show false=true from hs) iz
theorem vQ:eK X (compareOp .Lt) (e7 λi j=>.bl (decide (i<j))):=Bi λ_ _ _ _ _ _ _ q=>lt_int q
theorem MW:eK X (compareOp .LtE) (e7 λi j=>.bl (decide (i≤j))):=Bi λ_ _ _ _ _ _ _ q=>le_int q
theorem MX:eK X (compareOp .Gt) (e7 λi j=>.bl (decide (j<i))):=Bi λ_ _ _ _ _ _ _ q=>gt_int q
theorem Xz:eK X (compareOp .GtE) (e7 λi j=>.bl (decide (j≤i))):=Bi λ_ _ _ _ _ _ _ q=>ge_int q
theorem MY:eK X (compareOp .Is) (λx y H Q=>y=.ck∧Q (.bl (decide (x=.ck))) H):=by
 intro aI s σ H x y v u Q I rx ry h;obtain⟨rfl,q⟩:=h;cases ry;refine is_none_gen (fo I q ?_);cases x<;>first
  |(cases rx;rfl)
  |(obtain⟨t,rfl⟩:=rx;rfl)
theorem MZ:eK X (compareOp .IsNot) (λx y H Q=>y=.ck∧Q (.bl (!decide (x=.ck))) H):=by
 intro aI s σ H x y v u Q I rx ry h;obtain⟨rfl,q⟩:=h;cases ry;refine isnot_none_gen (fo I q ?_);cases x<;>first
  |(cases rx;rfl)
  |(obtain⟨t,rfl⟩:=rx;rfl)
theorem cJ(b:Expr)(h:op≠.In:=by decide)(h2:op≠.NotIn:=by decide):behindInMarks op b=false:=by
 have e1:(op==CmpOp.In)=false:=by cases op<;>first|rfl|exact absurd rfl h
 have e2:(op==CmpOp.NotIn)=false:=by cases op<;>first|rfl|exact absurd rfl h2
 cases b<;>simp[behindInMarks,e1,e2]
theorem Gf{r:R2}(ho:eK X (compareOp op) r)(ha:PE X a ta)(hb:PE X b tb)(hm:behindInMarks op b=false):PE X (.Compare a [op] [b] pos) (bz r ta tb):=by
 intro aI s σ H Q I h;exact wpAny_Compare1 (Ga ha hb I h λv u s2 x y H2 I2 rx ry q=>ho aI s2 σ H2 x y v u Q I2 rx ry q) hm
def ke(t:TE):TT:=λσ H Q=>t σ H λx H'=>∃k,x=.bl k∧Q k H'
theorem cM{r:R2}(ho:eK X (compareOp op) r)(ha:PE X a ta)(hb:PE X b tb)(hm:behindInMarks op b=false):PT X (.Compare a [op] [b] pos) (ke (bz r ta tb)):=by
 intro aI s σ H Q I h;refine wpAny_isTrue_Compare1 (bc (ha aI s σ H _ I h) λv s1 ⟨x,H1,I1,r1,q1⟩=>bc (hb aI s1 σ H1 _ I1 q1) λu s2 ⟨y,H2,I2,r2,q2⟩=>
  bc (ho aI s2 σ H2 x y v u _ I2 r1 r2 q2) λc s3 ⟨z,H3,I3,r3,k,e,q3⟩=>?_) hm
 subst e;cases r3;exact ah ⟨H3,I3,q3⟩
def XA(r r':R2)(ta tb tc:TE):TE:=λσ H Q=>ta σ H λx H1=>tb σ H1 λy H2=>r x y H2 λz H3=>∃k,z=.bl k∧
 (if k=true then tc σ H3 λw' H4=>r' y w' H4 Q else Q (.bl false) H3)
theorem XB{Gg:CmpOp}{r r':R2}(ho:eK X (compareOp op) r)(qT:eK X (compareOp Gg) r')(ha:PE X a ta)(hb:PE X b tb)(hc:PE X c tc)
  (hm:lastMarks [op,Gg] [b,c]=false:=by with_unfolding_all rfl):PT X (.Compare a [op,Gg] [b,c] pos) (ke (XA r r' ta tb tc)):=by
 intro aI s σ H Q I h;refine isTrue_chain (bc (ha aI s σ H _ I h) λv s1 ⟨x,H1,I1,r1,q1⟩=>test_link (bc (hb aI s1 σ H1 _ I1 q1) λu s2 ⟨y,H2,I2,r2,q2⟩=>
  bc (ho aI s2 σ H2 x y v u _ I2 r1 r2 q2) λd s3 ⟨z,H3,I3,r3,k,e,q3⟩=>?_)) hm
 subst e;cases r3;refine ah ?_;cases k with
 |false=>
  obtain⟨k',e',q'⟩:=q3;cases e';exact ite_ff ⟨H3,I3,q'⟩
 |true=>
  refine ite_tt (test_last (bc (hc aI s3 σ H3 _ I3 q3) λw' s4 ⟨z',H4,I4,r4,q4⟩=>bc (qT aI s4 σ H4 y z' u w' _ I4 r2 r4 q4) λd' s5 ⟨z2,H5,I5,r5,k2,e2,q5⟩=>?_));subst e2;cases r5;exact ah ⟨H5,I5,q5⟩
def Gh(K:Frag)(x:V)(H:Hp)(k:Bool):Prop:=
 match x with
 | .ck=>k=false
 | .bl b=>k=b
 | .int i=>k=(i != 0)
 | .str y=>y.length≤sizeLine∧k=((y.length:Int) != 0)
 | .lU y=>y.size≤sizeLine∧k=((y.size:Int) != 0)
 | .ref p=>(∃xs,dq K H p xs∧k=!xs.isEmpty)∨(∃xs,bf K H p xs∧k=!xs.isEmpty)∨∃aR,H p=some (.dK aR)∧k=!aR.isEmpty
 |_=>False
theorem XC{κ:Type}{aR:List (κ×V)}{vs:List (κ×Value)}(r:KV aR vs):(!vs.isEmpty)=!aR.isEmpty:=by
 cases r<;>rfl
theorem M0{its:List Value}(r:Vals xs its):(!its.toArray.isEmpty)=!xs.isEmpty:=by
 cases r<;>simp
theorem yq:(sizeLine:Nat)<2^63:=by rw[sizeLine_eq];decide
theorem XD:Xw X (λx H Q=>∃k,Gh X.K x H k∧Q k H):=by
 intro aI s σ H x v Q I rx h;obtain⟨k,e,q⟩:=h;have hl:=yq;have hs:sizeLine=16777216:=sizeLine_eq;cases x with
 |ck=>
  cases rx;have e':k=false:=e;subst e';exact truthy_none ⟨H,I,q⟩
 |bl b=>
  cases rx;have e':k=b:=e;subst e';exact ah ⟨H,I,q⟩
 |int i=>
  obtain⟨t,rfl⟩:=rx;have e':k=(i != 0):=e;subst e';exact PySem.P.truthy_int ⟨H,I,q⟩
 |str y=>
  obtain⟨t,rfl⟩:=rx;obtain⟨hy,e'⟩:y.length≤sizeLine∧k=((y.length:Int) != 0):=e;subst e';exact PySem.P.truthy_str (by lia) ⟨H,I.tok _,q⟩
 |lU y=>
  obtain⟨t,rfl⟩:=rx;obtain⟨hy,e'⟩:y.size≤sizeLine∧k=((y.size:Int) != 0):=e;subst e';exact PySem.W.truthy_bytes (by lia) ⟨H,I.tok _,q⟩
 |ref p=>
  cases rx;have e':(∃xs,dq X.K H p xs∧k=!xs.isEmpty)∨(∃xs,bf X.K H p xs∧k=!xs.isEmpty)∨∃aR,H p=some (.dK aR)∧k=!aR.isEmpty:=e;rcases e' with⟨xs,hx,e'⟩|⟨xs,hx,e'⟩|⟨aR,hx,e'⟩
  ·subst e';obtain⟨its,r,pl,hz⟩:=I.list hx;have cF:=r.length;exact wpAny_truthy_list pl.isList (by simp only[dR];lia) ⟨H,I.tok _,by rw[M0 r];exact q⟩
  ·subst e';obtain⟨its,r,pl,hz⟩:=I.tuple hx;have cF:=r.length;exact truthy_tuple pl (by simp only[dR];lia) ⟨H,I.tok _,by rw[M0 r];exact q⟩
  ·subst e';obtain⟨hz,hS,vs,r,m⟩:aR.length≤sizeLine∧(p==sysModules)=false∧∃vs,KV aR vs∧s.heap.DictOf (j9 X.prog X.w) p vs:=I.bK p _ hx;have cF:aR.length=vs.length:=Paired.length r;exact wpAny_truthy_dict hS m (by lia) ⟨H,I.tok _,by rw[XC r];exact q⟩
 |_=>exact(show False from e).elim
theorem Bj(ha:PE X a ta)(he:∀qU,isTrue a X.env qU=(do let v ← qU;standAt a.pos;holding [v] (truthy v))) :
  PT X a (λσ H Q=>ta σ H λx H'=>∃k,Gh X.K x H' k∧Q k H'):=by
 intro aI s σ H Q I h;exact isTrue_plain (bc (ha aI s σ H _ I h) λv s1 ⟨x,H1,I1,r1,q1⟩=>XD aI s1 σ H1 x v Q I1 r1 q1) (he _)
theorem vals1{x:V}(r:Vals [x] us):∃u,us=[u]∧RelV x u:=by
 cases r with
 |cons r1 r2=>cases r2;exact⟨_,rfl,r1⟩
theorem vals2{x y:V}(r:Vals [x,y] us):∃u w',us=[u,w']∧RelV x u∧RelV y w':=by
 cases r with
 |cons r1 r2=>
  cases r2 with
  |cons r3 r4=>cases r4;exact⟨_,_,rfl,r1,r3⟩
theorem XE:iB X (.type "int") (λxs H Q=>(∃i,xs=[.int i]∧Q (.int i) H)∨∃k,xs=[.bl k]∧Q (.int (if k then 1 else 0)) H):=by
 intro aI s σ H xs us Q I r h;rcases h with⟨i,rfl,q⟩|⟨k,rfl,q⟩
 ·obtain⟨u,rfl,t,rfl⟩:=vals1 r;exact call_int_int ⟨.int i,H,I,⟨_,rfl⟩,q⟩
 ·obtain⟨u,rfl,r1⟩:=vals1 r;cases r1;exact call_int_bool ⟨.int (if k then 1 else 0),H,I.tok _,⟨_,rfl⟩,q⟩
end
structure Gi(h:Heap)(x dx C:Addr)(mA:Str→Option Value):Prop where
 obj:h.get? x=some (PySem.W.instObj C dx)
 ns:h.Ns1 dx mA
 ne:dx≠x
theorem XF{dx:Addr}{mA:Str→Option Value}(n:h.Ns1 dx mA):∃od,h.get? dx=some od∧∀name,PySem.W.lookIn name od=some (mA name):=by
 obtain⟨o,es,ep,ho,hd,hk,_,hm⟩:=n;refine⟨o,ho,λname=>?_⟩;have e:=hm name;unfold nsFind findBy at e;rw[← Array.find?_toList]at e;unfold PySem.W.lookIn;rw[hd];dsimp only;split
 ·rename_i y q
  rw[q]at e;exact ai some e
 ·rename_i q
  rw[q]at e;have a:es.toList.any (·.refKey)=false:=by
   rw[List.any_eq_false];intro y hy;obtain⟨z,t,XG⟩:=hk y (Array.mem_toList_iff.mp hy);simp[DictEntry.refKey,XG]
  have a':¬es.toList.any (·.refKey)=true:=by rw[a];exact iz
  rw[af a'];exact ai some e
theorem Gi.look{x dx C:Addr}{mA:Str→Option Value}(I:Gi h x dx C mA):∃od,PySem.W.InstAt h x (PySem.W.instObj C dx) C (some od)∧∀name,PySem.W.lookIn name od=some (mA name):=
 let ⟨od,ho,hl⟩:=XF I.ns
 ⟨od,⟨I.obj,rfl,rfl,ho⟩,hl⟩
section
variable{prog:Program}{w:World}{A:Around}{E:QV}{s:Shared}{K:Frag}{x dx C f:Addr}{mA:Str→Option Value}{name:Str}{v:Value}
end
theorem oV.some_of{o:Option Value}(r:oV (some v) o):∃u,o=some u∧RelV v u:=by
 cases o with
 |none=>exact(show False from r).elim
 |some u=>exact⟨u,rfl,r⟩
section
variable{P:Program}{w:World}{H H':Hp}{h h':Heap}{a C dx:Addr}{fs Mq:List (Str×V)}
theorem XH(bK:fE P w H h)(e:H a=some (.ins C dx fs)):∃mA,Gi h a dx C mA∧(∀f,oV (fs.lookup f) (mA f))∧PySem.Within mA (fs.map (·.1))∧fs.length≤1000∧H dx=some (.own a):=by
 obtain⟨d,z,ne,ob,mA,n,r,q⟩:=(show fu P w H h a (.ins C dx fs) from bK a _ e)
 exact⟨mA,⟨ob,n,ne⟩,r,q,z,d⟩
end
structure Gj(K:Frag)(C:Addr):Prop where
 pg:PySem.W.plainGet K C Str.empty=true
 hd:PySem.W.hasDictIn K C=true
 po:PySem.W.plainOver K C=true
 sa:PySem.W.findIn K (.ref C) "__setattr__"=some (some (.builtin "object.__setattr__"))
theorem Gj.get{K:Frag}{C:Addr}(c:Gj K C)(f:Str):PySem.W.plainGet K C f=true:=c.pg
section
variable{X:Cx}{aI:List (Addr×Obj)}{σ:St}{H:Hp}{s:Shared}{a C dx:Addr}{fs:List (Str×V)}{f:Str}{v:V}{A:Around}{E:QV}
end
section
variable{X:Cx}{o e value:Expr}{f:Str}{pos mE XI:Pos}{ta tv:TE}
end
section
variable{X:Cx}{aI:List (Addr×Obj)}{σ:St}{H:Hp}{s:Shared}{A:Around}{E:QV}{Q:QV}{c:Value}{b:Bool}
inductive mV(K:Frag)(H:Hp):V→Value→Prop where
 |ck:mV K H .ck (.type "NoneType")
 |bl (x:Bool):mV K H (.bl x) (.type "bool")
 |int (i:Int):mV K H (.int i) (.type "int")
 |str (x:Str):mV K H (.str x) (.type "str")
 |um (x:UInt64):mV K H (.um x) (.type "float")
 |lst {a:Addr} {xs:List V} (e:H a=some (.lst xs)):mV K H (.ref a) (.type "list")
 |jO {a:Addr} {o:Obj} {xs:List V} (e:H a=some (.jO o (.lst xs))):mV K H (.ref a) (.type "list")
 |tup {a:Addr} {xs:List V} (e:H a=some (.tup xs)):mV K H (.ref a) (.type "tuple")
 |dK {a:Addr} {aR:List (Key×V)} (e:H a=some (.dK aR)):mV K H (.ref a) (.type "dict")
 |dT {a:Addr} {aR:List (List Key×V)} (e:H a=some (.dT aR)):mV K H (.ref a) (.type "dict")
 |ins {a C dx:Addr} {fs:List (Str×V)} (e:H a=some (.ins C dx fs)) (cl:Gj K C) (ha:PySem.W.findIn K (.ref C) "__class__"=some (some (.builtin "object.__class__")))
   (hn:PySem.W.specialIn K (.builtin "object.__class__") "__get__"=some (some (.builtin "getset_descriptor.__get__"))) (sF:PySem.W.takesIn K (.builtin "object.__class__")=some true)
   (hm:PySem.W.mroIn K C (.type "object")=some true):mV K H (.ref a) (.ref C)
theorem XJ{x:V}{t:Value}(I:Inv X aI σ H s)(rx:RelV x u)(ty:mV X.K H x t)(e:kitOne X.K t c=some b)(h:∀tk,Q (.bool b) { s with toks:=tk }) :
  wpAny (model X.prog X.w) A (call (.builtin "isinstance") [u,c]) Q E s:=by
 cases ty with
 |ck=>cases(show u=Value.none from rx);exact pX PySem.W.kitx_none I.gO True.intro e (λz=>nomatch z) h
 |bl y=>cases(show u=Value.bool y from rx);exact pX PySem.W.kitx_bool I.gO True.intro e (λz=>nomatch z) h
 |int i=>obtain⟨t,q⟩:=(show ∃t,u=Value.int i t from rx);cases q;exact pX PySem.W.kitx_int I.gO True.intro e (λz=>nomatch z) h
 |str y=>obtain⟨t,q⟩:=(show ∃t,u=Value.str y t from rx);cases q;exact pX PySem.W.kitx_str I.gO True.intro e (λz=>nomatch z) h
 |um y=>obtain⟨t,q⟩:=(show ∃t,u=Value.float y t from rx);cases q;exact pX PySem.W.kitx_float I.gO True.intro e (λz=>nomatch z) h
 | @lst a xs ea=>
  cases(show u=Value.ref a from rx)
  obtain⟨_,_,n,_,h1⟩:=(show fu X.prog X.w H s.heap a (.lst xs) from I.bK a _ ea)
  exact pX PySem.W.kitx_list I.gO ⟨_,h1,rfl⟩ e (λz=>nomatch z) h
 | @jO a ob xs ea=>
  cases(show u=Value.ref a from rx)
  obtain⟨_,_,_,n,_,h1⟩:=(show fu X.prog X.w H s.heap a (.jO ob (.lst xs)) from I.bK a _ ea)
  exact pX PySem.W.kitx_list I.gO ⟨_,h1,rfl⟩ e (λz=>nomatch z) h
 | @tup a xs ea=>
  cases(show u=Value.ref a from rx)
  obtain⟨_,_,_,p⟩:=(show fu X.prog X.w H s.heap a (.tup xs) from I.bK a _ ea)
  obtain⟨o,h1,h2,_⟩:=p;exact pX PySem.W.kitx_tuple I.gO ⟨o,h1,h2⟩ e (λz=>nomatch z) h
 | @dK a aR ea=>
  cases(show u=Value.ref a from rx)
  obtain⟨_,_,vs,_,p⟩:=(show fu X.prog X.w H s.heap a (.dK aR) from I.bK a _ ea)
  obtain⟨o,es,ep,h1,h2,_⟩:=p;exact pX PySem.W.kitx_dict I.gO ⟨o,h1,h2.1⟩ e (λz=>nomatch z) h
 | @dT a aR ea=>
  cases(show u=Value.ref a from rx)
  obtain⟨_,_,xs,_,o,es,ep,h1,h2,_⟩:=(show fu X.prog X.w H s.heap a (.dT aR) from I.bK a _ ea)
  exact pX PySem.W.kitx_dict I.gO ⟨o,h1,h2.1⟩ e (λz=>nomatch z) h
 | @ins a C dx fs ea cl ha hn sF hm=>
  cases(show u=Value.ref a from rx)
  obtain⟨mA,O,_⟩:=XH I.bK ea;obtain⟨od,J,_⟩:=O.look;exact pX (PySem.W.kitx_own (cl.get _) cl.hd ha hn sF hm) I.gO J e (λz=>nomatch z) h
end
structure dt(k:Nat)(A:Around):Prop where
 hd:A.handled=none
 dp:A.depth+3*k+5<recursionLimit
 un:A.units+16*k+200<cLine
theorem dt.mono{j k:Nat}(r:dt k A)(h:j≤k):dt j A:=⟨r.hd,by have:=r.dp;lia,by have:=r.un;lia⟩
theorem dt.deeper{k:Nat}{A:Around}(r:dt (k+1) A)(env:Env):dt k (A.deeper env):=
 ⟨r.hd,by have:=r.dp;show A.depth+1+3*k+5<_;lia,by have:=r.un;show A.units+3+16*k+200<_;lia⟩
theorem dt.depth{k:Nat}{A:Around}(r:dt k A):A.depth<recursionLimit:=by have:=r.dp;lia
theorem dt.units{k:Nat}{A:Around}(r:dt k A):A.units+64<cLine:=by have:=r.un;lia
def cm:TA:=λ_ H Q=>Q [] H
def bg(ta:TE)(tr:TA):TA:=λσ H Q=>ta σ H λx H1=>tr σ H1 λxs H2=>Q (x::xs) H2
section
variable{X:Cx}{e:Expr}{es:List Expr}{te:TE}{t:TA}{pos:Pos}
theorem aO:PA X [] cm:=λ_ _ _ _ H Q I h=>Calls.spliced_nil ⟨[],H,I,.nil,h⟩
theorem aJ(ha:PE X e te)(hr:PA X es t)(hs:starEach (e::es) X.env=(false,eval e X.env)::starEach es X.env:=by rfl):PA X (e::es) (bg te t):=by
 intro pos aI s σ H Q I h;rw[hs];show wpAny _ _ (spliced ((false,eval e X.env)::backTo pos (starEach es X.env))) _ _ s;refine Calls.spliced_cons (bc (ha aI s σ H _ I h) λu s1 ⟨x,H1,I1,r1,q1⟩=>?_);exact bc (hr pos aI s1 σ H1 _ I1 q1) λus s2 ⟨xs,H2,I2,r2,q2⟩=>⟨x::xs,H2,I2,.cons r1 r2,q2⟩
def jQ(t:TA):TE:=λσ H Q=>t σ H λxs H1=>xs.length≤sizeLine∧∀p,H1 p=none→Q (.ref p) (upd H1 p (.tup xs))
def dN(t:TA):TE:=λσ H Q=>t σ H λxs H1=>xs.length≤sizeLine∧∀p,H1 p=none→Q (.ref p) (upd H1 p (.lst xs))
theorem c7{x1}(h:PA X es t):PE X (.Tuple es x1 pos) (jQ t):=by
 intro aI s σ H Q I hq;refine wpAny_Tuple_spliced (bc (h pos aI s σ H _ I hq) λus s1 ⟨xs,H1,I1,r,z,q⟩=>⟨by rw[← r.length];exact z,?_⟩);have hf:H1 s1.heap.objs.size=none:=I1.bK.fresh (cu _);refine⟨.ref s1.heap.objs.size,upd H1 s1.heap.objs.size (.tup xs),I1.laid (t':=s1.toks) (λb u e=>dS _ e) (cu _) ?_,rfl,q _ hf⟩;exact⟨z,us,r,⟨_,iA _ rfl,rfl,_,rfl⟩⟩
theorem cE(h:PA X es t):PE X (.List es pos) (dN t):=by
 intro aI s σ H Q I hq;refine wpAny_List_spliced (bc (h pos aI s σ H _ I hq) λus s1 ⟨xs,H1,I1,r,z,q⟩=>⟨by rw[← r.length];exact z,?_⟩);have hf:H1 s1.heap.objs.size=none:=I1.bK.fresh (cu _);refine⟨.ref s1.heap.objs.size,upd H1 s1.heap.objs.size (.lst xs),I1.laid (t':=s1.toks) (λb u e=>dS _ e) (cu _) ?_,rfl,q _ hf⟩;exact⟨z,us,0,r,iA _ rfl⟩
end
abbrev Sp:=List V→Hp→VK→XK→Prop
abbrev qO:=List Env→Hp→Shared→XK→Value→Shared→Prop
structure vR(P:Program)(w:World)(K:Frag)(mg:Str→Option Value)(base:Heap)(A:Around)(outer:List Env)(s:Shared)(H:Hp):Prop where
 frames:A.frames=some outer
 mod:Mod K mg base
 bs:∀b o,base.get? b=some o→s.heap.get? b=some o∧H b=none
 qS:base.objs.size≤s.heap.objs.size
 nT:s.heap.FunFrames base outer
 ur:∀b∈lV outer,H b=none
 bK:fE P w H s.heap
 bare:AllBare s.gens
def CE(outer:List Env)(P:Program)(w:World)(H:Hp)(s:Shared)(Q:VK)(u:Value)(s':Shared):Prop:=
 ∃v H',s'.os=s.os∧AllBare s'.gens∧Un (lV outer) [] H H' s.heap s'.heap∧fE P w H' s'.heap∧RelV v u∧Q v H'
def CR(CX:qO)(outer:List Env)(P:Program)(w:World)(H:Hp)(s:Shared)(Q:VK)(E:XK)(r:Result)(s':Shared):Prop:=
 match r with
 | .ok (.ret u)=>CE outer P w H s Q u s'
 | .ok _=>False
 | .error e=>CX outer H s E e s'
structure br(P:Program)(w:World)(K:Frag)(mg:Str→Option Value)(base:Heap)(CX:qO)(k:Nat)(f:Addr)(fd:FuncData)(ps:List Str)(sp:Sp):Prop where
 len:∀vs H Q E,sp vs H Q E→vs.length=ps.length
 run:∀(A:Around)(outer:List Env)(s:Shared)(H:Hp)(args:Args)(us:List Value)(vs:List V)(Q:VK)(E:XK),dt k A→vR P w K mg base A outer s H→BindsTo s fd args (ps.zip us)→Vals vs us→sp vs H Q E→
  codeAny (model P w) A (.call (.ref f) args) (CR CX outer P w H s Q E) s
theorem br.mono{P:Program}{w:World}{K:Frag}{mg:Str→Option Value}{base:Heap}{CX:qO}{j k:Nat}{f:Addr}{fd:FuncData}{ps:List Str}{sp:Sp}(F:br P w K mg base CX j f fd ps sp)(h:j≤k) :
  br P w K mg base CX k f fd ps sp:=⟨F.len,λA outer s H args us vs Q E hr=>F.run A outer s H args us vs Q E (hr.mono h)⟩
theorem br.imp{P:Program}{w:World}{K:Frag}{mg:Str→Option Value}{base:Heap}{k:Nat}{f:Addr}{fd:FuncData}{sp M1:Sp}(F:br P w K mg base CX k f fd ps sp)
  (h:∀vs H Q E,M1 vs H Q E→sp vs H Q E):br P w K mg base CX k f fd ps M1:=
 ⟨λvs H Q E q=>F.len vs H Q E (h _ _ _ _ q),λA outer s H args us vs Q E hr he hb hv hs=>F.run A outer s H args us vs Q E hr he hb hv (h _ _ _ _ hs)⟩
section
variable{X:Cx}{aI:List (Addr×Obj)}{σ:St}{H:Hp}{s s':Shared}
theorem Inv.Gk(I:Inv X aI σ H s):vR X.prog X.w X.K X.mg X.base X.A X.stack s H:=
 ⟨I.ok.frames,I.ok.mod,I.bs,hU I.ok.qS I.sz,I.stack,I.Mr,I.bK,I.bare⟩
theorem Inv.after{Q:VK}(I:Inv X aI σ H s)(h:CE X.stack X.prog X.w H s Q u s'):EP X aI σ Q u s':=by
 obtain⟨v,H',os,bare,un,bK,r,q⟩:=h;obtain⟨hh,g,d,t,XM⟩:=s';obtain rfl:XM=s.os:=os;exact⟨v,H',I.call (h':=hh) (g':=g) (d':=d) (t':=t) (ch:=[]) un bK bare (λb z=>absurd z (by simp)),r,q⟩
end
def iD(sp:Sp)(sG:List V)(E:XK)(t:TA):TE:=λσ H Q=>t σ H λvs H1=>sp (vs++sG) H1 Q E
def Binds(K:Frag)(fd:FuncData)(ps:List Str)(ds:List Value):Prop:=
 ∀(s:Shared)(us:List Value),K.In s.heap→(us++ds).length=ps.length→BindsTo s fd ⟨us,[]⟩ (ps.zip (us++ds))
theorem Binds.all{K:Frag}{fd:FuncData}(h:∀us:List Value,us.length=ps.length→bindArgs fd ⟨us,[]⟩=pure (ps.zip us)):Binds K fd ps []:=λs us _ hl=>by
 rw[j8]at hl ⊢;exact .of_eq (h us hl)
def Passes(CX:qO)(X:Cx)(E:XK):Prop:=∀(aI:List (Addr×Obj))(σ:St)(H:Hp)(s:Shared)(e:Value)(s':Shared),Inv X aI σ H s→CX X.stack H s E e s'→X.xe e s'
section
variable{X:Cx}{CX:qO}{k:Nat}{f C:Addr}{fd:FuncData}{ps:List Str}{sp:Sp}{sG:List V}{ds:List Value}{E:XK}{x m:Str}{p pos lE:Pos}{e o:Expr}{es:List Expr}{ta:TE}{t:TA}
theorem XN{Q:VK}{vs:List V}(F:br X.prog X.w X.K X.mg X.base CX k f fd ps sp)(hr:dt k X.A)(hb:Binds X.K fd ps ds)(hd:Vals sG ds)(hx:Passes CX X E)
  (I:Inv X aI σ H s) (r:Vals vs us) (h:sp (vs++sG) H Q E):wpAny (model X.prog X.w) X.A (call (.ref f) us) (EP X aI σ Q) X.xe s:=by
 have r2:Vals (vs++sG) (us++ds):=r.append hd;have hl:(us++ds).length=ps.length:=by rw[← r2.length];exact F.len _ _ _ _ h
 refine wpAny_call (codeAny_mono (F.run X.A X.stack s H ⟨us,[]⟩ (us++ds) (vs++sG) Q E hr I.Gk (hb s us I.gO hl) r2 h) λr s' hq=>?_);cases r with
 |error e=>exact hx aI σ H s e s' I hq
 |ok fl=>
  cases fl with
  |ret u=>exact I.after hq
  |next=>exact False.elim hq
  |brk=>exact False.elim hq
  |cont=>exact False.elim hq
theorem bZ(F:br X.prog X.w X.K X.mg X.base CX k f fd ps sp)(hr:dt k X.A)(hg:Gl X x)(hm:X.mg x=some (.ref f))(hk:Kp X.K f)(hb:Binds X.K fd ps ds)(hd:Vals sG ds)(hx:Passes CX X E)
  (ha:PA X (e::es) t) (uC:(x==("__debug__":Str))=false:=by decide) (he:starEach (e::es) X.env=(false,eval e X.env)::starEach es X.env:=by rfl) (kf:(backTo pos (starEach es X.env)).any (·.1)=false:=by rfl) :
  PE X (.Call (.Name x p) (e::es) [] pos) (iD sp sG E t):=by
 intro aI s σ H Q I h;refine ar (FP I hg hm ?_ uC);refine PySem.W.callWith_K (h₀:=X.base) I.ok.mod.uq hk (bc (ha pos aI s σ H _ I h) λus s1 ⟨vs,H1,I1,r,q⟩=>⟨I1.gO,?_⟩) he kf;exact XN F hr hb hd hx I1 r q
end
section
variable{X:Cx}{CX:qO}{k:Nat}{f C:Addr}{fd:FuncData}{ps ks:List Str}{sp:Sp}{E:XK}{x m:Str}{p pos lE afa:Pos}{e o:Expr}{es:List Expr}{kws:List Keyword}{te ta:TE}{t tk:TA}{nm:Option Str}
variable{g:List Value→List Value→List Value}{gV:List V→List V→List V}
end
structure cT(N P:List Str)(sc:Scope):Prop where
 kind:sc.kind=.function
 co:sc.isCoroutine=false
 gen:sc.isGenerator=false
 nd:N.Nodup
 pre:N.take P.length=P
 par:∀x∈P,sc.names.lookup x=some .local∨sc.names.lookup x=some .cell
 XO:∀y∈sc.names,y.2≠.free
theorem de{N P:List Str}{sc:Scope}(a:sc.kind=.function)(b:sc.isCoroutine=false)(c:sc.isGenerator=false)(h:N.Nodup∧(∀x∈P,sc.names.lookup x=some .local∨sc.names.lookup x=some .cell)∧∀y∈sc.names,y.2≠.free)(e:N.take P.length=P):cT N P sc:=⟨a,b,c,h.1,e,h.2.1,h.2.2⟩
theorem M3{kindOf:Str→Option NameKind}{x:Str}:∀{binds:List (Str×Value)}{m:Str→Option Value},(∀v,(x,v) ∉ binds)→bindL kindOf binds m x=m x
 | [],_,_=>rfl
 |(n,v)::r,m,h=>by
  unfold bindL;rw[M3 λw hw=>h w (iy _ hw)];split
  ·have:x≠n:=by rintro rfl;exact h v ek
   simp[this]
  ·rfl
theorem M4{kindOf:Str→Option NameKind}{x:Str}:∀{binds:List (Str×Value)}{m:Str→Option Value},(∀v,(x,v) ∉ binds)→bindC kindOf binds m x=m x
 | [],_,_=>rfl
 |(n,v)::r,m,h=>by
  unfold bindC;rw[M4 λw hw=>h w (iy _ hw)];split
  ·rfl
  ·have:x≠n:=by rintro rfl;exact h v ek
   simp[this]
theorem M5{kindOf:Str→Option NameKind}{x:Str}{v:Value}:∀{P:List Str}{vs:List Value}{i:Nat}{m:Str→Option Value},P.Nodup→P[i]?=some x→vs[i]?=some v→kindOf x=some .local→
  bindL kindOf (P.zip vs) m x=some v
 | [],_,_,_,_,h,_,_=>by simp at h
 |_::_,[],_,_,_,_,h,_=>by simp at h
 |p::P,w::vs,0,m,nd,h1,h2,hk=>by
  simp at h1 h2;subst h1;subst h2;show bindL kindOf ((p,w)::P.zip vs) m p=_;unfold bindL;rw[M3 λv hv=>(List.nodup_cons.mp nd).1 (qI hv).1,ae hk];simp
 |p::P,w::vs,i+1,m,nd,h1,h2,hk=>by
  show bindL kindOf ((p,w)::P.zip vs) m x=_;unfold bindL;exact M5 (i:=i) (List.nodup_cons.mp nd).2 (by simpa using h1) (by simpa using h2) hk
theorem M6{kindOf:Str→Option NameKind}{x:Str}{v:Value}:∀{P:List Str}{vs:List Value}{i:Nat}{m:Str→Option Value},P.Nodup→P[i]?=some x→vs[i]?=some v→kindOf x≠some .local→
  bindC kindOf (P.zip vs) m x=some v
 | [],_,_,_,_,h,_,_=>by simp at h
 |_::_,[],_,_,_,_,h,_=>by simp at h
 |p::P,w::vs,0,m,nd,h1,h2,hk=>by
  simp at h1 h2;subst h1;subst h2;show bindC kindOf ((p,w)::P.zip vs) m p=_;unfold bindC;rw[M4 λv hv=>(List.nodup_cons.mp nd).1 (qI hv).1,af hk];simp
 |p::P,w::vs,i+1,m,nd,h1,h2,hk=>by
  show bindC kindOf ((p,w)::P.zip vs) m x=_;unfold bindC;exact M6 (i:=i) (List.nodup_cons.mp nd).2 (by simpa using h1) (by simpa using h2) hk
noncomputable def start(N:List Str)(vs:List V):St:=vs.map some++List.replicate (N.length-vs.length) none
noncomputable def mX(CX:qO)(P:Program)(w:World)(K:Frag)(mg:Str→Option Value)(base:Heap)(N:List Str)(qual:Str)(scope:Scope)(f:Addr)(cd:Value)(A:Around)(outer:List Env)(s:Shared)(H:Hp)(E:XK):Cx where
 prog:=P
 w:=w
 K:=K
 mg:=mg
 base:=base
 A:=A.deeper (envOfC qual scope s.heap.objs.size f cd)
 N:=N
 s₀:=s
 H₀:=H
 env:=envOfC qual scope s.heap.objs.size f cd
 outer:=outer
 stack:=envOfC qual scope s.heap.objs.size f cd::outer
 ex:=[]
 calm:=true
 fn:=λ_=>true
 pn:=[]
 xe:=λe s'=>wpAny (model P w) (A.deeper (envOfC qual scope s.heap.objs.size f cd)) (leaving (envOfC qual scope s.heap.objs.size f cd) e) (λ_ qh=>CX outer H s E e qh) (λe' qh=>CX outer H s E e' qh) s'
theorem Gm{sc:Scope}(h:sc.names.lookup x=some .cell):∃c,(cellsFrom n sc.names []).lookup x=some c:=by
 have q:=FD sc.names n [] (.inl h);exact Option.isSome_iff_exists.mp q
theorem Gn{P:Program}{w:World}{K:Frag}{mg:Str→Option Value}{base:Heap}{N:List Str}{qual:Str}{scope:Scope}{f:Addr}{cd:Value}{outer:List Env}{s1:Shared}{E:XK}{vs:List V}
  (S:cT N ps scope) (hd:A.handled=none) (e0:vR P w K mg base A outer s H) (hl:vs.length=ps.length) (r:Vals vs us)
  (x:InCallC s s.heap.objs.size (bindL (envOfC qual scope s.heap.objs.size f cd).kindOf (ps.zip us) λ_=>none) (cellsFrom (s.heap.objs.size+1) scope.names []) (bindC (envOfC qual scope s.heap.objs.size f cd).kindOf (ps.zip us) λ_=>none) s1) :
  Inv (mX CX P w K mg base N qual scope f cd A outer s H E) [] (start N vs) H s1:=by
 have kf:ps.length≤N.length:=by have:=ai List.length S.pre;rw[cB]at this;lia
 obtain⟨h1,tk,rfl,hk⟩:=x.done;have uD:∀b:Addr,b ∉ (mX CX P w K mg base N qual scope f cd A outer s H E).ex:=λb z=>absurd (show b∈([]:List Addr) from z) (by simp)
 refine⟨⟨e0.mod,S.kind,rfl,rfl,cu _,λy z c h1 h2=>?_,λy hy=>?_,λy c _ h=>?_,λ_=>hd,Around.frames_deeper e0.frames,.inr ⟨rfl,rfl⟩,λb z=>absurd z (uD b),e0.bs,e0.qS,λb _ _=>uD b,λb z=>absurd z (uD b),e0.nT,e0.ur⟩,
  rfl,e0.bare,Un.kept hk,⟨_,x.toInCall.ns,λi y v h1 h2 h3=>?_⟩,λy c h=>⟨_,x.cell y c h⟩,e0.bK.fresh (cu _),λy c h=>?_,λp hp=>absurd (show p∈([]:List (Addr×Obj)) from hp) (by simp),e0.bK.kept hk,?_⟩
 ·exact name_of_addr x.apart (pY h1) (pY h2)
 ·have hy:scope.names.lookup y=some .cell∨scope.names.lookup y=some .free:=hy;rcases hy with hy|hy
  ·exact Gm hy
  ·exact absurd rfl (S.XO _ (pY hy))
 ·exact Nat.le_of_lt (x.above y c (pY h))
 ·have hi:i<vs.length:=by
   unfold start at h2;by_cases hi:i<vs.length
   ·exact hi
   ·rw[iI (by simpa using hi)]at h2;rw[FE]at h2;split at h2<;>cases h2
  have ha:vs[i]?=some v:=by
   unfold start at h2;rw[ia (by simpa using hi),dU]at h2;cases e:vs[i]? with
   |none=>rw[e]at h2;cases h2
   |some a=>rw[e]at h2;cases h2;rfl
  obtain⟨u,hu,rv⟩:=r.get ha;have hp:ps[i]?=some y:=by
   rw[← S.pre,List.getElem?_take_of_lt (by lia)];exact h1
  have M7:ps.Nodup:=by rw[← S.pre];exact S.nd.sublist (List.take_sublist _ _)
  refine⟨u,rv,?_⟩;rcases S.par y (cZ hp)with k|k
  ·exact .inl ⟨k,M5 M7 hp hu k⟩
  ·obtain⟨c,e⟩:=Gm (n:=s.heap.objs.size+1) k;refine .inr ⟨.inl k,c,e,?_⟩;have q:=x.cell y c e;rw[M6 M7 hp hu (by show scope.names.lookup y≠_;rw[k];decide)]at q;exact q
 ·exact e0.bK.fresh (Nat.le_of_lt (x.above y c (pY h)))
 ·unfold start;show _=N.length;rw[bY,aZ,dY];lia
theorem M8{P:Program}{w:World}{K:Frag}{mg:Str→Option Value}{base:Heap}{k:Nat}{f:Addr}{name qual:Str}{params:Arguments}{scope:Scope}{dV kV doc pm bE ct oc:Value}{an od:Option Addr}
  {nU:Array (Option Value)} {N ps:List Str} {sp:Sp} (lk:K.lookup f=some ⟨oc,od,.func (fnOf name qual params body scope dV kV doc pm an bE ct),nU⟩) (iQ:PySem.W.codeIn K bE qual=true) (S:cT N ps scope)
  (len:∀vs H Q E,sp vs H Q E→vs.length=ps.length)
  (o6:∀(A:Around)(outer:List Env)(s:Shared)(H:Hp)(vs:List V)(Q:VK)(E:XK),dt k (A.deeper (envOfC qual scope s.heap.objs.size f bE))→sp vs H Q E→
   ∃t,jP (mX CX P w K mg base N qual scope f bE A outer s H E) body t∧t { nx:=λ_ H'=>Q .ck H',rt:=Q } (start N vs) H) :
  br P w K mg base CX (k+1) f (fnOf name qual params body scope dV kV doc pm an bE ct) ps sp:=by
 refine⟨len,λA outer s H args us vs Q E hr e0 hb r jR=>?_⟩;have hl:=len _ _ _ _ jR;have KX:K.In s.heap:=e0.mod.uq.keeps λb o e=>(e0.bs b o e).1;have uE:s.heap.NoLimit:=e0.mod.nolimit.keeps λb o e=>(e0.bs b o e).1;have yr:∀y∈ps.zip us,scope.names.lookup y.1=some .local∨(scope.names.lookup y.1=some .cell∧((cellsFrom (s.heap.objs.size+1) scope.names []).lookup y.1).isSome=true):=λ⟨n,v⟩ hy=>by
  rcases S.par n (qI hy).1 with q|q
  ·exact .inl q
  ·exact .inr ⟨q,FD _ _ _ (.inl q)⟩
 refine codeAny_call_function hr.depth (KX _ _ lk) rfl S.co S.gen rfl (PySem.W.codeRec_of KX iQ) (hb _ _ _ _ ?_);refine au S.kind yr λenv he s1 x=>?_;subst he;refine⟨uE.keeps x.toInCall.keep,codeAny_func ?_⟩;obtain⟨t,ht,hq⟩:=o6 A outer s H vs Q E (hr.deeper _) jR;have I:Inv (mX CX P w K mg base N qual scope f bE A outer s H E) [] (start N vs) H s1:=Gn S hr.hd e0 hl r x;refine ag (ht [] s1 (start N vs) H _ I hq) (λfl s' hs=>?_) λe s' hs=>hs;have fin:∀{σ':St}{H':Hp}{v:V}{u:Value},Inv (mX CX P w K mg base N qual scope f bE A outer s H E) [] σ' H' s'→RelV v u→Q v H'→CE outer P w H s Q u s':=
  λ{σ' H' v u} J rv q=>⟨v,H',J.os,J.bare,J.base,J.bK,rv,q⟩
 cases fl with
 |ret u=>
  obtain⟨v,σ',H',J,rv,q⟩:=hs;exact fin J rv q
 |next=>
  obtain⟨σ',H',J,q⟩:=hs;exact fin (v:=V.ck) (u:=Value.none) J rfl q
 |brk=>
  obtain⟨_,_,_,q⟩:=hs;exact False.elim q
 |cont=>
  obtain⟨_,_,_,q⟩:=hs;exact False.elim q
section
variable{X:Cx}{x:Str}{p pos:Pos}{e:Expr}{es:List Expr}{t:TA}{id T:String}{r:List V→Hp→VK→Prop}
def mY(r:List V→Hp→VK→Prop)(t:TA):TE:=λσ H Q=>t σ H λvs H1=>r vs H1 Q
theorem eG(hc:iB X (.builtin id) r)(hg:Gl X x)(hm:X.mg x=none)(hv:bootBuiltins x=some (.builtin id))(ha:PA X (e::es) t)(hn:x ≠ "__name__":=by decide)(uC:(x==("__debug__":Str))=false:=by decide)
  (he:starEach (e::es) X.env=(false,eval e X.env)::starEach es X.env:=by rfl) (kf:(backTo pos (starEach es X.env)).any (·.1)=false:=by rfl):PE X (.Call (.Name x p) (e::es) [] pos) (mY r t):=by
 intro aI s σ H Q I h;refine ar (uw I hg hm hv ?_ hn uC);exact PyProof.Rows.callWith_builtin1 (bc (ha pos aI s σ H _ I h) λus s1 ⟨vs,H1,I1,r1,q1⟩=>hc aI s1 σ H1 vs us Q I1 r1 q1) he kf
theorem gz(hc:iB X (.type T) r)(hg:Gl X x)(hm:X.mg x=none)(hv:bootBuiltins x=some (.type T))(ha:PA X (e::es) t)(hn:x ≠ "__name__":=by decide)(uC:(x==("__debug__":Str))=false:=by decide)
  (he:starEach (e::es) X.env=(false,eval e X.env)::starEach es X.env:=by rfl) (kf:(backTo pos (starEach es X.env)).any (·.1)=false:=by rfl):PE X (.Call (.Name x p) (e::es) [] pos) (mY r t):=by
 intro aI s σ H Q I h;refine ar (uw I hg hm hv ?_ hn uC);exact Fz (bc (ha pos aI s σ H _ I h) λus s1 ⟨vs,H1,I1,r1,q1⟩=>hc aI s1 σ H1 vs us Q I1 r1 q1) he kf
end
end L2
namespace HT
open PySem PyProof.Rows
section
open PySem.SeqAt
open PySem.AutoSeq1 (wpAny_loadPart')
open PySem.MeetsSeq PySem.MeetsSeq2 PySem.MeetsSeq3
end
section
variable{prog:Program}{w:World}{A:Around}{E:QV}{s:Shared}
theorem XQ{t b:Addr}{vs ws:List Value}{Q:QV}(ht:IsTup s.heap t vs.toArray)(hb:IsTup s.heap b ws.toArray)(hv:vs≠[])
  (h1:ws=[]→Q (.ref t) s) (h2:ws≠[]→Q (.ref s.heap.objs.size) { s with heap:=s.heap.push { cls:=.type "tuple",data:=.seq (vs++ws).toArray } })
  (hsz:vs.length+ws.length≤sizeLine):wpAny (model prog w) A (binaryOp .Add (.ref t) (.ref b)) Q E s:=by
 obtain⟨⟨cls,dd,data,sl⟩,ho,hc,n,hd⟩:=id ht;obtain⟨⟨afb,Bk,data2,Bl⟩,sH,sJ,n2,M9⟩:=id hb;simp only at hc hd sJ M9;subst hc hd sJ M9;have e:vs.toArray++ws.toArray=(vs++ws).toArray:=by simp
 by_cases hw:ws=[]
 ·exact concat_meets ⟨_,ho,rfl⟩ ⟨_,sH,rfl⟩ noFill_tuple_add seq_tuple_add PySem.F.slot_tuple_add PySem.F.entry_tuple_add (PySem.F.args_tuple_add_2 _ _)
   (tuple_addW1 t b vs.toArray ws.toArray n n2 dd Bk sl Bl (by simpa using hv) (by simp[hw])) ⟨ho,sH,h1 hw⟩
 ·refine concat_meets ⟨_,ho,rfl⟩ ⟨_,sH,rfl⟩ noFill_tuple_add seq_tuple_add PySem.F.slot_tuple_add PySem.F.entry_tuple_add (PySem.F.args_tuple_add_2 _ _)
   (tuple_addW2 t b vs.toArray ws.toArray n n2 dd Bk sl Bl (by simpa using hv) (by simpa using hw) (by rw[dR,dR];exact hsz)) ⟨ho,sH,?_⟩
  rw[e];exact h2 hw
noncomputable def cK(n d:Nat):Option Int→Nat
 |none=>d
 |some v=>if v<0 then(v+(n:Int)).toNat else min v.toNat n
theorem uF(n d:Nat):cK n d none=d:=rfl
theorem qi(n d k:Nat):cK n d (some (k:Int))=min k n:=by
 show(if(k:Int)<0 then((k:Int)+(n:Int)).toNat else min (k:Int).toNat n)=min k n
 rw[af (by lia),Int.toNat_natCast]
theorem XR(n d:Nat)(hd:d≤n)(o:Option Int):cK n d o≤n:=by
 cases o with
 |none=>exact hd
 |some v=>
  show(if v<0 then(v+(n:Int)).toNat else min v.toNat n)≤n
  by_cases hv:v<0
  ·rw[ae hv];lia
  ·rw[af hv];exact Nat.min_le_right _ _
theorem Na(v:Int)(n d:Nat):(if v<0 then max (v+(n:Int)) 0 else min v (n:Int))=((cK n d (some v):Nat):Int):=by
 show(if v<0 then max (v+(n:Int)) 0 else min v (n:Int))=(((if v<0 then(v+(n:Int)).toNat else min v.toNat n):Nat):Int)
 by_cases hv:v<0
 ·simp only[ae hv];lia
 ·simp only[af hv];lia
theorem XT(lo hi:Option Int)(n:Nat):Builtin.Slice.sliceAdjust lo hi 1 (n:Int)=(((cK n 0 lo:Nat):Int),((cK n n hi:Nat):Int)):=by
 have h1:¬((1:Int)<0):=by lia
 unfold Builtin.Slice.sliceAdjust;simp only[h1,if_false];refine Prod.ext ?_ ?_
 ·cases lo with
  |none=>rfl
  |some v=>exact Na v n 0
 ·cases hi with
  |none=>rfl
  |some v=>exact Na v n n
theorem XU(i j:Nat):Builtin.Slice.slicePlaces (i:Int) (j:Int) 1=j-i:=by
 unfold Builtin.Slice.slicePlaces;have h1:(1:Int)>0:=by lia
 simp only[h1,if_true,Int.ediv_one];split<;>lia
theorem Nb{v:Value}{o:Option Int}{Q:Option Int→Shared→Prop}(p:IsPart v o)(h:Q o s):wpAny (model prog w) A (Builtin.Slice.slicePartIndex v) Q E s:=by
 cases p with
 |none=>exact slicePart_none h
 |int i t=>exact slicePart_int h
theorem Nc{sl:Addr}{vl vu:Value}{lo hi:Option Int}{n:Nat}{Q:Int×Int×Nat→Shared→Prop}(hs:s.heap.IsSliceOf sl vl vu .none)(pl:IsPart vl lo)(pu:IsPart vu hi)
  (h:Q (((cK n 0 lo:Nat):Int),1,cK n n hi-cK n 0 lo) s):wpAny (model prog w) A (Builtin.Slice.sliceApplied (.ref sl) (pure (n:Int))) Q E s:=by
 obtain⟨os,uG,Bm,yu⟩:=id hs;unfold Builtin.Slice.sliceApplied Builtin.Slice.sliceFields;refine aj (aj (wpAny_field uG yu (x:=vl) rfl (aj (wpAny_field uG yu (x:=vu) rfl (aj (wpAny_field uG yu (x:=.none) rfl (aq ?_)))))));refine aj (slicePart_none ?_);show wpAny _ _ (if((1:Int)==0)=true then _ else _) _ _ s
 rw[af (by decide)];refine aj (Nb pl (aj (Nb pu (aj (aq ?_)))));show wpAny _ _ (match Builtin.Slice.sliceAdjust lo hi 1 (n:Int)with|(lo,hi)=>pure (lo,(1:Int),Builtin.Slice.slicePlaces lo hi 1)) _ _ s
 rw[XT lo hi n];show wpAny _ _ (pure (((cK n 0 lo:Nat):Int),(1:Int),Builtin.Slice.slicePlaces ((cK n 0 lo:Nat):Int) ((cK n n hi:Nat):Int) 1)) _ _ s;rw[XU];exact aq h
theorem XW(xs:Array Value)(i k:Nat):((List.range k).filterMap λ(m:Nat)=>xs[((i:Int)+(m:Int)*1).toNat]?).toArray=((xs.toList.drop i).take k).toArray:=by
 have e:(λ(m:Nat)=>xs[((i:Int)+(m:Int)*1).toNat]?)=λm=>xs[i+m]?:=by
  funext m
  have:((i:Int)+(m:Int)*1).toNat=i+m:=by lia
  rw[this]
 rw[e]
 have:=pick_run xs i k
 rw[List.filterMap_map]at this;have e2:((λx=>xs[x]?) ∘ λx=>i+x)=λm=>xs[i+m]?:=rfl;rw[e2]at this;rw[this]
theorem XX{t sl:Addr}{items:Array Value}{vl vu:Value}{lo hi:Option Int}{Q:QV}(ht:IsTup s.heap t items)(hs:s.heap.IsSliceOf sl vl vu .none)(pl:IsPart vl lo)(pu:IsPart vu hi)
  (hw:¬(cK items.size 0 lo=0∧cK items.size items.size hi=items.size))
  (h:Q (.ref s.heap.objs.size) { s with heap:=s.heap.push { cls:=.type "tuple",data:=.seq ((items.toList.drop (cK items.size 0 lo)).take (cK items.size items.size hi-cK items.size 0 lo)).toArray } })
  (hsz:items.size≤sizeLine):wpAny (model prog w) A (getItem (.ref t) (.ref sl)) Q E s:=by
 have Bn:sizeOk (.seq ((items.toList.drop (cK items.size 0 lo)).take (cK items.size items.size hi-cK items.size 0 lo)).toArray):=by
  show((items.toList.drop (cK items.size 0 lo)).take (cK items.size items.size hi-cK items.size 0 lo)).toArray.size≤sizeLine;rw[dR,cB,da,Array.length_toList];lia
 have hj:cK items.size items.size hi≤items.size:=XR _ _ (cu _) hi;obtain⟨os,uG,Bm,yu⟩:=id hs;have Gp:s.TypeIs (.ref sl) "slice":=⟨os,uG,Bm⟩;unfold getItem
 try with_reducible refine ak ?_
 first|refine aj (aq ?_)|skip
 refine aj (wpAny_sequenceKey ht.typeIs (by decide) ?_);refine aj (ax (name:=Str.ofString "__getitem__") ht.typeIs AI (ay AI ht.typeIs entry_tuple_getitem ?_ (args_tuple_getitem _ _)));show wpAny _ _ (Builtin.Tuple.tupleItemsOf (.ref t) >>= _) _ _ s;refine aj (tupleItemsOf_ ht ?_);refine aj (wpAny_typeOf Gp ?_);rw[ae (by decide)];refine aj (Nc hs pl pu ?_);have nV:¬((((cK items.size 0 lo:Nat):Int)==0&&(1:Int)==1&&(cK items.size items.size hi-cK items.size 0 lo)==items.size)=true):=by
  intro q;rw[eX,eX]at q;have q1:((cK items.size 0 lo:Nat):Int)=0:=eq_of_beq q.1.1;have q2:cK items.size items.size hi-cK items.size 0 lo=items.size:=eq_of_beq q.2;exact hw ⟨by lia,by lia⟩
 show wpAny _ _ (if(((cK items.size 0 lo:Nat):Int)==0&&(1:Int)==1&&(cK items.size items.size hi-cK items.size 0 lo)==items.size)=true then _ else _) _ _ s
 rw[af nV,XW];first
  |exact aj (m:=Builtin.Tuple.tupleExact _) (az (aq ⟨_,rfl,aq h⟩) Bn)
  |exact aj (m:=Builtin.Tuple.tupleExact _) (az (aj (aq (aq ⟨_,rfl,aq h⟩))) Bn)
  |exact aj (aj (m:=Builtin.Tuple.tupleExact _) (az (aq (aq ⟨_,rfl,aq h⟩)) Bn))
  |exact aj (aj (m:=Builtin.Tuple.tupleExact _) (az (aq ⟨_,rfl,aq h⟩) Bn))
end
end HT
namespace L2
open PySem PySem.Spec PyProof.Rows
variable{its:List Value}{n:Nat}{s:Shared}{x:V}{α:Type}
abbrev TO:=St→Hp→(Option Int→Hp→Prop)→Prop
def PO(X:Cx)(e:Option Expr)(t:TO):Prop:=
 ∀(aI:List (Addr×Obj))(s:Shared)(σ:St)(H:Hp)(Q:Option Int→Hp→Prop),Inv X aI σ H s→t σ H Q→
  wpAny (model X.prog X.w) X.A (evalPart e X.env) (λu s'=>∃o H',Inv X aI σ H' s'∧IsPart u o∧Q o H') X.xe s
def iK:TO:=λ_ H Q=>Q none H
def gS(t:TE):TO:=λσ H Q=>t σ H λx H1=>∃i,x=.int i∧Q (some i) H1
section
variable{X:Cx}{e:Expr}{te:TE}{lo hi:Option Expr}{tl th:TO}{pos p2:Pos}
theorem dQ:PO X none iK:=by
 intro aI s σ H Q I h;rw[evalPart_none];exact aq ⟨none,H,I,.none,h⟩
theorem dj(h:PE X e te):PO X (some e) (gS te):=by
 intro aI s σ H Q I hw;rw[evalPart_some];refine bc (h aI s σ H _ I hw) λu s1 ⟨x,H1,I1,r1,q1⟩=>?_;obtain⟨i,rfl,q⟩:=q1;obtain⟨t,rfl⟩:=r1;exact⟨some i,H1,I1,.int i t,q⟩
def sM(X:Cx)(r:V→Option Int→Option Int→Hp→VK→Prop):Prop:=
 ∀(aI:List (Addr×Obj))(s:Shared)(σ:St)(H:Hp)(x:V)(v vl vu:Value)(lo hi:Option Int)(sl:Addr)(Q:VK),Inv X aI σ H s→RelV x v→s.heap.IsSliceOf sl vl vu .none→IsPart vl lo→IsPart vu hi→r x lo hi H Q→
  ∃T id,typeLookup (.type T) "__getitem__"=pure (some (.builtin id))∧s.TypeIs v T∧wpAny (model X.prog X.w) X.A (getItem v (.ref sl)) (EP X aI σ Q) X.xe s
def ib(r:V→Option Int→Option Int→Hp→VK→Prop)(te:TE)(tl th:TO):TE:=λσ H Q=>te σ H λx H1=>tl σ H1 λl H2=>th σ H2 λu H3=>r x l u H3 Q
theorem dD{r:V→Option Int→Option Int→Hp→VK→Prop}(hr:sM X r)(he:PE X e te)(hl:PO X lo tl)(hu:PO X hi th):PE X (.Subscript e (.Slice lo hi none p2) pos) (ib r te tl th):=by
 intro aI s σ H Q I h;refine Subscript_ (bc (he aI s σ H _ I h) λv s1 ⟨x,H1,I1,r1,q1⟩=>?_);refine wpAny_Slice (bc (hl aI s1 σ H1 _ I1 q1) λvl s2 ⟨l,H2,I2,pl,q2⟩=>bc (hu aI s2 σ H2 _ I2 q2) λvu s3 ⟨u,H3,I3,pu,q3⟩=>?_);rw[evalPart_none];refine aq ?_;have I4:Inv X aI σ H3 { s3 with heap:=s3.heap.push { cls:=.type "slice",data:=.fields #[vl,vu,.none] } }:=I3.kept (t':=s3.toks) λb ob q=>dS _ q;obtain⟨T,id,hT,ht,hg⟩:=hr aI { s3 with heap:=s3.heap.push { cls:=.type "slice",data:=.fields #[vl,vu,.none] } } σ H3 x v vl vu l u s3.heap.objs.size Q I4 r1 (Heap.IsSliceOf.new ..) pl pu q3;show wpAny (model X.prog X.w) X.A (subscriptTail e (.Slice lo hi none p2) v (.ref s3.heap.objs.size)) (EP X aI σ Q) X.xe { s3 with heap:=s3.heap.push { cls:=.type "slice",data:=.fields #[vl,vu,.none] } };exact tail_any (ops:=[.ref s3.heap.objs.size,v]) ht hT hg (by with_unfolding_all rfl)
noncomputable def fV(xs:List V)(lo hi:Option Int):List V:=(xs.drop (HT.cK xs.length 0 lo)).take (HT.cK xs.length xs.length hi-HT.cK xs.length 0 lo)
theorem Bo(xs:List V)(lo hi:Option Int):(fV xs lo hi).length≤xs.length:=by
 unfold fV;rw[cB,da];lia
def Nd(K:Frag):V→Option Int→Option Int→Hp→VK→Prop:=λx lo hi H Q=>∃a xs,x=.ref a∧bf K H a xs∧
 ¬(HT.cK xs.length 0 lo=0∧HT.cK xs.length xs.length hi=xs.length)∧∀p,H p=none→Q (.ref p) (upd H p (.tup (fV xs lo hi)))
theorem Nf:sM X (Nd X.K):=by
 intro aI s σ H x v vl vu lo hi sl Q I rx hs pl pu h;obtain⟨a,xs,rfl,hx,hw,q⟩:=h;cases rx;obtain⟨its,r,ht,hz⟩:=I.tuple hx;have cF:its.toArray.size=xs.length:=by rw[dR];exact r.length.symm
 refine⟨"tuple",_,AI.lookup,ht.typeIs,?_⟩;refine HT.XX ht hs pl pu (by rw[cF];exact hw) ?_ (by rw[cF];exact hz);rw[cF];refine⟨.ref s.heap.objs.size,_,I.laid (t':=s.toks) (o:=.tup (fV xs lo hi)) (λb ob q=>dS _ q) (cu _) ?_,rfl,q _ (I.bK.fresh (cu _))⟩;exact⟨hU (Bo xs lo hi) hz,_,(r.drop (HT.cK xs.length 0 lo)).take (HT.cK xs.length xs.length hi-HT.cK xs.length 0 lo),IsTup.new _ _⟩
def XY(K:Frag):R2:=λx y H Q=>∃a b xs ys,x=.ref a∧y=.ref b∧bf K H a xs∧bf K H b ys∧xs≠[]∧xs.length+ys.length≤sizeLine∧
 (ys=[]→Q (.ref a) H)∧(ys≠[]→∀p,H p=none→Q (.ref p) (upd H p (.tup (xs++ys))))
theorem Vals.Bp{xs:List V}{us:List Value}(r:Vals xs us):us=[]↔xs=[]:=by
 cases r with
 |nil=>simp
 |cons _ _=>simp
theorem XZ:eK X (binaryOp .Add) (XY X.K):=by
 intro aI s σ H x y v u Q I rx ry h;obtain⟨a,b,xs,ys,rfl,rfl,ha,hb,hx,hz,q1,q2⟩:=h;cases rx;cases ry;obtain⟨its,r1,p1,_⟩:=I.tuple ha;obtain⟨vS,r2,p2,_⟩:=I.tuple hb;refine HT.XQ p1 p2 (λz=>hx (r1.Bp.mp z)) (λz=>⟨.ref a,H,I,rfl,q1 (r2.Bp.mp z)⟩) (λz=>?_) (by rw[← r1.length,← r2.length];exact hz);refine⟨.ref s.heap.objs.size,_,I.laid (t':=s.toks) (o:=.tup (xs++ys)) (λb ob q=>dS _ q) (cu _) ?_,rfl,q2 (λw=>z (r2.Bp.mpr w)) _ (I.bK.fresh (cu _))⟩;exact⟨by rw[bY];exact hz,_,r1.append r2,IsTup.new _ _⟩
end
noncomputable def mZ(n:Nat)(i:Int):Option Nat:=if 0≤i then(if i<n then some i.toNat else none)else if -(n:Int)≤i then some (i+n).toNat else none
noncomputable def nW(xs:List α)(i:Int):Option α:=(mZ xs.length i).bind λj=>xs[j]?
theorem Ng{i:Int}{j:Nat}(h:mZ n i=some j):seqIndex? i n=some j∧j<n∧-(n:Int)≤i∧i<n:=by
 unfold mZ at h;by_cases h0:0≤i
 ·rw[ae h0]at h;by_cases h1:i<n
  ·rw[ae h1]at h;have e:i.toNat=j:=c8 h;exact⟨by rw[seqIndex_of h0 h1,e],by lia,by lia,h1⟩
  ·rw[af h1]at h;cases h
 ·rw[af h0]at h;by_cases h1:-(n:Int)≤i
  ·rw[ae h1]at h;have e:(i+n).toNat=j:=c8 h;exact⟨by rw[seqIndex_neg (by lia) h1,e],by lia,h1,by lia⟩
  ·rw[af h1]at h;cases h
theorem Nh{xs:List α}{i:Int}{v:α}(h:nW xs i=some v):∃j,seqIndex? i xs.length=some j∧xs[j]?=some v∧j<xs.length∧-(xs.length:Int)≤i∧i<xs.length:=by
 unfold nW at h;cases e:mZ xs.length i with
 |none=>rw[e]at h;cases h
 |some j=>
  rw[e]at h;obtain⟨h1,h2,h3,h4⟩:=Ng e;exact⟨j,h1,h,h2,h3,h4⟩
theorem bw{xs:List α}{j:Nat}{v:α}(h:xs[j]?=some v):nW xs (j:Int)=some v:=by
 have hj:j<xs.length:=(dB.mp h).1;have e:mZ xs.length (j:Int)=some j:=by
  unfold mZ;rw[ae (by lia),ae (by lia)];simp
 unfold nW;rw[e];exact h
theorem X0(xs:List α)(v:α):nW (xs++[v]) (-1)=some v:=by
 have hl:(xs++[v]).length=xs.length+1:=by simp
 have e:mZ (xs++[v]).length (-1)=some xs.length:=by
  unfold mZ;rw[hl,af (by decide),ae (by lia)]
  congr 1
  lia
 unfold nW;rw[e];show(xs++[v])[xs.length]?=some v;simp
def X1(b:Expr):Prop:=∀o i,subscripted b false o i=operate [o,i] (getItem o i)
def vT(X:Cx)(r:R2):Prop:=
 ∀(value slice:Expr)(aI:List (Addr×Obj))(s:Shared)(σ:St)(H:Hp)(x y:V)(v u:Value)(Q:VK),Inv X aI σ H s→RelV x v→RelV y u→r x y H Q→
  subscripted slice false v u=operate [v,u] (getItem v u)→wpAny (model X.prog X.w) X.A (subscriptTail value slice v u) (EP X aI σ Q) X.xe s
def Ni(X:Cx)(id:String)(r:V→List V→Hp→VK→Prop):Prop:=
 ∀(aI:List (Addr×Obj))(s:Shared)(σ:St)(H:Hp)(x:V)(xs:List V)(v:Value)(us:List Value)(Q:VK),Inv X aI σ H s→RelV x v→Vals xs us→r x xs H Q→
  wpAny (model X.prog X.w) X.A (call (.builtin id) (v::us)) (EP X aI σ Q) X.xe s
section
variable{X:Cx}{a b:Expr}{ta tb:TE}{pos:Pos}
theorem bt{r:R2}(hr:vT X r)(ha:PE X a ta)(hb:PE X b tb)(hs:X1 b):PE X (.Subscript a b pos) (bz r ta tb):=by
 intro aI s σ H Q I h;exact Subscript_ (Ga ha hb I h λv u s2 x y H2 I2 rx ry q=>hr a b aI s2 σ H2 x y v u Q I2 rx ry q (hs _ _))
def nX(K:Frag):R2:=λx y H Q=>∃p xs i v,x=.ref p∧y=.int i∧dq K H p xs∧nW xs i=some v∧Q v H
def uH(K:Frag):R2:=λx y H Q=>∃p xs i v,x=.ref p∧y=.int i∧bf K H p xs∧nW xs i=some v∧Q v H
theorem X2:vT X (nX X.K):=by
 intro value slice aI s σ H x y v u Q I rx ry h hs;obtain⟨p,xs,i,z,rfl,rfl,hq,he,q⟩:=h;cases rx;obtain⟨t,rfl⟩:=ry;obtain⟨its,r,pl,hz⟩:=I.list hq;obtain⟨j,h1,h2,h3,h4,h5⟩:=Nh he;obtain⟨w,ew,rd⟩:=r.get h2;have hl:=r.length;have hn:=yq;have fin:EP X aI σ Q w s:=⟨z,H,I,rd,q⟩;by_cases h0:0≤i
 ·have hj:i.toNat=j:=by
   rw[seqIndex_of h0 h5]at h1;exact c8 h1
  exact item_listR pl.isList h0 (by lia) (by rw[hj];simpa using ew) fin hs
 ·have hj:(i+(its.toArray.size:Int)).toNat=j:=by
   rw[seqIndex_neg (by lia) h4]at h1;rw[dR,← hl];exact c8 h1
  exact subscriptTail_builtinR (x:=w) pl.isList.typeIs slot_list_getitem.lookup
   (wpAny_getItem_list_neg (Q:=λr s'=>r=w∧EP X aI σ Q r s') pl.isList (by lia) (by rw[dR]<;>lia) (by lia) (by rw[hj];simpa using ew) ⟨rfl,fin⟩) hs
theorem X3:vT X (uH X.K):=by
 intro value slice aI s σ H x y v u Q I rx ry h hs;obtain⟨p,xs,i,z,rfl,rfl,hq,he,q⟩:=h;cases rx;obtain⟨t,rfl⟩:=ry;obtain⟨its,r,pl,hz⟩:=I.tuple hq;obtain⟨j,h1,h2,h3,h4,h5⟩:=Nh he;obtain⟨w,ew,rd⟩:=r.get h2;have hl:=r.length;have hn:=yq;have fin:EP X aI σ Q w s:=⟨z,H,I,rd,q⟩;exact subscriptTail_builtinR (x:=w) pl.typeIs slot_tuple_getitem.lookup
  (getItem_tuple (j:=j) (Q:=λr s'=>r=w∧EP X aI σ Q r s') pl (by lia) (by lia) (by rw[dR,← hl];exact h1) (by simpa using ew) ⟨rfl,fin⟩) hs
theorem X4(its:List Value)(n j:Nat)(u:Value):Obj.mapSeq (·.setIfInBounds j u) { cls:=.type "list",data:=.seq its.toArray n }={ cls:=.type "list",data:=.seq (its.set j u).toArray n }:=by
 simp[Obj.mapSeq]
theorem Inv.lst{aI:List (Addr×Obj)}{σ:St}{H:Hp}{s:Shared}{p:Addr}{xs:List V}(I:Inv X aI σ H s)(h:H p=some (.lst xs)) :
  ∃(its:List Value)(n:Nat),Vals xs its∧s.heap.get? p=some { cls:=.type "list",data:=.seq its.toArray n }∧xs.length≤sizeLine:=by
 obtain⟨z,its,n,r,e⟩:=I.bK p _ h;exact⟨its,n,r,e,z⟩
theorem Inv.X5{aI:List (Addr×Obj)}{σ:St}{H:Hp}{p:Addr}{xs ys:List V}{its':List Value}{n':Nat}{f:Obj→Obj}(I:Inv X aI σ H s)(h:H p=some (.lst xs))
  (ho:s.heap.get? p=some { cls:=.type "list",data:=.seq its.toArray n }) (hf:f { cls:=.type "list",data:=.seq its.toArray n }={ cls:=.type "list",data:=.seq its'.toArray n' }) (r:Vals ys its') (hz:ys.length≤sizeLine) (t:Nat) :
  Inv X aI σ (upd H p (.lst ys)) { s with heap:=s.heap.update p f,toks:=t }:=by
 have e:(s.heap.update p f).get? p=some { cls:=.type "list",data:=.seq its'.toArray n' }:=by
  rw[vC f ho (by rw[hf]<;>rfl),hf]
 refine I.write (x:=p) (e:=p) (by rw[h];trivial) (.inl rfl) (λb u hb q=>(Heap.get?_update_other _ _ (Ne.symm hb)).trans q) ⟨_,e⟩ ?_;exact⟨hz,its',n',r,e⟩
def Nj:V→V→V→Hp→(Hp→Prop)→Prop:=λo i v H Q=>∃p xs k j,o=.ref p∧i=.int k∧H p=some (.lst xs)∧mZ xs.length k=some j∧Q (upd H p (.lst (xs.set j v)))
theorem Bq:ML X Nj:=by
 intro aI s σ H o i v ov iv u Q I ro ri rv h;obtain⟨p,xs,k,j,rfl,rfl,hp,hj,q⟩:=h;cases ro;obtain⟨t,rfl⟩:=ri;obtain⟨its,n,r,ho,hz⟩:=I.lst hp;obtain⟨h1,h2,h3,h4⟩:=Ng hj;have hl:=r.length;have hn:=yq;have I':Inv X aI σ (upd H p (.lst (xs.set j v))) { s with heap:=s.heap.update p (Obj.mapSeq (·.setIfInBounds j u)) }:=
  I.X5 hp ho (X4 its n j u) (r.set rv j) (by rw[List.length_set];exact hz) s.toks
 by_cases h0:0≤k
 ·have hk:k.toNat=j:=by
   rw[seqIndex_of h0 h4]at h1;exact c8 h1
  exact PySem.W.ki_setAt ho h0 (by lia) (by rw[dR,← hl];exact h4) (by rw[hk];exact⟨_,I',q⟩)
 ·have hk:(k+(its.toArray.size:Int)).toNat=j:=by
   rw[seqIndex_neg (by lia) h3]at h1;rw[dR,← hl];exact c8 h1
  exact PySem.W.ki_setBack ho (by lia) (by rw[dR,← hl];exact h3) (by lia) (by rw[hk];exact⟨_,I',q⟩)
theorem X6(lo hi:Option Int)(n:Nat):(sliceBounds lo hi none n).1=((HT.cK n 0 lo:Nat):Int)∧(sliceBounds lo hi none n).2.1=((HT.cK n n hi:Nat):Int)∧(sliceBounds lo hi none n).2.2=1:=by
 refine⟨?_,?_,rfl⟩
 ·cases lo with
  |none=>simp[sliceBounds,HT.cK]
  |some i=>
   simp only[sliceBounds,HT.cK,Option.getD_none,show(1:Int)>0 by decide,if_true];by_cases h:i<0
   ·simp only[h,if_true]<;>lia
   ·simp only[h,if_false]<;>lia
 ·cases hi with
  |none=>simp[sliceBounds,HT.cK]
  |some i=>
   simp only[sliceBounds,HT.cK,Option.getD_none,show(1:Int)>0 by decide,if_true];by_cases h:i<0
   ·simp only[h,if_true]<;>lia
   ·simp only[h,if_false]<;>lia
theorem X7(its:List Value)(lo hi:Option Int):slicePick its.toArray lo hi none=((its.drop (HT.cK its.length 0 lo)).take (HT.cK its.length its.length hi-HT.cK its.length 0 lo)).toArray:=by
 obtain⟨h1,h2,h3⟩:=X6 lo hi its.toArray.size;unfold slicePick;rw[h1,h2,h3];simp only[sliceRange_one,pick_run,dR]<;>rfl
def sN(K:Frag):V→Option Int→Option Int→Hp→VK→Prop:=λx lo hi H Q=>∃a xs,x=.ref a∧dq K H a xs∧∀p,H p=none→Q (.ref p) (upd H p (.lst (fV xs lo hi)))
theorem X8:sM X (sN X.K):=by
 intro aI s σ H x v vl vu lo hi sl Q I rx hs pl pu h;obtain⟨a,xs,rfl,hx,q⟩:=h;cases rx;obtain⟨its,r,ht,hz⟩:=I.list hx;have cF:=r.length;refine⟨"list",_,slot_list_getitem.lookup,ht.isList.typeIs,?_⟩;refine wpAny_getItem_list_slice ht.isList hs pl pu .none (by simp) ?_ (by rw[dR]<;>lia)
 rw[X7,← cF];refine⟨.ref s.heap.objs.size,_,I.laid (t':=s.toks) (o:=.lst (fV xs lo hi)) (λb ob q=>dS _ q) (cu _) ?_,rfl,q _ (I.bK.fresh (cu _))⟩;exact⟨hU (Bo xs lo hi) hz,_,0,(r.drop (HT.cK xs.length 0 lo)).take (HT.cK xs.length xs.length hi-HT.cK xs.length 0 lo),iA _ rfl⟩
noncomputable def qj:V→Bool
 | .ck=>true
 | .bl _=>true
 | .int _=>true
 | .str _=>true
 |_=>false
noncomputable def lF:V→V→Bool
 | .ck,.ck=>true
 | .bl a,.bl b=>a==b
 | .bl a,.int b=>(if a then 1 else 0)==b
 | .int a,.bl b=>a==(if b then 1 else 0)
 | .int a,.int b=>a==b
 | .str a,.str b=>a==b
 |_,_=>false
theorem X9{A:Around}{y:V}{u v:Value}(ry:RelV y u)(rx:RelV x v)(fy:qj y=true)(fx:qj x=true):SeqAt.EqAt A s u v (lF y x):=by
 cases y with
 |ck=>
  cases ry;cases x with
  |ck=>cases rx;exact SeqAt.EqAt.same _
  |bl b=>cases rx;exact SeqAt.EqAt.none_bool b
  |int b=>obtain⟨t,rfl⟩:=rx;exact SeqAt.EqAt.none_int b t
  |str b=>obtain⟨t,rfl⟩:=rx;exact SeqAt.EqAt.none_str b t
  |_=>exact absurd (show false=true from fx) iz
 |bl a=>
  cases ry;cases x with
  |ck=>cases rx;exact SeqAt.EqAt.bool_none a
  |bl b=>cases rx;exact SeqAt.EqAt.bool_bool a b
  |int b=>obtain⟨t,rfl⟩:=rx;exact SeqAt.EqAt.bool_int a b t
  |str b=>obtain⟨t,rfl⟩:=rx;exact SeqAt.EqAt.bool_str a b t
  |_=>exact absurd (show false=true from fx) iz
 |int a=>
  obtain⟨t',rfl⟩:=ry;cases x with
  |ck=>cases rx;exact SeqAt.EqAt.int_none a t'
  |bl b=>cases rx;exact SeqAt.EqAt.int_bool a t' b
  |int b=>obtain⟨t,rfl⟩:=rx;exact SeqAt.EqAt.int_int a t' b t
  |str b=>obtain⟨t,rfl⟩:=rx;exact SeqAt.EqAt.int_str a t' b t
  |_=>exact absurd (show false=true from fx) iz
 |str a=>
  obtain⟨t',rfl⟩:=ry;cases x with
  |ck=>cases rx;exact SeqAt.EqAt.str_none a t'
  |bl b=>cases rx;exact SeqAt.EqAt.str_bool a t' b
  |int b=>obtain⟨t,rfl⟩:=rx;exact SeqAt.EqAt.str_int a t' b t
  |str b=>obtain⟨t,rfl⟩:=rx;exact SeqAt.EqAt.str_str a t' b t
  |_=>exact absurd (show false=true from fx) iz
 |_=>exact absurd (show false=true from fy) iz
noncomputable def lG(x:V)(u:Value):Bool:=match u with
 | .none=>lF .ck x
 | .bool b=>lF (.bl b) x
 | .int i _=>lF (.int i) x
 | .str z _=>lF (.str z) x
 |_=>false
theorem Nk{y:V}{u:Value}(r:RelV y u)(f:qj y=true):lG x u=lF y x:=by
 cases y with
 |ck=>cases r;rfl
 |bl b=>cases r;rfl
 |int i=>obtain⟨t,rfl⟩:=r;rfl
 |str z=>obtain⟨t,rfl⟩:=r;rfl
 |_=>exact absurd (show false=true from f) iz
theorem yv{x:V}:∀{xs:List V}{us:List Value},Vals xs us→xs.all qj=true→us.any (lG x)=xs.any λy=>lF y x
 |_,_,.nil,_=>rfl
 |y::xs,u::us,.cons r t,f=>by
  rw[List.all_cons,eX]at f;rw[List.any_cons,List.any_cons,Nk r f.1,yv t f.2]
theorem yw{A:Around}{s:Shared}{x:V}{v:Value}(rx:RelV x v)(fx:qj x=true):∀{xs:List V}{us:List Value},Vals xs us→xs.all qj=true→∀u∈us,SeqAt.EqAt A s u v (lG x u)
 |_,_,.nil,_=>λu hu=>by cases hu
 |y::xs,u::us,.cons r t,f=>λu' hu=>by
  rw[List.all_cons,eX]at f;rcases eW.mp hu with rfl|hu
  ·rw[Nk r f.1];exact X9 r rx f.1 fx
  ·exact yw rx fx t f.2 u' hu
noncomputable def Br(x:V)(xs:List V):Bool:=xs.any λy=>lF y x
def Bs(K:Frag)(neg:Bool):R2:=λx y H Q=>∃p xs,y=.ref p∧(dq K H p xs∨bf K H p xs)∧qj x=true∧xs.all qj=true∧Q (.bl (if neg then !Br x xs else Br x xs)) H
theorem Ya:eK X (compareOp .In) (Bs X.K false):=by
 intro aI s σ H x y v u Q I rx ry h;obtain⟨p,xs,rfl,hq,fx,fs,q⟩:=h;cases ry;rcases hq with hq|hq
 ·obtain⟨its,r,pl,hz⟩:=I.list hq;refine SeqAt.in_listAt (lG x) pl.isList (λw hw=>yw rx fx r fs w (by simpa using hw)) ⟨.bl _,H,I,rfl,?_⟩;rw[show its.toArray.any (lG x)=its.any (lG x) by simp,yv r fs];exact q
 ·obtain⟨its,r,pl,hz⟩:=I.tuple hq;refine SeqAt.in_tupleAt (lG x) pl (λw hw=>yw rx fx r fs w (by simpa using hw)) ⟨.bl _,H,I,rfl,?_⟩;rw[show its.toArray.any (lG x)=its.any (lG x) by simp,yv r fs];exact q
theorem Yb:eK X (compareOp .NotIn) (Bs X.K true):=by
 intro aI s σ H x y v u Q I rx ry h;obtain⟨p,xs,rfl,hq,fx,fs,q⟩:=h;cases ry;rcases hq with hq|hq
 ·obtain⟨its,r,pl,hz⟩:=I.list hq;refine SeqAt.notIn_listAt (lG x) pl.isList (λw hw=>yw rx fx r fs w (by simpa using hw)) ⟨.bl _,H,I,rfl,?_⟩;rw[show its.toArray.any (lG x)=its.any (lG x) by simp,yv r fs];exact q
 ·obtain⟨its,r,pl,hz⟩:=I.tuple hq;refine SeqAt.notIn_tupleAt (lG x) pl (λw hw=>yw rx fx r fs w (by simpa using hw)) ⟨.bl _,H,I,rfl,?_⟩;rw[show its.toArray.any (lG x)=its.any (lG x) by simp,yv r fs];exact q
theorem Yc:iB X (.builtin "len") (λxs H Q=>∃p ys,xs=[.ref p]∧(dq X.K H p ys∨bf X.K H p ys)∧Q (.int ys.length) H):=by
 intro aI s σ H xs us Q I r h;obtain⟨p,ys,rfl,hq,q⟩:=h;obtain⟨u,rfl,rx⟩:=vals1 r;cases rx;have hn:=yq;rcases hq with hq|hq
 ·obtain⟨its,r',pl,hz⟩:=I.list hq;have cF:=r'.length;exact Calls.call_len_list pl.isList (by simp only[dR]<;>lia) ⟨.int ys.length,H,I.tok _,⟨s.toks+1,by rw[dR,cF]⟩,q⟩
 ·obtain⟨its,r',pl,hz⟩:=I.tuple hq;have cF:=r'.length;exact len_tuple pl (by simp only[dR]<;>lia) ⟨.int ys.length,H,I.tok _,⟨s.toks+1,by rw[dR,cF]⟩,q⟩
theorem Yd:iB X (.type "list") (λxs H Q=>∃p ys,xs=[.ref p]∧(dq X.K H p ys∨bf X.K H p ys)∧∀l,H l=none→Q (.ref l) (upd H l (.lst ys))):=by
 intro aI s σ H xs us Q I r h;obtain⟨p,ys,rfl,hq,q⟩:=h;obtain⟨u,rfl,rx⟩:=vals1 r;cases rx;have fin:∀(its:List Value),Vals ys its→ys.length≤sizeLine→∀(h':Heap)(c':Nat),(∀b o',s.heap.get? b=some o'→h'.get? b=some o')→
   h'.get? s.heap.objs.size=some { cls:=.type "list",dict:=none,data:=.seq its.toArray c',slots:=#[] }→EP X aI σ Q (.ref s.heap.objs.size) { s with heap:=h' }:=λits r' hz h' c' kp e=>
  ⟨.ref s.heap.objs.size,_,I.laid (t':=s.toks) kp (cu _) (show fu X.prog X.w _ h' _ (.lst ys) from⟨hz,its,c',r',e⟩),rfl,q _ (I.bK.fresh (cu _))⟩
 rcases hq with hq|hq
 ·obtain⟨its,r',pl,hz⟩:=I.list hq;have cF:=r'.length;obtain⟨o,ho,hc,n,hd⟩:=pl.isList;exact call_list_seq p (.inl rfl) ho hc hd (λh' c' kp e=>fin its r' hz h' c' kp e) (by simp only[dR]<;>lia)
 ·obtain⟨its,r',pl,hz⟩:=I.tuple hq;have cF:=r'.length;obtain⟨o,ho,hc,n,hd⟩:=pl;exact call_list_seq p (.inr rfl) ho hc hd (λh' c' kp e=>fin its r' hz h' c' kp e) (by simp only[dR]<;>lia)
theorem Ye:iB X (.type "tuple") (λxs H Q=>∃p ys,xs=[.ref p]∧((dq X.K H p ys∧∀l,H l=none→Q (.ref l) (upd H l (.tup ys)))∨(bf X.K H p ys∧Q (.ref p) H))):=by
 intro aI s σ H xs us Q I r h;obtain⟨p,ys,rfl,h⟩:=h;obtain⟨u,rfl,rx⟩:=vals1 r;cases rx;rcases h with⟨hq,q⟩|⟨hq,q⟩
 ·obtain⟨its,r',pl,hz⟩:=I.list hq;have cF:=r'.length;refine call_tuple_list pl.isList (λh' kp=>?_) (by simp only[dR]<;>lia)
  have I1:Inv X aI σ H { s with heap:=h' }:=I.kept (t':=s.toks) kp;have I2:Inv X aI σ (upd H h'.objs.size (.tup ys)) { s with heap:=h'.push { cls:=.type "tuple",data:=.seq its.toArray } }:=
   I1.laid (t':=s.toks) (λb o e=>dS _ e) (cu _) (show fu X.prog X.w _ _ _ (.tup ys) from⟨hz,its,r',IsTup.new _ _⟩)
  exact⟨.ref h'.objs.size,_,I2,rfl,q _ (I1.bK.fresh (cu _))⟩
 ·obtain⟨its,r',pl,hz⟩:=I.tuple hq;exact call_tuple_same pl ⟨.ref p,H,I,rfl,q⟩
def Gq(K:Frag)(T:String)(x:V)(H:Hp):Prop:=match x with
 | .str _=>T="str"
 | .int _=>T="int"
 | .ref p=>(T="list"∧∃xs,dq K H p xs)∨(T="tuple"∧∃o,K.lookup p=some o∧o.cls=.type "tuple"∧o.dict=none) ∨
   (T="dict"∧((∃aR,H p=some (.dK aR))∨∃aR,H p=some (.dT aR)))∨(T="set"∧∃S n,H p=some (.set S n))
 |_=>False
theorem Nl{aI:List (Addr×Obj)}{σ:St}{H:Hp}{T:String}{v:Value}(I:Inv X aI σ H s)(r:RelV x v)(ty:Gq X.K T x H) :
  s.TypeIs v T∧∀a,v=.ref a→∃ob,s.heap.get? a=some ob∧ob.dict=none:=by
 cases x with
 |str z=>
  obtain⟨t,rfl⟩:=r;cases(show T="str" from ty)
  exact⟨typeIs_str s z t,λ_ e=>nomatch e⟩
 |int i=>
  obtain⟨t,rfl⟩:=r;cases(show T="int" from ty)
  exact⟨typeIs_int s i t,λ_ e=>nomatch e⟩
 |ref p=>
  cases r;rcases ty with⟨rfl,xs,hq⟩|⟨rfl,o,hk,hc,hd⟩|⟨rfl,hk⟩|⟨rfl,S,n,hk⟩
  ·obtain⟨its,_,pl,_⟩:=I.list hq;refine⟨pl.isList.typeIs,λa e=>?_⟩;cases e;obtain⟨o,n,e,c,hd,_⟩:=pl;exact⟨o,e,hd⟩
  ·refine⟨⟨o,I.gO p o hk,hc⟩,λa e=>?_⟩;cases e;exact⟨o,I.gO _ o hk,hd⟩
  ·have z:∃o,s.heap.get? p=some o∧o.ExactDict:=by
    rcases hk with⟨aR,hk⟩|⟨aR,hk⟩
    ·obtain⟨_,_,_,_,o,_,_,e,ex,_⟩:=I.bK p _ hk;exact⟨o,e,ex⟩
    ·obtain⟨_,_,_,_,o,_,_,e,ex,_⟩:=I.bK p _ hk;exact⟨o,e,ex⟩
   obtain⟨o,e,ex⟩:=z;refine⟨⟨o,e,ex.1⟩,λa e2=>?_⟩;cases e2;exact⟨o,e,ex.2.1⟩
  ·obtain⟨o,_,_,_,e,ex,_⟩:=I.bK p _ hk;refine⟨⟨o,e,ex.1⟩,λa e2=>?_⟩;cases e2;exact⟨o,e,ex.2.1⟩
 |_=>exact False.elim ty
def Bt(K:Frag)(T:String)(r:V→List V→Hp→VK→Prop)(to:TE):TE:=λσ H Q=>to σ H λx H1=>Gq K T x H1∧r x [] H1 Q
def Gr(K:Frag)(T:String)(r:V→List V→Hp→VK→Prop)(to:TE)(t:TA):TE:=λσ H Q=>to σ H λx H1=>Gq K T x H1∧t σ H1 λxs H2=>r x xs H2 Q
variable{o e:Expr}{es:List Expr}{to:TE}{t:TA}{name:Str}{lE iL:Pos}{T id:String}{r:V→List V→Hp→VK→Prop}
theorem Nm(pa:PlainAttrs T)(slot:Slot T name id)(Gs:typeOf (.builtin id)=pure (.type "method_descriptor"))(hm:Ni X id r)(ho:PE X o to)
  (yy:attributeBase o name X.env (eval o X.env)=eval o X.env:=by rfl) (yz:(lE.endLine==iL.line)=true:=by rfl):PE X (.Call (.Attribute o name lE) [] [] iL) (Bt X.K T r to):=by
 intro aI s σ H Q I h;refine wpAny_Call_method0_late yy yz (bc (ho aI s σ H _ I h) λv s1 ⟨x,H1,I1,r1,ty,q1⟩=>?_);obtain⟨h1,h2⟩:=Nl I1 r1 ty;exact⟨T,id,pa,slot,Gs,h1,h2,Calls.callWith_builtin rfl (PySem.evalArgs_none (hm aI s1 σ H1 x [] v [] Q I1 r1 .nil q1))⟩
theorem qk(pa:PlainAttrs T)(slot:Slot T name id)(Gs:typeOf (.builtin id)=pure (.type "method_descriptor"))(hm:Ni X id r)(ho:PE X o to)(ha:PA X (e::es) t)
  (yy:attributeBase o name X.env (eval o X.env)=eval o X.env:=by rfl)
  (Gu:((backTo iL (starEach (e::es) X.env)).all (λx=>!x.1)&&(backToKw iL (keywordEach [] X.env)).all (λx=>x.1.isSome)
   && decide ((e::es).length+([]:List Keyword).length+(if([]:List Keyword).isEmpty then 0 else 1)<30))=true:=by rfl)
  (yz:(lE.endLine==iL.line)=true:=by rfl) (hs:starEach (e::es) X.env=(false,eval e X.env)::starEach es X.env:=by rfl) (Yf:(backTo iL (starEach es X.env)).any (·.1)=false:=by rfl) :
  PE X (.Call (.Attribute o name lE) (e::es) [] iL) (Gr X.K T r to t):=by
 intro aI s σ H Q I h;refine wpAny_Call_method_late yy Gu yz rfl (bc (ho aI s σ H _ I h) λv s1 ⟨x,H1,I1,r1,ty,q1⟩=>?_);obtain⟨h1,h2⟩:=Nl I1 r1 ty;refine⟨T,id,pa,slot,Gs,h1,h2,?_⟩;have hA:=ha iL aI s1 σ H1 _ I1 q1;rw[hs]at hA ⊢;refine Calls.callWith_builtin (by show(false||(backTo iL (starEach es X.env)).any (·.1))=false;rw[Yf]<;>rfl) (Calls.evalArgs_plain ?_)
 exact bc hA λus s2 ⟨vs,H2,I2,r2,q2⟩=>hm aI s2 σ H2 x vs v us Q I2 r1 r2 q2
end
def Bu(X:Cx)(id:String)(r:V→List V→Hp→VK→Prop):Prop:=
 ∀(aI:List (Addr×Obj))(s:Shared)(σ:St)(H:Hp)(x:V)(xs:List V)(v:Value)(us:List Value)(Q:VK),Inv X aI σ H s→RelV x v→Vals xs us→r x xs H Q→
  wpAny (model X.prog X.w) X.A (call (.builtin id) (v::us)) (EP X aI σ Q) X.xe s
theorem Vals.one:∀{x:V}{us:List Value},Vals [x] us→∃u,us=[u]∧RelV x u
 |_,_,.cons r .nil=>⟨_,rfl,r⟩
theorem Vals.zero:∀{us:List Value},Vals [] us→us=[]
 |_,.nil=>rfl
theorem Vals.dropLast{xs:List V}{us:List Value}(h:Vals xs us):Vals xs.dropLast us.dropLast:=by
 induction h with
 |nil=>exact .nil
 |cons r t ih=>
  cases t with
  |nil=>exact .nil
  |cons q t'=>exact .cons r ih
theorem Vals.eraseIdx:∀{xs:List V}{us:List Value}(i:Nat),Vals xs us→Vals (xs.eraseIdx i) (us.eraseIdx i)
 |_,_,_,.nil=>.nil
 |_,_,0,.cons _ t=>t
 |_,_,i+1,.cons r t=>.cons r (Vals.eraseIdx i t)
theorem Vals.reverse{xs:List V}{us:List Value}(h:Vals xs us):Vals xs.reverse us.reverse:=by
 induction h with
 |nil=>exact .nil
 |cons r t ih=>rw[List.reverse_cons,List.reverse_cons];exact Vals.append ih (.cons r .nil)
theorem Vals.rep{xs:List V}{us:List Value}(h:Vals xs us):∀k:Nat,Vals (List.replicate k xs).flatten (List.replicate k us).flatten
 |0=>.nil
 |k+1=>by
  rw[qJ,qJ,vD,vD];exact Vals.append h (Vals.rep h k)
theorem Yg(l:List α):l.eraseIdx (l.length-1)=l.dropLast:=by
 induction l with
 |nil=>rfl
 |cons a r ih=>
  cases r with
  |nil=>rfl
  |cons b r=>
   have e:(a::b::r).length-1=((b::r).length-1)+1:=by
    have h1:(a::b::r).length=r.length+2:=rfl;have h2:(b::r).length=r.length+1:=rfl;lia
   rw[e,List.eraseIdx_cons_succ,ih];all_goals rfl
theorem Nn{α:Type}:∀(l:List α)(i:Nat),(l.eraseIdx i).length≤l.length
 | [],_=>cu _
 |_::_,0=>Nat.le_succ _
 |_::r,i+1=>Nat.succ_le_succ (Nn r i)
theorem foldl_rep(its:List Value):∀(k:Nat)(cQ:List Value),
  List.foldl (λx1 x2=>x1++x2) cQ.toArray (List.replicate k its.toArray)=(cQ++(List.replicate k its).flatten).toArray
 |0,cQ=>by simp
 |k+1,cQ=>by
  have e:cQ.toArray++its.toArray=(cQ++its).toArray:=by simp
  have e2:(cQ++its)++(List.replicate k its).flatten=cQ++(List.replicate (k+1) its).flatten:=by
   rw[qJ,vD,jr]
  rw[← e2,← foldl_rep its k (cQ++its),← e,qJ,List.foldl_cons]
section
variable{X:Cx}{aI:List (Addr×Obj)}{σ:St}{H:Hp}{s:Shared}{l b:Addr}{xs ys zs:List V}
theorem Inv.Bv{its':List Value}{f:Array Value→Array Value}{t':Nat}(I:Inv X aI σ H s)(hH:H l=some (.lst xs))
  (e:s.heap.get? l=some { cls:=.type "list",data:=.seq its.toArray n }) (hf:f its.toArray=its'.toArray) (hv:Vals ys its') (hz:ys.length≤sizeLine) :
  Inv X aI σ (upd H l (.lst ys)) { s with heap:=s.heap.update l (Obj.mapSeq f),toks:=t' }:=by
 have q:=PySem.IsL.update e f;rw[hf]at q;refine I.write (x:=l) (e:=l) (by rw[hH];exact trivial) (.inl rfl) (λb' u hb hu=>(Heap.get?_update_other s.heap (Obj.mapSeq f) (Ne.symm hb)).trans hu) ⟨_,q⟩ ?_;exact⟨hz,its',_,hv,q⟩
theorem Inv.Np{t':Nat}(I:Inv X aI σ H s)(hv:Vals ys its)(hz:ys.length≤sizeLine) :
  Inv X aI σ (upd H s.heap.objs.size (.lst ys)) { s with heap:=s.heap.push { cls:=.type "list",data:=.seq its.toArray },toks:=t' }:=
 I.laid (λ_ _ q=>dS _ q) (cu _) ⟨hz,its,0,hv,iA _ rfl⟩
theorem Inv.fresh(I:Inv X aI σ H s):H s.heap.objs.size=none:=I.bK.fresh (cu _)
theorem Inv.uI(I:Inv X aI σ H s)(hH:H l=some (.lst xs)):xs.length≤sizeLine∧∃(its:List Value)(n:Nat),Vals xs its∧xs.length=its.length∧s.heap.get? l=some { cls:=.type "list",data:=.seq its.toArray n }:=by
 obtain⟨z,its,n,r,e⟩:=I.bK l _ hH;exact⟨z,its,n,r,r.length,e⟩
theorem Yh(h:n≤sizeLine):Builtin.List.listTooLong n=false:=by
 unfold Builtin.List.listTooLong;exact ab (by lia)
end
section
variable{X:Cx}
def Gv:V→List V→Hp→VK→Prop:=λx vs H Q=>∃l xs y,x=.ref l∧vs=[y]∧H l=some (.lst xs)∧xs.length<sizeLine∧Q .ck (upd H l (.lst (xs++[y])))
theorem rf:Bu X "list.append" Gv:=by
 intro aI s σ H x vs v us Q I rx rv h;obtain⟨l,xs,y,rfl,rfl,hH,hz,q⟩:=h;cases rx;obtain⟨u,rfl,ru⟩:=rv.one;obtain⟨z,its,n,r,hl,e⟩:=I.uI hH;refine aA F.slot_list_append ⟨_,e,rfl⟩ F.entry_list_append (F.args_list_append_2 _ _) (PySem.list_append l its.toArray n u (by rw[dR];lia)) ⟨e,?_⟩;refine⟨.ck,_,I.Bv (its':=its++[u]) hH e (by simp) (r.append (.cons ru .nil)) ?_,rfl,q⟩;rw[bY,xX];lia
def Gw:V→List V→Hp→VK→Prop:=λx vs H Q=>∃l xs y,x=.ref l∧vs=[]∧H l=some (.lst xs)∧xs[xs.length-1]?=some y∧Q y (upd H l (.lst xs.dropLast))
theorem Yi:Bu X "list.pop" Gw:=by
 intro aI s σ H x vs v us Q I rx rv h;obtain⟨l,xs,y,rfl,rfl,hH,hy,q⟩:=h;cases rx;have Gx:=rv.zero;subst Gx;obtain⟨z,its,n,r,hl,e⟩:=I.uI hH;obtain⟨u,hu,ru⟩:=r.get hy;have Bx:its.toArray[its.toArray.size-1]?=some u:=by
  show its.toArray[its.length-1]?=some u;rw[← Array.getElem?_toList,← hl];exact hu
 refine aA F.slot_list_pop ⟨_,e,rfl⟩ F.entry_list_pop (F.args_list_pop_1 _) (MeetsSeq.list_pop_last l its.toArray n u Bx (by rw[dR];lia)) ⟨e,?_⟩;refine⟨y,_,I.Bv (its':=its.dropLast) hH e ?_ r.dropLast ?_,ru,q⟩
 ·show its.toArray.eraseIdxIfInBounds (its.toArray.size-1)=its.dropLast.toArray;rw[dR,List.eraseIdxIfInBounds_toArray,Yg]
 ·rw[List.length_dropLast];lia
def Nq:V→List V→Hp→VK→Prop:=λx vs H Q=>∃l xs,x=.ref l∧vs=[]∧H l=some (.lst xs)∧Q .ck (upd H l (.lst xs.reverse))
theorem Yj:Bu X "list.reverse" Nq:=by
 intro aI s σ H x vs v us Q I rx rv h;obtain⟨l,xs,rfl,rfl,hH,q⟩:=h;cases rx;have Gx:=rv.zero;subst Gx;obtain⟨z,its,n,r,hl,e⟩:=I.uI hH;refine aA F.slot_list_reverse ⟨_,e,rfl⟩ F.entry_list_reverse (F.args_list_reverse_1 _) (AutoSeq1.list_reverse_list_0 l its.toArray n (by rw[dR];lia)) ⟨e,?_⟩;refine⟨.ck,_,I.Bv (its':=its.reverse) hH e (by simp) r.reverse ?_,rfl,q⟩;rw[List.length_reverse];lia
def fX:R2:=λx y H Q=>∃l b xs zs,x=.ref l∧y=.ref b∧H l=some (.lst xs)∧H b=some (.lst zs)∧xs.length+zs.length≤sizeLine∧∀p,H p=none→Q (.ref p) (upd H p (.lst (xs++zs)))
theorem eQ:eK X (binaryOp .Add) fX:=by
 intro aI s σ H x y v u Q I rx ry h;obtain⟨l,b,xs,zs,rfl,rfl,hH,hB,hz,q⟩:=h;cases rx;cases ry;obtain⟨z,its,n,r,hl,e⟩:=I.uI hH;obtain⟨z2,vS,n2,r2,By,e2⟩:=I.uI hB;refine PySem.P.add_list e e2 ?_ (by rw[dR,dR];lia);have ea:its.toArray++vS.toArray=(its++vS).toArray:=by simp
 rw[ea];exact⟨.ref _,_,I.Np (t':=s.toks) (r.append r2) (by rw[bY];lia),rfl,q _ I.fresh⟩
def Gy:R2:=λx y H Q=>∃l k xs,x=.ref l∧y=.int k∧H l=some (.lst xs)∧-(2^63)≤k∧k<2^63∧xs.length*k.toNat≤sizeLine∧
 ∀p,H p=none→Q (.ref p) (upd H p (.lst (List.replicate k.toNat xs).flatten))
theorem Nr(xs:List α)(k:Nat):(List.replicate k xs).flatten.length=k*xs.length:=by
 induction k with
 |zero=>simp
 |succ k ih=>rw[qJ,vD,bY,ih,Nat.succ_mul,Nat.add_comm]
theorem nY:eK X (binaryOp .Mult) Gy:=by
 intro aI s σ H x y v u Q I rx ry h;obtain⟨l,k,xs,rfl,rfl,hH,h1,h2,hz,q⟩:=h;cases rx;obtain⟨t,rfl⟩:=ry;obtain⟨z,its,n,r,hl,e⟩:=I.uI hH;have cF:its.toArray.size*k.toNat≤sizeLine:=by rw[dR,← hl];exact hz
 have Yk:¬its.toArray.size*k.toNat>(2^63-1)/8:=by
  have:(sizeLine:Nat)≤(2^63-1)/8:=by decide
  lia
 have Yl:¬(!Builtin.List.listFitsIndex k)=true:=by
  rw[fitsIndex_both h1 h2];exact iz
 have Ym:¬Builtin.List.listTooLong (its.toArray.size*k.toNat)=true:=by
  rw[Yh cF];exact iz
 have Yn:List.foldl (λx1 x2=>x1++x2) #[] (List.replicate (if its.toArray.isEmpty=true then 0 else k.toNat) its.toArray)=(List.replicate k.toNat its).flatten.toArray:=by
  have f0:∀m:Nat,List.foldl (λx1 x2=>x1++x2) #[] (List.replicate m its.toArray)=(List.replicate m its).flatten.toArray:=λm=>by
   have:=foldl_rep its m []
   rw[xY]at this;exact this
  rw[f0];cases its with
  |nil=>simp
  |cons a r'=>rw[af (by simp)]
 refine wpAny_binaryOp_repeat_ref (T := "list") (U := "int") (by decide) ⟨_,e,rfl⟩ (λs'=>typeIs_int s' k t) noFill_list_mul F.fills_int_mul F.slot_int_rmul repeat_list F.slot_int_index.lookup
  (aA F.slot_int_rmul (typeIs_int s k t) F.entry_int_rmul (F.args_int_rmul_2 _ _) (int___rmul___int_list k t l its.toArray n) ⟨e,rfl,⟨_,e,rfl⟩,aA F.slot_list_mul ⟨_,e,rfl⟩ F.entry_list_mul (F.args_list_mul_2 _ _) (AutoListH.list___mul___list_int_3 l its.toArray n k t Yl Yk Ym) ⟨e,?_⟩⟩)
 rw[Yn];exact⟨.ref _,_,I.Np (t':=s.toks) (r.rep k.toNat) (by rw[Nr,Nat.mul_comm];exact hz),rfl,q _ I.fresh⟩
end
section
variable{prog:Program}{w:World}{A:Around}{E:QV}{s:Shared}
end
section
variable{X:Cx}
end
end L2
namespace Att
open PySem PySem.W PySem.Calls PyProof.Rows
theorem Yo{P:Params}{h:Heap}:∀(ns:List Int)(vs:List Value),WellAll P h vs (ns.map WData.int)→IntsAre vs ns:=by
 intro ns;induction ns with
 |nil=>
  intro vs w;rw[List.map_nil]at w;cases w;exact .nil
 |cons n ns ih=>
  intro vs w;rw[mx]at w;cases w with
  |cons a b=>
   cases a;exact .cons _ _ (ih _ b)
theorem Yp{l:OpenLaw}{n:Nat}(hn:l.most=some n){P:Params}{h:Heap}{args:List WData}{Gz:List Value}
  (Bz:l.row.toRowW.claim.pre args=true) (GH:WellAll P h Gz args) :
  ∃a vs ns,Gz=[Value.ref a]∧args=[WData.list (ns.map WData.int)]∧h.get? a=some { cls:=.type "list",data:=.seq vs.toArray }∧IntsAre vs ns∧ns.length≤n:=by
 have Yq:WShape.hasAll [] args [.list .int]=true:=(pre_splitW Bz).1;have hc:l.pre.holds [] { args:=args }=true:=(pre_splitW Bz).2;obtain⟨d,r,rfl,h1,h2⟩:=hasAllW_cons Yq;obtain rfl:=hasAllW_nil h2;obtain⟨xs,rfl,h3⟩:=hasW_list h1;obtain⟨ns,rfl⟩:=items_int h3;have cF:ns.length≤n:=by
  unfold OpenLaw.pre at hc;have h4:(WTm.not (.lt (.lit (.int (n:Int))) (.len (.arg 0)))).holds [] { args:=[.list (ns.map .int)] }=true:=by
   have h4:=(holds_andW hc).1;rw[hn]at h4;exact h4
  have h5:=condW_of h4 (w_not (w_lt w_lit (w_len_list (w_arg rfl))));rw[aZ]at h5;refine Nat.le_of_not_lt λq=>?_;have q':(n:Int)<((ns.length:Nat):Int):=by lia
  first
   |(rw[aC q']at h5;exact absurd h5 (by decide))
   |(simp at h5;lia)
 cases GH with
 |cons w1 w2=>
  cases w2;cases w1 with
  |list ho GK=>exact⟨_,_,ns,rfl,rfl,ho,Yo ns _ GK,cF⟩
theorem Yr(l:OpenLaw)(args:List WData):l.row.toRowW.claim.post args (.bool true) args=true:=
 postW_of (r:=l.row.toRowW) (X:=(true==true))
  (show WShape.has [] (.bool true) .bool=true by first|rfl|decide|simp[WShape.has,WShape.arms,WShape.armsAll])
  (show(WTm.eq .res (.lit (.bool true))).value [] { args:=args,res:=some (.bool true),after:=args }=some (.bool (true==true)) from w_eq_bool (w_res rfl) w_lit) rfl
theorem Ys{l:OpenLaw}{n:Nat}{q:Program}{vU:List Str}{XP:(Str→Option Value)→Heap→Prop}{YP:World→Heap→Prop}{d:DefRec}
  (hn:l.most=some n) (yB:d.params.defaults=[])
  (call:∀(w:World)(s₀ s₁:Shared)(mg mb:Str→Option Value)(fa:Addr)(o:Obj)(pm cd doc:Value)(a:Addr)(vs:List Value)(ns:List Int),
   Ground q vU [] XP w s₀ mg mb s₁.heap→YP w s₁.heap→
   s₁.heap.get? fa=some o→o.data=.func (docDef d.name d.params d.body d.scope pm cd doc)→s₁.heap.CodeRec cd d.name→mg d.name=some (.ref fa)→
   s₁.heap.get? a=some { cls:=.type "list",data:=.seq vs.toArray }→IntsAre vs ns→ns.length≤n→s₁.gens=#[]→
   codeAny (model l.prog w) callerA (.call (.ref fa) ⟨[.ref a],[]⟩) (λr s'=>r=.ok (.ret (.bool true))∧OldK s₁.heap s'.heap∧s'.os=s₁.os∧AllBare s'.gens) s₁) :
  WalkO q vU XP YP l.row.toRowW d [] (λf vs=>PySem.call f vs):=by
 intro w s₀ s₁ mg mb G Y fa o pm cd doc dV kV ho hd iQ hD hmg hg args Gz as Bz afc hrd GH hlo;obtain rfl:dV=.none:=Dflts.none hD yB;obtain rfl:kV=.none:=Dflts.noKw hD;obtain⟨a,vs,ns,rfl,rfl,GV,hints,cF⟩:=Yp hn Bz GH;refine enter_call (codeAny_mono (call w s₀ s₁ mg mb fa o pm cd doc a vs ns G Y ho (fd_plain hd) iQ hmg GV hints cF hg) λr s' hq=>?_);obtain⟨rfl,h2,h3,h4⟩:=hq;exact⟨.inl ⟨.bool true,.bool true,[],rfl,λ_=>rfl,.bool true,Yr l _,λ_=>⟨List.Pairwise.nil,λ_ hm=>(nomatch hm)⟩⟩,h2,h3,h4⟩
section
variable{prog:Program}{w:World}{A:Around}{E:QV}{s:Shared}{K:Frag}
end
end Att
namespace L2
open PySem PySem.Spec PyProof.Rows
variable{A:Around}{B:Prop}{H H':Hp}{Q:QV}{X:Cx}{a c f it p:Addr}{b:Bool}{env:Env}{es:List Expr}{h h':Heap}{i kt n:Nat}{its:Array Value}{aI:List (Addr×Obj)}{qual x:Str}{s:Shared}{scope:Scope}{st:Stmt}{v:Value}{xs:List V}
theorem Nt:∀{vs:List Value}{ns:List Int},IntsAre vs ns→Vals (ns.map V.int) vs
 |_,_,.nil=>.nil
 |_,_,.cons n t h=>.cons ⟨t,rfl⟩ (Nt h)
noncomputable def rg(s:Stmt):Arguments:=match s with
 | .FunctionDef _ a _ _ _ _ _ _ _ _=>a
 |_=>{ posonlyargs:=[],args:=[],vararg:=none,kwonlyargs:=[],kw_defaults:=[],kwarg:=none,defaults:=[] }
noncomputable def lZ(s:Stmt):List Stmt:=match s with
 | .FunctionDef _ _ b _ _ _ _ _ _ _=>b
 |_=>[]
noncomputable def bu(s:Stmt):Scope:=match s with
 | .FunctionDef _ _ _ _ _ _ sc _ _ _=>sc
 |_=>{ kind:=.function,names:=[],isGenerator:=false,isCoroutine:=false }
abbrev bp:qO:=λ_ _ _ _ _ _=>False
abbrev E0:XK:=λ_ _ _=>False
theorem cb:Passes bp X E0:=λ_ _ _ _ _ _ _ h=>h.elim
structure cA(K:Frag)(x qual:Str)(st:Stmt)(f:Addr)(fd:FuncData):Prop where
 ex:∃(oc:Value)(od:Option Addr)(kV doc pm:Value)(an:Option Addr)(bE ct:Value)(nU:Array (Option Value)),
  fd=fnOf x qual (rg st) (lZ st) (bu st) .none kV doc pm an bE ct∧K.lookup f=some ⟨oc,od,.func fd,nU⟩∧PySem.W.codeIn K bE qual=true
 kp:Kp K f
section
variable{P:Program}{w:World}{K:Frag}{mg:Str→Option Value}{base:Heap}
theorem cA.ok{fd:FuncData}{N ps:List Str}{k:Nat}{sp:Sp}(F:cA K x qual st f fd)(S:cT N ps (bu st))(len:∀vs H Q E,sp vs H Q E→vs.length=ps.length)
  (o6:∀(bE:Value)(A:Around)(outer:List Env)(s:Shared)(H:Hp)(vs:List V)(Q:VK)(E:XK),dt k (A.deeper (envOfC qual (bu st) s.heap.objs.size f bE))→sp vs H Q E→
   ∃t,jP (mX bp P w K mg base N qual (bu st) f bE A outer s H E).lW (lZ st) t∧t { nx:=λ_ H'=>Q .ck H',rt:=Q } (start N vs) H):br P w K mg base bp (k+1) f fd ps sp:=by
 obtain⟨oc,od,kV,doc,pm,an,bE,ct,nU,rfl,lk,iQ⟩:=F.ex;refine M8 lk iQ S len λA outer s H vs Q E hr jR=>?_;obtain⟨t,h,q⟩:=o6 bE A outer s H vs Q E hr jR;exact⟨t,h.lW,q⟩
theorem cA.binds{fd:FuncData}{ps:List Str}(F:cA K x qual st f fd)
  (h:∀(kV doc pm:Value)(an:Option Addr)(bE ct:Value)(us:List Value),us.length=ps.length→bindArgs (fnOf x qual (rg st) (lZ st) (bu st) .none kV doc pm an bE ct) ⟨us,[]⟩=pure (ps.zip us)):Binds K fd ps []:=by
 obtain⟨oc,od,kV,doc,pm,an,bE,ct,nU,rfl,lk,iQ⟩:=F.ex;exact .all (h kV doc pm an bE ct)
theorem GX{oc:Value}{od an:Option Addr}{nU:Array (Option Value)}{kV doc pm bE ct:Value}(l:K.lookup f=some ⟨oc,od,.func (fnOf x qual (rg st) (lZ st) (bu st) .none kV doc pm an bE ct),nU⟩)
  (c:PySem.W.codeIn K bE qual=true) (k:Kp K f):cA K x qual st f (fnOf x qual (rg st) (lZ st) (bu st) .none kV doc pm an bE ct):=⟨⟨oc,od,kV,doc,pm,an,bE,ct,nU,rfl,l,c⟩,k⟩
end
theorem GY{k:Nat}(hr:dt k A):A.units+1<cLine:=Nat.lt_of_le_of_lt (Nat.add_le_add_left (by decide:1≤64) _) hr.units
theorem GZ(h:n≤1000):n<sizeLine:=Nat.lt_of_le_of_lt h (by decide)
section
variable{X:Cx}
theorem pv(i:Nat){pos:Pos}(hN:X.N[i]?=some x:=by rfl)(hv:x9 X.env.scope x:=by first|exact Or.inl rfl|exact Or.inr (.inl rfl)|exact Or.inr (Or.inr rfl))(hd:(x==("__debug__":Str))=false:=by decide)
  (iQ:(x==("__classdict__":Str))=false:=by decide):PE X (.Name x pos) (aY i):=MC hN hv hd iQ
end
theorem dW{A:Prop}(h:B):if false=true then A else B:=by
 rw[af iz];exact h
theorem dZ{A:Prop}(h:A):if true=true then A else B:=by
 rw[ae rfl];exact h
theorem uJ{c A:Prop} [Decidable c] (h1:c→A) (h2:¬c→B):if c then A else B:=by
 by_cases h:c
 ·rw[ae h];exact h1 h
 ·rw[af h];exact h2 h
theorem Yt{c A:Prop} [Decidable c] (hc:c) (h:B):if(!decide c)=true then A else B:=by
 rw[aC hc];exact dW h
def aK(H H':Hp):Prop:=∀b o,H b=some o→H' b=some o
theorem aK.refl(H:Hp):aK H H:=λ_ _ h=>h
theorem aK.trans{H1 H2:Hp}(a:aK H H1)(b:aK H1 H2):aK H H2:=λc o h=>b c o (a c o h)
theorem aK.seq{K:Frag}(e:aK H H')(h:dq K H a xs):dq K H' a xs:=by
 rcases h with(h|⟨o,h⟩)|h
 ·exact .inl (.inl (e _ _ h))
 ·exact .inl (.inr ⟨o,e _ _ h⟩)
 ·exact .inr h
noncomputable def lH(cells:List (Str×Addr)):List (Str×NameKind)→List (Str×Addr)→List (Str×Addr)
 | [],cQ=>cQ
 |(n,k)::r,cQ=>if k == .free then lH cells r ((n,(cells.lookup n).getD 0)::cQ)else lH cells r cQ
theorem Yu(h:∀x∈scope.names,x.2=.free→∃c,env.cells.lookup x.1=some c):closureFor scope env=pure (lH env.cells scope.names []):=by
 unfold closureFor;have key:∀(names:List (Str×NameKind))(cQ:List (Str×Addr)),(∀x∈names,x.2=.free→∃c,env.cells.lookup x.1=some c)→
   (forIn names cQ (λ(x:Str×NameKind)(r:List (Str×Addr))=>(if(x.2==NameKind.free)=true then do let c ← cellOf env x.1;pure (ForInStep.yield ((x.1,c)::r))else pure (ForInStep.yield r):Sem (ForInStep (List (Str×Addr))))))=pure (lH env.cells names cQ):=by
  intro names;induction names with
  |nil=>intro cQ _;rfl
  |cons x r ih=>
   intro cQ hx;obtain⟨n,k⟩:=x;rw[List.forIn_cons];unfold lH;by_cases hk:(k==NameKind.free)=true
   ·have iT:k=.free:=by simpa using hk
    obtain⟨c,hc⟩:=hx (n,k) ek iT;have iJ:env.cells.lookup n=some c:=hc;simp only[hk,if_true];have e1:cellOf env n=pure c:=by unfold cellOf;rw[iJ]
    rw[e1,iJ];exact ih ((n,c)::cQ) λy hy=>hx y (iy _ hy)
   ·simp only[hk,if_false,Bool.false_eq_true];exact ih cQ λy hy=>hx y (iy _ hy)
 have e:=key scope.names [] h;first
  |exact e
  |(simp only[bind_pure];exact e)
theorem BA{cells:List (Str×Addr)}{x:Str}{c:Addr}:∀(names:List (Str×NameKind))(cQ:List (Str×Addr)),(lH cells names cQ).lookup x=some c→cQ.lookup x=some c∨((x,NameKind.free)∈names∧c=(cells.lookup x).getD 0)
 | [],_,h=>.inl h
 |(n,k)::r,cQ,h=>by
  unfold lH at h;by_cases hk:(k==NameKind.free)=true
  ·have iT:k=.free:=by simpa using hk
   rw[ae hk]at h;rcases BA r _ h with z|⟨z,e⟩
   ·rw[ud]at z;cases hb:x==n with
    |true=>
     rw[hb]at z;have e':x=n:=by simpa using hb
     subst e';subst iT;exact .inr ⟨ek,(c8 z).symm⟩
    |false=>rw[hb]at z;exact .inl z
   ·exact .inr ⟨iy _ z,e⟩
  ·rw[af hk]at h;rcases BA r _ h with z|⟨z,e⟩
   ·exact .inl z
   ·exact .inr ⟨iy _ z,e⟩
theorem G0{cells:List (Str×Addr)}{x:Str}:∀(names:List (Str×NameKind))(cQ:List (Str×Addr)),((x,NameKind.free)∈names∨(cQ.lookup x).isSome=true)→((lH cells names cQ).lookup x).isSome=true
 | [],_,h=>by
  rcases h with h|h
  ·cases h
  ·exact h
 |(n,k)::r,cQ,h=>by
  unfold lH;by_cases hk:(k==NameKind.free)=true
  ·rw[ae hk];refine G0 r _ ?_;rcases h with h|h
   ·rcases(eW.mp h)with(e|h)
    ·cases e;exact .inr (by rw[ud];simp)
    ·exact .inl h
   ·refine .inr ?_;rw[ud];cases hb:x==n<;>simp[h]
  ·rw[af hk];refine G0 r _ ?_;rcases h with h|h
   ·rcases(eW.mp h)with(e|h)
    ·cases e;exact absurd rfl hk
    ·exact .inl h
   ·exact .inr h
theorem vV:∀(names:List (Str×NameKind))(n:Nat)(cQ:List (Str×Addr)),cellsFrom n names cQ=cellsFrom n names []++cQ
 | [],_,_=>rfl
 |(x,k)::r,n,cQ=>by
  unfold cellsFrom;by_cases hk:(k==NameKind.cell)=true
  ·rw[ae hk,ae hk,vV r (n+1) ((x,n)::cQ),vV r (n+1) [(x,n)],jr];rfl
  ·rw[af hk,af hk];exact vV r n cQ
theorem G1:∀(names:List (Str×NameKind))(n:Nat)(x:Str)(c:Addr),(x,c)∈cellsFrom n names []→(x,NameKind.cell)∈names
 | [],_,_,_,h=>nomatch h
 |(y,k)::r,n,x,c,h=>by
  unfold cellsFrom at h;by_cases hk:(k==NameKind.cell)=true
  ·have iT:k=.cell:=by simpa using hk
   rw[ae hk,vV]at h;refine(dI.mp h).elim (λh=>?_) λh=>?_
   ·exact iy _ (G1 r _ x c h)
   ·have e:(x,c)=(y,n):=by simpa using h
    cases e;subst iT;exact ek
  ·rw[af hk]at h;exact iy _ (G1 r n x c h)
theorem G2{α:Type}{x:Str}:∀(a b:List (Str×α)),(a++b).lookup x=(a.lookup x).or (b.lookup x)
 | [],_=>by simp
 |(y,v)::r,b=>by
  rw[qK,ud,ud];cases hb:x==y with
  |true=>simp
  |false=>exact G2 r b
theorem yC{α:Type}{x:Str}{v:α}:∀{l:List (Str×α)},(l.map (·.1)).Nodup→(x,v)∈l→l.lookup x=some v
 | [],_,h=>by cases h
 |(y,w)::r,nd,h=>by
  rw[mx,List.nodup_cons]at nd;rw[ud];cases h with
  |head=>simp
  |tail _ h=>
   have cS:(x==y)=false:=by
    apply beq_false_of_ne;intro Yv;exact nd.1 (cP.mpr ⟨(x,v),h,Yv⟩)
   rw[cS];exact yC nd.2 h
theorem Nu{α β:Type}{x:Str}(f:Str×α→Str×β)(hf:∀p,(f p).1=p.1):∀(l:List (Str×α)),(l.map f).lookup x=(l.lookup x).map λk=>(f (x,k)).2
 | []=>rfl
 |(n,k)::r=>by
  obtain⟨m,z⟩:∃z,f (n,k)=(n,z):=⟨(f (n,k)).2,Prod.ext (hf _) rfl⟩;rw[mx,z,ud,ud];cases hx:x==n with
  |false=>exact Nu f hf r
  |true=>cases(beq_iff_eq.mp hx);simp[z]
theorem Yw(names:List (Str×NameKind)):(names.map λ(n,k)=>if(k==NameKind.free&&env.scope.kind == .function&&env.kindOf n==some .cell)then(n,NameKind.cell)else(n,k)).lookup x =
  (names.lookup x).map λk=>if(k==NameKind.free&&env.scope.kind == .function&&env.kindOf x==some .cell)=true then NameKind.cell else k:=by
 rw[Nu _ (λp=>by dsimp only;split<;>rfl)]
 congr 1
 funext k
 dsimp only;split<;>rfl
theorem Yx{M:Model}{E:QV}{cl:List (Str×Addr)}{Q:Env→Shared→Prop}
  (q:Q (newEnv scope s.heap.objs.size env.globals (cellsFrom (s.heap.objs.size+1) scope.names cl) env.qual none .none (some env) builtinsNs)
   { s with heap:=pushCells (s.heap.push { cls:=.type "dict",data:=.dict #[] }) scope.names }) :
  wpAny M A (newFunctionEnv scope env.globals cl [] env.qual none .none (some env)) Q E s:=by
 have z:(s.heap.push { cls:=.type "dict",data:=.dict #[] }).objs.size=s.heap.objs.size+1:=oS ..;rw[← z]at q;unfold newFunctionEnv;have cells:=wpAny_layCells (M:=M) (A:=A) (E:=E) (λx r=>if(x.2==NameKind.cell)=true then(do let c ← alloc { cls:=.type "cell",data:=.cell none };pure (ForInStep.yield ((x.1,c)::r)))else pure (ForInStep.yield r)) (λ_ _ _=>rfl) scope.names cl { s with heap:=s.heap.push { cls:=.type "dict",data:=.dict #[] } }
 exact aj (wpAny_alloc (aj (cells _ (aj (aq (aq q))))))
noncomputable def nZ(X:Cx)(N:List Str)(scope:Scope)(cs:List (Str×Addr))(C:Addr)(s₀:Shared)(H₀:Hp)(ex:List Addr):Cx where
 prog:=X.prog
 w:=X.w
 K:=X.K
 mg:=X.mg
 base:=X.base
 A:=X.A
 N:=N
 s₀:=s₀
 H₀:=H₀
 env:=compEnvC scope cs C X.env
 outer:=X.stack
 stack:=X.stack
 ex:=ex
 fn:=λx=>scope.names.lookup x==some .cell
 calm:=X.calm
 pn:=[]
 xe:=λ_ _=>False
structure dJ(oN:List Str)(sO:Scope)(N:List Str)(own:Nat)(caps:List Nat)(scope:Scope):Prop where
 kind:scope.kind=.function
 nd:N.Nodup
 BC:(scope.names.map (·.1)).Nodup
 free:∀x∈scope.names,x.2=.free→sO.names.lookup x.1=some .cell∨sO.names.lookup x.1=some .free
 len:N.length=own+caps.length
 n5:caps.map (λi=>oN[i]?)=(N.drop own).map some
 Yy:∀x∈N.drop own,scope.names.lookup x=some .free
noncomputable def sP(own:Nat)(caps:List Nat)(σ:St):St:=List.replicate own none++caps.map λi=>(σ[i]?).join
noncomputable abbrev sQ(X:Cx)(scope:Scope)(C:Addr):List (Str×Addr):=cellsFrom (C+1) scope.names (lH X.env.cells scope.names [])
noncomputable abbrev yD(h:Heap)(scope:Scope):Heap:=pushCells (h.push { cls:=.type "dict",data:=.dict #[] }) scope.names
section
variable{X:Cx}{aI:List (Addr×Obj)}{σ:St}{H:Hp}{s:Shared}{N:List Str}{own:Nat}{caps:List Nat}{scope:Scope}{ex:List Addr}
theorem vW(S:dJ X.N X.env.scope N own caps scope)(I:Inv X aI σ H s)(n:Nat)(h:(cellsFrom n scope.names (lH X.env.cells scope.names [])).lookup x=some c) :
  (x,c)∈cellsFrom n scope.names []∨((x,NameKind.free)∈scope.names∧X.env.cells.lookup x=some c):=by
 rw[vV,G2]at h;cases q:(cellsFrom n scope.names []).lookup x with
 |some c'=>
  rw[q]at h;have e:c'=c:=by simpa using h
  subst e;exact .inl (pY q)
 |none=>
  rw[q]at h;have h':(lH X.env.cells scope.names []).lookup x=some c:=by simpa using h
  rcases BA _ _ h' with z|⟨z,e⟩
  ·cases z
  ·refine .inr ⟨z,?_⟩;obtain⟨c',iJ⟩:=I.ok.has x (S.free (x,.free) z rfl);rw[iJ]at e ⊢;rw[e];rfl
theorem Nv(S:dJ X.N X.env.scope N own caps scope)(I:Inv X aI σ H s)(n:Nat)(hx:scope.names.lookup x=some .free) :
  ∃c,X.env.cells.lookup x=some c∧(cellsFrom n scope.names (lH X.env.cells scope.names [])).lookup x=some c:=by
 have hm:(x,NameKind.free)∈scope.names:=pY hx;obtain⟨c,hc⟩:=I.ok.has x (S.free (x,.free) hm rfl);refine⟨c,hc,?_⟩;obtain⟨c',iJ⟩:=Option.isSome_iff_exists.mp (G0 (cells:=X.env.cells) (x:=x) scope.names [] (.inl hm));have e0:(cellsFrom n scope.names []).lookup x=none:=by
  cases q:(cellsFrom n scope.names []).lookup x with
  |none=>rfl
  |some d=>
   have:=yC S.BC (G1 _ _ _ _ (pY q))
   rw[hx]at this;cases this
 rw[vV,G2,e0,iJ];rcases BA _ _ iJ with z|⟨_,e⟩
 ·cases z
 ·rw[hc]at e;rw[e];rfl
theorem Yz(S:dJ X.N X.env.scope N own caps scope)(I:Inv X aI σ H s)(hex:∀b∈ex,jA X aI H b∧b<s.heap.objs.size) :
  Inv (nZ X N scope (sQ X scope s.heap.objs.size) s.heap.objs.size s H ex) [] (sP own caps σ) H { s with heap:=yD s.heap scope }:=by
 have k1:∀b o,s.heap.get? b=some o→(yD s.heap scope).get? b=some o:=λb o e=>pushCells_keeps _ _ b o (dS _ e);have ok:=cellsFrom_ok scope.names (s.heap.push { cls:=.type "dict",data:=.dict #[] }) (s.heap.objs.size+1) [] ⟨λ_ _ hm=>(nomatch hm),List.Pairwise.nil⟩ (by rw[oS];exact cu _);rw[oS]at ok;have Nw:∀x c,X.env.cells.lookup x=some c→c<s.heap.objs.size:=λx c e=>by
  obtain⟨v,q⟩:=I.cell x c e;exact q.lt
 have Nx:∀x,(compEnvC scope (sQ X scope s.heap.objs.size) s.heap.objs.size X.env).kindOf x=(scope.names.lookup x).map λk=>if(k==NameKind.free&&X.env.scope.kind == .function&&X.env.kindOf x==some .cell)=true then NameKind.cell else k:=
  λx=>Yw (env:=X.env) scope.names
 have kk:∀x,(compEnvC scope (sQ X scope s.heap.objs.size) s.heap.objs.size X.env).kindOf x=some .cell∨(compEnvC scope (sQ X scope s.heap.objs.size) s.heap.objs.size X.env).kindOf x=some .free→
   scope.names.lookup x=some .cell∨scope.names.lookup x=some .free:=λx h=>by
  rw[Nx]at h;cases q:scope.names.lookup x with
  |none=>rw[q]at h;rcases h with h|h<;>cases h
  |some k=>
   rw[q]at h;by_cases hf:k=.free
   ·exact .inr (by rw[hf])
   ·have hb:(k==NameKind.free)=false:=by simpa using hf
    have e:(some k).map (λk=>if(k==NameKind.free&&X.env.scope.kind == .function&&X.env.kindOf x==some .cell)=true then NameKind.cell else k)=some k:=by
     simp[hf]
    rw[e]at h;exact h
 refine⟨⟨I.ok.mod,S.kind,I.ok.glob,I.ok.blt,cu _,λx y c h1 h2=>?_,λx hx=>?_,λx c hf h=>?_,I.ok.hd,I.ok.frames,.inl rfl,λb hb=>⟨?_,λx c h=>?_⟩,λb o e=>?_,hU I.ok.qS I.sz,λb o e hb=>?_,λb hb hf=>?_,I.stack,I.Mr⟩,
  rfl,I.bare,Un.kept k1,⟨λ_=>none,?_,λi x v h1 h2 h3=>?_⟩,λx c h=>?_,I.bK.fresh (cu _),λx c h=>?_,λp hp=>absurd (show p∈([]:List (Addr×Obj)) from hp) (by simp),I.bK.kept k1,?_⟩
 ·
  rcases vW S I _ h1 with a1|⟨_,a1⟩<;>rcases vW S I _ h2 with a2|⟨_,a2⟩
  ·exact name_of_addr ok.apart a1 a2
  ·exact absurd (Nw _ _ a2) (Nat.not_lt.mpr (Nat.le_of_succ_le (ok.empty _ _ a1).2))
  ·exact absurd (Nw _ _ a1) (Nat.not_lt.mpr (Nat.le_of_succ_le (ok.empty _ _ a2).2))
  ·exact I.ok.inj _ _ _ a1 a2
 ·
  rcases kk x hx with q|q
  ·exact Option.isSome_iff_exists.mp (FD scope.names _ _ (.inl q))
  ·obtain⟨c,_,hc⟩:=Nv S I (s.heap.objs.size+1) q;exact⟨c,hc⟩
 ·
  have gB:scope.names.lookup x=some .cell:=by simpa[nZ]using hf
  rcases vW S I _ h with a|⟨a,_⟩
  ·exact Nat.le_of_succ_le (ok.empty _ _ a).2
  ·rw[yC S.BC a]at gB;cases gB
 ·exact iw (hex b hb).2
 ·rcases vW S I _ h with a|⟨_,a⟩
  ·exact Nat.ne_of_gt (jo (hex b hb).2 (Nat.le_of_succ_le (ok.empty _ _ a).2))
  ·exact(hex b hb).1.2.2.2.2.1 x c a
 ·exact I.bs b o e
 ·rcases(hex b hb).1.2.2.2.1 with z|z
  ·exact I.ok.yf b o e z
  ·exact absurd (jo (dX e) (hU I.ok.qS z)) (uc _)
 ·rcases eW.mp (I.FJ b hf)with z|z
  ·exact(hex b hb).1.2.1 z
  ·exact(hex b hb).1.2.2.1 z
 ·exact(Heap.Ns.new s.heap (.type "dict")).keeps (pushCells_keeps _ _)
 ·
  have hi:own≤i:=by
   refine Nat.le_of_not_lt λcR=>?_;unfold sP at h2;rw[ia (by simpa using cR),FE]at h2;split at h2<;>cases h2
  obtain⟨j,rfl⟩:∃j,i=own+j:=⟨i-own,by lia⟩;unfold sP at h2;rw[iI (by simp),dY,Nat.add_sub_cancel_left,dU]at h2;cases hc:caps[j]? with
  |none=>rw[hc]at h2;cases h2
  |some ci=>
   rw[hc]at h2;have hσ:σ[ci]?=some (some v):=by
    have z:(σ[ci]?).join=some v:=by simpa using h2
    cases q:σ[ci]? with
    |none=>rw[q]at z;cases z
    |some o=>rw[q]at z;have z':o=some v:=z;rw[z']
   have Ny:(N.drop own)[j]?=some x:=by rw[si];exact h1
   have hX:X.N[ci]?=some x:=by
    have e:=ai (λl=>l[j]?) S.n5;simp only[dU,hc,Ny,Option.map_some]at e;exact c8 e
   have G3:=S.Yy x (cZ Ny);obtain⟨c,sR,sJ⟩:=Nv S I (s.heap.objs.size+1) G3;obtain⟨m,hn,hl⟩:=I.loc;have hk:=S.free (x,.free) (pY G3) rfl;have YA:x9 X.env.scope x:=.inr hk;obtain⟨u,ru,lk⟩:=hl ci x v hX hσ YA;refine⟨u,ru,?_⟩;rcases lk with⟨z,_⟩|⟨_,c',e',z⟩
   ·have z':X.env.scope.names.lookup x=some .local:=z;rcases hk with hk|hk
    ·have iT:X.env.scope.names.lookup x=some .cell:=hk;rw[z']at iT;cases iT
    ·have iT:X.env.scope.names.lookup x=some .free:=hk;rw[z']at iT;cases iT
   ·rw[sR]at e';cases e';refine .inr ⟨?_,c,sJ,z.keeps k1⟩;show(compEnvC scope _ _ X.env).kindOf x=_∨(compEnvC scope _ _ X.env).kindOf x=_;rw[Nx,G3];show some (if _ then NameKind.cell else NameKind.free)=_∨some (if _ then NameKind.cell else NameKind.free)=_
    split
    ·exact .inl rfl
    ·exact .inr rfl
 ·rcases vW S I _ h with a|⟨_,a⟩
  ·exact⟨_,(ok.empty _ _ a).1⟩
  ·obtain⟨v,q⟩:=I.cell x c a;exact⟨v,q.keeps k1⟩
 ·rcases vW S I _ h with a|⟨_,a⟩
  ·exact I.bK.fresh (Nat.le_of_succ_le (ok.empty _ _ a).2)
  ·exact I.oX x c a
 ·unfold sP;show _=N.length;rw[S.len,bY,dY,aZ]
end
def vX(X:Cx)(jB:List Expr)(t:TT):Prop:=
 ∀(aI:List (Addr×Obj))(s:Shared)(σ:St)(H:Hp)(Q:Bool→Hp→Prop),Inv X aI σ H s→t σ H Q→
  wpAny (model X.prog X.w) X.A (forIn jB true λc r=>if r=true then do let ok ← isTrue c X.env (eval c X.env);pure (ForInStep.yield ok)else pure (ForInStep.yield r)) (TP X aI σ Q) X.xe s
def jC:TT:=λ_ H Q=>Q true H
theorem fq:vX X [] jC:=λ_ _ _ H _ I h=>wpAny_tests_nil ⟨H,I,h⟩
theorem yE{c:Expr}{t:TT}(h:PT X c t):vX X [c] t:=λaI s σ H Q I q=>wpAny_tests_one (h aI s σ H Q I q)
def G4(M:Model)(A:Around)(env:Env)(it cQ:Value)(tg kg:Expr)(jB:List Expr)(E:QV)(fin gY:Shared→Prop):Shared→Prop:=
 let kept:Shared→Prop:=λu=>wpAny M A (eval kg env) (λx u5=>wpAny M A (call (.builtin "list.append") [cQ,x]) (λ_ u6=>gY u6) E u5) E u
 let YB:Shared→Prop:=λu=>wpAny M A (forIn jB true λc r=>if r=true then(do let ok ← isTrue c env (eval c env);pure (ForInStep.yield ok))else pure (ForInStep.yield r)) (λok u4=>if ok=true then kept u4 else gY u4) E u
 let YC:QV:=λv u=>wpAny M A (letOwnedTupleGo tg it v) (λ_ u2=>wpAny M A (assign tg env v) (λ_ u3=>YB u3) E u2) E u
 λu=>wpAny M A (pyNext it) (λo u1=>match o with|none=>fin u1|some v=>YC v u1) E u
theorem YD{prog:Program}{w:World}{R:Result→Shared→Prop}{kg tg iter:Expr}{jB:List Expr}{pos:Pos}{it cQ:Value}(I:Nat→Shared→Prop)(n:Nat)(start:I n s)
  (o3:∀m u,I m u→G4 (model prog w) A env it cQ tg kg jB (notedBy (model prog w) A env λe v=>R (.error e) v) (R (.ok .next)) (λv=>∃j,j<m∧I j v) u) :
  codeAny (model prog w) A (.compLoop (.ListComp kg [⟨tg,iter,jB,0⟩] scope pos) 0 it cQ env) R s:=by
 refine codeAny_loop rfl I (λm u hu=>wpAny_noted (m:=compTurn (.ListComp kg [⟨tg,iter,jB,0⟩] scope pos) 0 it cQ env) ?_) n start;have go:=o3 m u hu;unfold G4 at go;rw[compTurn_list];refine aj (wpAny_standAt (aj (bc go λo u1 b1=>?_)))
 match o,b1 with
 |none,b1=>exact aq b1
 |some v,b1=>
  refine aj (bc b1 λ_ u2 b2=>aj (bc b2 λ_ u3 b3=>aj (bc b3 λok u4 b4=>?_)))
  match ok,b4 with
  |false,b4=>exact aq ⟨rfl,b4⟩
  |true,b4=>exact aj (aj (bc b4 λx u5 b5=>aj (bc b5 λ_ u6 b6=>aq (aq ⟨rfl,b6⟩))))
def jD(J:It)(g:TG)(tt:TT)(te:TE)(Q:VK)(W:Nat→Nat→St→Hp→List V→Prop):Prop:=
 ∀i m σ' H' ys,W i m σ' H' ys→
  (J.stop i H'∧ys.length≤sizeLine∧∀p,H' p=none→Q (.ref p) (upd H' p (.lst ys))) ∨
  (J.go i H'∧ys.length<sizeLine∧∃N:St→Hp→List V→Prop,(∀σ2 H2 zs,N σ2 H2 zs→∃m',m'<m∧W (i+1) m' σ2 H2 zs)∧
   ∀x H2,J.qW i H' x H2→g x σ' H2 λσ3 H3=>tt σ3 H3 λb H4=>if b=true then te σ3 H4 λv H5=>N σ3 H5 (ys++[v])else N σ3 H4 ys)
def o7(wi:TI)(own:Nat)(caps:List Nat)(g:TG)(tt:TT)(te:TE):TE:=λσ H Q=>wi σ H λJ H1=>
 ∃W:Nat→Nat→St→Hp→List V→Prop,(∃m,W 0 m (sP own caps σ) H1 [])∧jD J g tt te Q W
section
variable{X:Cx}{tg kg iter:Expr}{jB:List Expr}{scope:Scope}{pos:Pos}{N:List Str}{own:Nat}{caps:List Nat}{wi:TI}{g:TG}{tt:TT}{te:TE}
theorem Nz{σ:St}{H2:Hp}{s2:Shared}{J:It}{fp:List Addr}{tn:Nat→Heap→Prop}{Q:VK}{W:Nat→Nat→St→Hp→List V→Prop}{m0:Nat}
  {E:QV} {R:Value→Addr→Result→Shared→Prop} (hc:X.calm=true) (S:dJ X.N X.env.scope N own caps scope)
  (hg:∀cs C s₀ H₀ ex,PG (nZ X N scope cs C s₀ H₀ ex) tg g) (ht:∀cs C s₀ H₀ ex,vX (nZ X N scope cs C s₀ H₀ ex) jB tt) (he:∀cs C s₀ H₀ ex,PE (nZ X N scope cs C s₀ H₀ ex) kg te)
  (I2:Inv X aI σ H2 s2) (T:Turn X.prog X.w X.K tg J fp it tn) (lY:tn 0 s2.heap) (f2:∀b∈fp,jA X aI H2 b)
  (w0:W 0 m0 (sP own caps σ) H2 []) (o3:jD J g tt te Q W)
  (YE:∀D C s' H' ys,Inv X aI σ (upd H' D (.lst ys)) s'→jA X aI (upd H' D (.lst ys)) C→(∃m,s'.heap.Ns C m)→Q (.ref D) (upd H' D (.lst ys))→R (.ref D) C (.ok .next) s') :
  wpAny (model X.prog X.w) X.A (newList []) (λcQ s₃=>wpAny (model X.prog X.w) X.A (newFunctionEnv scope X.env.globals (lH X.env.cells scope.names []) [] X.env.qual none .none (some X.env)) (λNA s₄=>
   codeAny (model X.prog X.w) X.A (.compStart (.ListComp kg [⟨tg,iter,jB,0⟩] scope pos) 0 (.ref it) cQ { NA with scope:=relabel scope X.env }) (R cQ NA.locals) s₄) E s₃) E s2:=by
 refine az (Yx ?_);dsimp only;generalize G5:s2.heap.push { cls:=.type "list",dict:=none,data:=.seq ([]:List Value).toArray }=h3;have hC:h3.objs.size=s2.heap.objs.size+1:=by rw[← G5,oS]
 have NB:∀b o,s2.heap.get? b=some o→h3.get? b=some o:=λb o e=>G5▸dS _ e;have I3:Inv X aI σ H2 { s2 with heap:=h3 }:=I2.kept (t':=s2.toks) NB;have gD:h3.get? s2.heap.objs.size=some { cls:=.type "list",data:=.seq ([]:List Value).toArray }:=G5▸iA _ rfl;have fD:jA X aI H2 s2.heap.objs.size:=I2.o4 (cu _) (I2.bK.fresh (cu _));have NC:∀b∈fp,b<s2.heap.objs.size:=λb hb=>by
  obtain⟨o,e,_⟩:=T.obj 0 _ lY b hb;exact dX e
 have hex:∀b∈s2.heap.objs.size::fp,jA X aI H2 b∧b<({ s2 with heap:=h3 }:Shared).heap.objs.size:=λb hb=>by
  show _∧b<h3.objs.size;rw[hC];cases hb with
  |head=>exact⟨fD,Nat.lt_succ_self _⟩
  |tail _ hb=>exact⟨f2 b hb,Nat.lt_succ_of_lt (NC b hb)⟩
 have IB:=Yz S I3 hex;generalize hY:nZ X N scope (sQ X scope h3.objs.size) h3.objs.size { s2 with heap:=h3 } H2 (s2.heap.objs.size::fp)=Y at IB;have yP:Y.prog=X.prog:=by rw[← hY];rfl
 have yW:Y.w=X.w:=by rw[← hY];rfl
 have yK:Y.K=X.K:=by rw[← hY];rfl
 have yc:Y.calm=true:=by rw[← hY];exact hc
 have yA:Y.A=X.A:=by rw[← hY];rfl
 have yx:Y.xe=λ_ _=>False:=by rw[← hY];rfl
 have yL:Y.env.locals=h3.objs.size:=by rw[← hY];rfl
 have ND:Y.ex=s2.heap.objs.size::fp:=by rw[← hY];rfl
 have YF:Y.fs=lV X.stack:=by rw[← hY];rfl
 have NF:Y.pn=[]:=by rw[← hY];rfl
 have G6:Y.env=compEnvC scope (sQ X scope h3.objs.size) h3.objs.size X.env:=by rw[← hY];rfl
 have yg:PG Y tg g:=by rw[← hY];exact hg _ _ _ _ _
 have yt:vX Y jB tt:=by rw[← hY];exact ht _ _ _ _ _
 have ye:PE Y kg te:=by rw[← hY];exact he _ _ _ _ _
 have yb:∀{σ':St}{H':Hp}{s':Shared}{pn:List (Addr×Obj)},Inv Y pn σ' H' s'→Un (lV X.stack) (s2.heap.objs.size::fp) H2 H' h3 s'.heap:=λ{σ' H' s' pn} J=>by
  have b:=J.base;rw[YF,ND]at b;have e1:Y.H₀=H2:=by rw[← hY];rfl
  have e2:Y.s₀.heap=h3:=by rw[← hY];rfl
  rw[e1,e2]at b;exact b
 have YG:∀{σ':St}{H':Hp}{s':Shared}{pn:List (Addr×Obj)},Inv Y pn σ' H' s'→s'.os=s2.os:=λ{σ' H' s' pn} J=>by
  have e:Y.s₀.os=s2.os:=by rw[← hY];rfl
  exact J.os.trans e
 have DL:s2.heap.objs.size≠Y.env.locals:=by rw[yL,hC];exact iw (Nat.lt_succ_self _)
 have NG:s2.heap.objs.size ∉ fp:=λz=>uc _ (NC _ z);have G7:∀b∈s2.heap.objs.size::fp,b∈Y.ex:=λb hb=>by rw[ND];exact hb
 have YH:∀{pn:List (Addr×Obj)}{H':Hp},(∀p∈pn,p.1 ∉ fp)→(∀b∈fp,H' b=none)→∀b∈fp,jA Y pn H' b:=λ{pn H'} hp hn b hb=>by
  have iU:=G7 b (iy _ hb);refine⟨hn b hb,(IB.ok.yd b iU).1,IB.ok.vJ b iU,.inl iU,(IB.ok.yd b iU).2,λp vY z=>?_⟩;rw[NF,xY]at vY;exact hp p vY (z▸hb)
 have NH:∀b o,h3.get? b=some o→(yD h3 scope).get? b=some o:=λb o e=>pushCells_keeps _ _ b o (dS _ e);have NI:tn 0 (yD h3 scope):=T.keep 0 s2.heap _ lY λb _ o e=>NH b o (NB b o e);have YI:=NH _ _ gD;have loop:codeAny (model X.prog X.w) X.A (.compLoop (.ListComp kg [⟨tg,iter,jB,0⟩] scope pos) 0 (.ref it) (.ref s2.heap.objs.size) (compEnvC scope (sQ X scope h3.objs.size) h3.objs.size X.env)) (R (.ref s2.heap.objs.size) h3.objs.size)
   { s2 with heap:=yD h3 scope }:=by
  refine YD (λn s'=>∃i σ' H' ys its n5,Inv Y [] σ' H' s'∧tn i s'.heap∧(∀b∈fp,H' b=none)∧H' s2.heap.objs.size=none∧
   s'.heap.get? s2.heap.objs.size=some { cls:=.type "list",data:=.seq (its:List Value).toArray n5 }∧Vals ys its∧W i n σ' H' ys) m0
   ⟨0,_,H2,[],[],_,IB,NI,λb hb=>(f2 b hb).1,fD.1,YI,.nil,w0⟩ ?_
  rintro n s5 ⟨i,σ5,H5,ys,its,n5,I5,t5,Bh,NJ,YJ,BD,w5⟩;unfold G4;dsimp only;have NK:Inv Y [(s2.heap.objs.size,{ cls:=.type "list",data:=.seq its.toArray n5 })] σ5 H5 s5:=I5.AV λp hp=>by
   have e:=dP.mp hp;subst e;exact⟨YJ,NJ,DL,IB.ok.vJ _ (G7 _ ek),λv z=>by cases z⟩
  have YK:∀p∈[((s2.heap.objs.size:Addr),({ cls:=.type "list",data:=.seq its.toArray n5 }:Obj))],p.1 ∉ fp:=λp hp=>by
   have e:=dP.mp hp;subst e;exact NG
  have G8:∀{H':Hp},(∀b∈fp,H' b=none)→∀b∈fp,jA Y [((s2.heap.objs.size:Addr),({ cls:=.type "list",data:=.seq its.toArray n5 }:Obj))] H' b:=λhn=>YH YK hn;rcases o3 i n σ5 H5 ys w5 with⟨stop,hz,qn⟩|⟨go,hz,NN,NL,step⟩
  ·rw[← yA];refine ag (T.done Y yP yW yK yc i _ s5 σ5 H5 (λ_ _=>False) NK (G8 Bh) t5 stop) (λr s6 h6=>?_) λ_ _ f=>f.elim;obtain⟨hr,I6⟩:=h6;subst hr;have G9:=I6.pin (s2.heap.objs.size,_) (jb _ (dP.mpr rfl));have nD:H2 s2.heap.objs.size=none:=fD.1;have base:=yb I6;have un:Un (lV X.stack) (s2.heap.objs.size::fp) H2 (upd H5 s2.heap.objs.size (.lst ys)) h3 s6.heap:=⟨base.keep,base.slot,λb o e n hx=>by
     rw[cG (λz=>hx (by rw[z];exact ek))];exact base.free b o e n hx,base.there,
    λb xs e=>by rw[cG (gN e nD)];exact base.qR b xs e,λb o u e=>by rw[cG (gN e nD)];exact base.p8 b o u e,λb ps e=>by
     obtain⟨gY,q⟩:=base.p9 b ps e;exact⟨gY,by rw[cG (gN e nD)];exact q⟩⟩
   have bK:fE X.prog X.w (upd H5 s2.heap.objs.size (.lst ys)) s6.heap:=λb u e=>by
    have NM:=I6.bK;rw[yP,yW]at NM;by_cases hb:b=s2.heap.objs.size
    ·subst hb;rw[aV]at e;cases e;exact⟨hz,its,n5,BD,G9.1⟩
    ·rw[cG hb]at e;exact(NM b u e).qQ (λc v _ q=>q) (λc q=>by rw[cG (gN q G9.2.1)];exact q) λc xs q=>by rw[cG (gN q G9.2.1)];exact q
   have I7:Inv X aI σ (upd H5 s2.heap.objs.size (.lst ys)) s6:=I3.W2 (YG I6) un bK I6.bare λb hb=>by
    have z:=(hex b hb).1;exact⟨z.2.2.2.1,z.2.1,z.2.2.2.2.1,z.2.2.2.2.2⟩
   have YL:H5 h3.objs.size=none:=by rw[← yL];exact I6.free
   have CD:h3.objs.size≠s2.heap.objs.size:=by rw[hC];exact Nat.succ_ne_self _
   refine YE _ _ s6 H5 ys I7 (I3.o4 (cu _) (by rw[cG CD];exact YL)) ?_ (qn _ NJ);obtain⟨m,hn,_⟩:=I6.loc;rw[yL]at hn;exact⟨m,hn⟩
  ·rw[← yA];have lift:∀{α:Type}{t:Sem α}{Q1 Q2:α→Shared→Prop}{s':Shared},wpAny (model X.prog X.w) Y.A t Q1 Y.xe s'→(∀a qh,Q1 a qh→Q2 a qh)→
     wpAny (model X.prog X.w) Y.A t Q2 (notedBy (model X.prog X.w) Y.A (compEnvC scope (sQ X scope h3.objs.size) h3.objs.size X.env) λe s'=>R (.ref s2.heap.objs.size) h3.objs.size (.error e) s') s':=λh k=>
    ag h k λ_ _ f=>by rw[yx]at f;exact f.elim
   refine lift (T.item Y yP yW yK yc i _ s5 σ5 H5 Y.xe NK (G8 Bh) t5 go) λr s6 h6=>?_;obtain⟨u,hr,h6⟩:=h6;subst hr;refine lift h6 λ_ s7 h7=>?_;obtain⟨x,H7,I7,r7,y7,t7,YM⟩:=h7;have YN:=I7.pinned (G8 YM) (T.obj _ _ t7);have ha:=yg _ s7 σ5 H7 x u _ YN r7 (step x H7 y7);rw[yP,yW,G6]at ha;refine lift ha λ_ s8 h8=>?_;obtain⟨σ8,H8,I8,q8⟩:=h8;have hb:=yt _ s8 σ8 H8 _ I8 q8;rw[yP,yW,G6]at hb;refine lift hb λok s9 h9=>?_;obtain⟨H9,I9,q9⟩:=h9;have after:∀{σ':St}{H':Hp}{s':Shared},Inv Y ([((s2.heap.objs.size:Addr),({ cls:=.type "list",data:=.seq its.toArray n5 }:Obj))]++yn fp s7.heap) σ' H' s'→
     Inv Y [] σ' H' s'∧tn (i+1) s'.heap∧(∀b∈fp,H' b=none)∧H' s2.heap.objs.size=none∧s'.heap.get? s2.heap.objs.size=some { cls:=.type "list",data:=.seq its.toArray n5 }:=λ{σ' H' s'} J=>by
    have pD:=J.pin (s2.heap.objs.size,_) (jb _ (nR _ (dP.mpr rfl)));refine⟨J.AV (λp hp=>by cases hp),T.keep _ _ _ t7 λb hb o e=>(J.pin (b,o) (jb _ (jb _ (Bg hb e)))).1,λb hb=>?_,pD.2.1,pD.1⟩;obtain⟨o,e,d⟩:=T.obj _ _ t7 b hb;exact(J.pin (b,o) (jb _ (jb _ (Bg hb e)))).2.1
   cases ok with
   |false=>
    rw[af (by decide)]at q9;rw[af (by decide)];obtain⟨m',hm,w9⟩:=NL _ _ _ q9;obtain⟨a1,a2,a3,a4,a5⟩:=after I9;exact⟨m',hm,i+1,σ8,H9,ys,its,n5,a1,a2,a3,a4,a5,BD,w9⟩
   |true=>
    rw[ae rfl]at q9;rw[ae rfl];have hd:=ye _ s9 σ8 H9 _ I9 q9;rw[yP,yW,G6]at hd;refine lift hd λv BE YO=>?_;obtain⟨y,BF,YQ,YR,YT⟩:=YO;obtain⟨m',hm,YU⟩:=NL _ _ _ YT;obtain⟨a1,a2,a3,a4,a5⟩:=after YQ;have cF:=BD.length;refine append_at (hsz:=by rw[dR];lia) a5 λh' sb g'=>?_;have NO:=G7 _ (ek (a:=s2.heap.objs.size) (l:=fp));have YV:Inv Y [] σ8 BF { BE with heap:=h' }:=a1.turned (t':=BE.toks) (it:=s2.heap.objs.size) (λb o hb e=>(sb.2 b hb).trans e) a4 DL (.inl NO) (IB.ok.yd _ NO).2 (by rw[NF];intro p hp;cases hp);refine⟨m',hm,i+1,σ8,BF,ys++[y],its++[v],n5+1,YV,T.keep _ _ _ a2 λb hb o e=>(sb.2 b (λz=>NG (z▸hb))).trans e,a3,a4,?_,BD.snoc YR,YU⟩;rw[g',List.push_toArray]
 exact codeAny_compStart_list loop (T.self X.A 0 _ _ _ NI loop)
theorem NP(S:dJ X.N X.env.scope N own caps scope){σ:St}(I:Inv X aI σ H s):closureFor scope X.env=pure (lH X.env.cells scope.names []):=
 Yu λx hx hk=>I.ok.has x.1 (S.free x hx hk)
theorem iV(hc:X.calm=true)(hi:PI X tg iter wi)(S:dJ X.N X.env.scope N own caps scope)
  (hg:∀cs C s₀ H₀ ex,PG (nZ X N scope cs C s₀ H₀ ex) tg g) (ht:∀cs C s₀ H₀ ex,vX (nZ X N scope cs C s₀ H₀ ex) jB tt) (he:∀cs C s₀ H₀ ex,PE (nZ X N scope cs C s₀ H₀ ex) kg te)
  (hs:∀x,foldedSetIterable iter X.env x=pure x:=by intro _;rfl):PE X (.ListComp kg [⟨tg,iter,jB,0⟩] scope pos) (o7 wi own caps g tt te):=by
 intro aI s σ H Q I h;rw[eval_ListComp];refine wpAny_comprehension_free (use:=none) rfl hs (NP S I) S.kind (λx hx hl=>yC S.BC (by rw[← hl];exact hx)) ?_;refine bc (hi aI s σ H _ I h) λv s1 h1=>bc h1 λBd s2 h2=>?_;obtain⟨it,fp,tn,J,H2,e,I2,T,lY,f2,W,⟨m0,w0⟩,o3⟩:=h2;subst e;refine Nz hc S hg ht he I2 T lY f2 w0 o3 λD C s' H' ys I' F' hn q=>?_;obtain⟨m,hn⟩:=hn;refine⟨m,hn,λh' sb=>⟨.ref D,_,I'.turned (t':=s'.toks) (λb o hb e=>(sb.2 b hb).trans e) F'.1 F'.2.1 F'.2.2.2.1 F'.2.2.2.2.1 F'.2.2.2.2.2,rfl,q⟩⟩
theorem kh{mE NQ:Pos}(hc:X.calm=true)(hN:X.N.Nodup)(BG:X.N[i]?=some x)(hx:X.env.scope.names.lookup x=some .local)(hi:PI X tg iter wi)(S:dJ X.N X.env.scope N own caps scope)
  (hg:∀cs C s₀ H₀ ex,PG (nZ X N scope cs C s₀ H₀ ex) tg g) (ht:∀cs C s₀ H₀ ex,vX (nZ X N scope cs C s₀ H₀ ex) jB tt) (he:∀cs C s₀ H₀ ex,PE (nZ X N scope cs C s₀ H₀ ex) kg te)
  (YW:swapsWith (.ListComp kg [⟨tg,iter,jB,0⟩] scope pos) (some (.Name x mE)) NQ.line X.env=pure true:=by rfl)
  (hs:∀x,foldedSetIterable iter X.env x=pure x:=by intro _;rfl):PS X (.Assign [.Name x mE] (.ListComp kg [⟨tg,iter,jB,0⟩] scope pos) NQ) (dz (o7 wi own caps g tt te) (bX i)):=by
 intro aI s σ H D I h;rw[exec_Assign_Name_used _ _ _ _ YW];refine aj (wpAny_standAt (aj ?_));show wpAny _ X.A (do let _ ← comprehension (.ListComp kg [⟨tg,iter,jB,0⟩] scope pos) scope X.env _ (newList []) false (eval iter X.env) (some (assign (.Name x mE) X.env))) _ _ s
 refine aj (ag (wpAny_comprehension_free (use:=some (assign (.Name x mE) X.env)) (Q:=λ_ s'=>SP X aI D .next s') rfl hs (NP S I) S.kind (λx hx hl=>yC S.BC (by rw[← hl];exact hx)) ?_) (λ_ s' hq=>aq (aq hq)) λ_ _ e=>e);refine bc (hi aI s σ H _ I h) λv s1 h1=>bc h1 λBd s2 h2=>?_;obtain⟨it,fp,tn,J,H2,e,I2,T,lY,f2,W,⟨m0,w0⟩,o3⟩:=h2;subst e;refine Nz hc S hg ht he I2 T lY f2 w0 o3 λD' C s' H' ys I' F' hn q=>?_;obtain⟨m,hn⟩:=hn;refine wpAny_assign_Name (Mw (v:=.ref D') I' hN BG (.inl hx) rfl (λqh YX ql=>?_) (.inr hx));obtain⟨a,sb,ha⟩:=ql;have YY:C≠a:=by
  rcases ha with ha|ha
  ·rw[ha];exact F'.2.1
  ·exact(F'.2.2.2.2.1 x a ha).symm
 exact⟨m,hn.sameBut sb YY,λh' YZ=>⟨_,_,YX.turned (t':=qh.toks) (λb o hb e=>(YZ.2 b hb).trans e) F'.1 F'.2.1 F'.2.2.2.1 F'.2.2.2.2.1 F'.2.2.2.2.2,q⟩⟩
end
noncomputable def Y0(b:Bool):String:=match b with
 |true => "list_iterator"
 |false => "tuple_iterator"
noncomputable def NR(b:Bool):String:=match b with
 |true => "list"
 |false => "tuple"
noncomputable abbrev lI(b:Bool)(a:Addr)(i:Nat):Obj:={ cls:=.type (Y0 b),data:=.fields #[.ref a,.int i 0] }
def iW(b:Bool)(h:Heap)(it a:Addr)(i:Nat):Prop:=h.get? it=some (lI b a i)
def jS(b:Bool)(h:Heap)(a:Addr)(its:Array Value):Prop:=∃o n,h.get? a=some o∧o.cls=.type (NR b)∧o.data=.seq its n
section
variable(it a:Addr)(i:Nat)(its:Array Value)(o:Obj)(n:Nat)(ed:o.data=.seq its n)
include ed
theorem Y1(x:Value)(hx:its[i]?=some x) :
  Meets (Builtin.«tuple_iterator.__next__» ⟨[.ref it],[]⟩) (λ_ R s=>(s.heap.get? it=some (lI false a i)∧s.heap.get? a=some o)∧
   R (.ok (.ret x)) { s with heap:=s.heap.update it (Obj.mapFields λvs=>vs.setIfInBounds 1 (rawInt ((i:Int)+1))) }):=
 .of_wp λprog w A R s hyp=>by
  obtain⟨h,g,dr,tk,os⟩:=s;obtain⟨⟨e1,e2⟩,fin⟩:=hyp;have gF:its[((i:Nat):Int).toNat]?=some x:=by simpa using hx
  wp_walk
  rw[ed];wp_walk
  rw[gF];wp_walk
  exact⟨_,rfl,fin⟩
theorem Y2(x:Value)(hx:its[i]?=some x) :
  Meets (Builtin.«list_iterator.__next__» ⟨[.ref it],[]⟩) (λ_ R s=>(s.heap.get? it=some (lI true a i)∧s.heap.get? a=some o)∧
   R (.ok (.ret x)) { s with heap:=s.heap.update it (Obj.mapFields λvs=>vs.setIfInBounds 1 (rawInt ((i:Int)+1))) }):=
 .of_wp λprog w A R s hyp=>by
  obtain⟨h,g,dr,tk,os⟩:=s;obtain⟨⟨e1,e2⟩,fin⟩:=hyp;have gF:its[((i:Nat):Int).toNat]?=some x:=by simpa using hx
  wp_walk
  rw[ed];wp_walk
  rw[gF];wp_walk
  exact⟨_,rfl,fin⟩
theorem Y3(hx:its[i]?=none) :
  Meets (Builtin.«tuple_iterator.__next__» ⟨[.ref it],[]⟩) (λA R s=>A.handled=none∧(s.heap.get? it=some (lI false a i)∧s.heap.get? a=some o)∧
   ∀h' e,(∀b u,b≠it→s.heap.get? b=some u→h'.get? b=some u)→(∃u,h'.get? e=some u∧u.cls=.type "StopIteration")→R (.error (.ref e)) { s with heap:=h' }):=
 .of_wp λprog w A R s hyp=>by
  obtain⟨h,g,dr,tk,os⟩:=s;obtain⟨hh,⟨e1,e2⟩,fin⟩:=hyp;have BH:A.in1.handled=none:=hh;have gF:its[((i:Nat):Int).toNat]?=none:=by simpa using hx
  wp_walk
  rw[ed];wp_walk
  rw[gF];wp_walk
  unfold raiseNew;wp_walk
  refine fin _ _ (λb u hb q=>?_) ⟨_,iA _ rfl,rfl⟩;exact dS _ (dS _ ((Heap.get?_update_other _ _ (Ne.symm hb)).trans q))
theorem Y4(hx:its[i]?=none) :
  Meets (Builtin.«list_iterator.__next__» ⟨[.ref it],[]⟩) (λA R s=>A.handled=none∧(s.heap.get? it=some (lI true a i)∧s.heap.get? a=some o)∧
   ∀h' e,(∀b u,b≠it→s.heap.get? b=some u→h'.get? b=some u)→(∃u,h'.get? e=some u∧u.cls=.type "StopIteration")→R (.error (.ref e)) { s with heap:=h' }):=
 .of_wp λprog w A R s hyp=>by
  obtain⟨h,g,dr,tk,os⟩:=s;obtain⟨hh,⟨e1,e2⟩,fin⟩:=hyp;have BH:A.in1.handled=none:=hh;have gF:its[((i:Nat):Int).toNat]?=none:=by simpa using hx
  wp_walk
  rw[ed];wp_walk
  rw[gF];wp_walk
  unfold raiseNew;wp_walk
  refine fin _ _ (λb u hb q=>?_) ⟨_,iA _ rfl,rfl⟩;exact dS _ (dS _ ((Heap.get?_update_other _ _ (Ne.symm hb)).trans q))
end
section
variable{prog:Program}{w:World}{A:Around}{E:QV}{s:Shared}{b:Bool}{it a:Addr}{i:Nat}{its:Array Value}
theorem iW.moved(h:Heap)(e:iW b h it a i):iW b (h.update it (Obj.mapFields λvs=>vs.setIfInBounds 1 (rawInt ((i:Int)+1)))) it a (i+1):=vC _ e rfl
theorem Y5{x:Value}(e1:iW b s.heap it a i)(e2:jS b s.heap a its)(hx:its[i]?=some x)
  (q:∀h',iW b h' it a (i+1)→Heap.SameBut it s.heap h'→Q x { s with heap:=h' }):wpAny (model prog w) A (Builtin.SmallTypes.nextOf (.ref it)) Q E s:=by
 obtain⟨o,n,eo,ec,ed⟩:=e2;cases b<;>unfold Builtin.SmallTypes.nextOf
 ·exact aj (ax (T := "tuple_iterator") ⟨_,e1,rfl⟩ Mn (aA Mn ⟨_,e1,rfl⟩ F.entry_tuple_iterator_next (F.args_tuple_iterator_next_1 _) (Y1 it a i its o n ed x hx) ⟨⟨e1,eo⟩,aq (q _ (iW.moved _ e1) (pZ ..))⟩))
 ·exact aj (ax (T := "list_iterator") ⟨_,e1,rfl⟩ slot_listiter_next (aA slot_listiter_next ⟨_,e1,rfl⟩ entry_listiter_next (args_listiter_next _) (Y2 it a i its o n ed x hx) ⟨⟨e1,eo⟩,aq (q _ (iW.moved _ e1) (pZ ..))⟩))
theorem Y6(hh:A.handled=none)(e1:iW b s.heap it a i)(e2:jS b s.heap a its)(hx:its[i]?=none)
  (q:∀h' e,Heap.ExtBut it s.heap h'→(∃u,h'.get? e=some u∧u.cls=.type "StopIteration")→E (.ref e) { s with heap:=h' }):wpAny (model prog w) A (Builtin.SmallTypes.nextOf (.ref it)) Q E s:=by
 obtain⟨o,n,eo,ec,ed⟩:=e2;cases b<;>unfold Builtin.SmallTypes.nextOf
 ·exact aj (ax (T := "tuple_iterator") ⟨_,e1,rfl⟩ Mn (aA Mn ⟨_,e1,rfl⟩ F.entry_tuple_iterator_next (F.args_tuple_iterator_next_1 _) (Y3 it a i its o n ed hx) ⟨hh,⟨e1,eo⟩,λh' e k z=>q h' e (λc u hc y=>k c u hc y) z⟩))
 ·exact aj (ax (T := "list_iterator") ⟨_,e1,rfl⟩ slot_listiter_next (aA slot_listiter_next ⟨_,e1,rfl⟩ entry_listiter_next (args_listiter_next _) (Y4 it a i its o n ed hx) ⟨hh,⟨e1,eo⟩,λh' e k z=>q h' e (λc u hc y=>k c u hc y) z⟩))
end
theorem vZ{prog:Program}{w:World}(b:Bool)(hh:A.handled=none)(it l:Addr)(cS:l≠it)(items:Array Value) :
  Draws prog w A it [it,l] items.size (λi v=>items[i]?=some v) (λi h=>iW b h it l i∧jS b h l items):=by
 refine⟨λi h st=>⟨_,st.1⟩,λi h h' st k=>⟨k it (by simp) _ st.1,?_⟩,λi s Q E hi st q=>?_,λs Q E st q=>Y6 hh st.1 st.2 (by simp) q⟩
 ·obtain⟨o,n,eo,r⟩:=st.2;exact⟨o,n,k l (by simp) o eo,r⟩
 ·have hx:items[i]?=some items[i]:=by simp[hi]
  refine Y5 st.1 st.2 hx λh' e1 sb=>q _ h' s.toks hx ⟨e1,?_⟩ sb;obtain⟨o,n,eo,r⟩:=st.2;exact⟨o,n,(sb.2 l cS).trans eo,r⟩
structure Ha(z TI TO i1 i2:Addr)(rh rj:List Addr):Prop where
 NT:TI≠z
 sS:TO≠z
 BI:i1≠z
 Hd:i2≠z
 Y7:TI≠TO
 Y8:TI≠i1
 Y9:TI≠i2
 NU:TO≠i1
 Za:TO≠i2
 NV:i1≠i2
 fz:z ∉ rh∧z ∉ rj
 fO:TO ∉ rh∧TO ∉ rj
 f2:i2 ∉ rh
 f1:i1 ∉ rj
section
variable{prog:Program}{w:World}{A:Around}{E:QV}{z TI TO i1 i2:Addr}{rh rj:List Addr}{n1 n2 k:Nat}{P1 P2:Nat→Value→Prop}{S1 S2:Nat→Heap→Prop}{a b:Value}
theorem Draws.but{fp:List Addr}{P:Nat→Value→Prop}{St:Nat→Heap→Prop}(D:PySem.Draws prog w A it fp n P St){k:Nat}(x:St k h)(hc:c ∉ fp)(sb:Heap.SameBut c h h'):St k h':=
 D.frame _ _ _ x λb hb o e=>(sb.2 b λz=>hc (z▸hb)).trans e
def NW(z TO i1 i2:Addr)(h h':Heap):Prop:=∀c o,c≠z→c≠TO→c≠i1→c≠i2→h.get? c=some o→h'.get? c=some o
set_option maxHeartbeats 2000000 in
theorem Zb(D1:PySem.Draws prog w A i1 rh n1 P1 S1)(D2:PySem.Draws prog w A i2 rj n2 P2 S2)(D:Ha z TI TO i1 i2 rh rj)
  (hz:IsZip s.heap z TI TO .none) (hT:IsPair s.heap TI (.ref i1) (.ref i2)) (hO:IsPair s.heap TO a b) (h1:S1 k s.heap) (h2:S2 k s.heap) (l1:k<n1) (l2:k<n2)
  (q:∀x y h' t,P1 k x→P2 k y→IsZip h' z TI TO (rawInt s.heap.objs.size)→IsPair h' TO x y→S1 (k+1) h'→S2 (k+1) h'→IsPair h' s.heap.objs.size x y→h'.objs.size=s.heap.objs.size+1→NW z TO i1 i2 s.heap h'→
   Q (.ref s.heap.objs.size) { s with heap:=h',toks:=t }):wpAny (model prog w) A (Builtin.«zip.__next__» ⟨[.ref z],[]⟩) (λfin s'=>∃v,fin=.done (.ret v)∧Q v s') E s:=by
 obtain⟨h,g,dr,tk,os⟩:=s;have yF:h.get? z=some _:=hz;have Zc:h.get? TI=some _:=hT;wp_walk using wpAny_onRaise,D1.item k _ _ _ l1
 ·exact Draws.but D1 h1 D.fz.1 (pZ ..)
 intro x ha ta p1 sa ka;replace ka:Heap.SameBut i1 (h.update z _) ha:=ka;have zz:=pZ h z (Obj.mapFields λvs=>vs.setIfInBounds 0 Value.ellipsis);have BJ:ha.get? TO=some _:=((ka.2 TO D.NU).trans (zz.2 TO D.sS)).trans hO;have tt:=pZ ha TO (Obj.mapSeq λvs=>vs.setIfInBounds 0 x);wp_walk using wpAny_onRaise,wpAny_updateSeq BJ rfl,D2.item k _ _ _ l2
 all_goals try exact Draws.but D2 (Draws.but D2 (Draws.but D2 h2 D.fz.2 zz) D.f1 ka) D.fO.2 tt
 intro y hb tb p2 sb kb;replace kb:Heap.SameBut i2 (ha.update TO _) hb:=kb;have NX:hb.get? TO=some { cls:=.type "tuple",data:=.seq #[x,b] }:=by
  rw[kb.2 TO D.Za,vC _ BJ rfl];simp[Obj.mapSeq]
 have Zd:hb.get? z=some { cls:=.type "zip",dict:=none,data:=.fields #[.ellipsis,.bool false,.bool false,.ref TI,.ref TO],slots:=#[] }:=by
  rw[kb.2 z D.Hd.symm,tt.2 z D.sS.symm,ka.2 z D.BI.symm,vC _ yF rfl];simp[Obj.mapFields]
 have nz:TO≠z:=D.sS;wp_walk using wpAny_updateSeq NX rfl
 refine⟨_,rfl,?_⟩;dsimp only;have sz:hb.objs.size=h.objs.size:=by rw[kb.1,tt.1,ka.1,zz.1]
 have uu:=pZ hb TO (Obj.mapSeq λvs=>vs.setIfInBounds (0+1) y);have NY:(hb.update TO (Obj.mapSeq λvs=>vs.setIfInBounds (0+1) y)).get? TO=some { cls:=.type "tuple",data:=.seq #[x,y] }:=by
  rw[vC _ NX rfl];simp[Obj.mapSeq]
 have ex:(#[x,b].setIfInBounds (0+1) y).toList.toArray=#[x,y]:=by simp
 rw[ex];generalize hb.update TO (Obj.mapSeq λvs=>vs.setIfInBounds (0+1) y)=hc at uu NY ⊢;have Ze:hc.objs.size=h.objs.size:=uu.1.trans sz;have new:=iA hc (o:={ cls:=.type "tuple",data:=.seq #[x,y] }) rfl;have He:=oS hc { cls:=.type "tuple",data:=.seq #[x,y] };have old:∀c o,hc.get? c=some o→(hc.push { cls:=.type "tuple",data:=.seq #[x,y] }).get? c=some o:=λc o e=>dS _ e;rw[Ze]at new He ⊢;generalize hc.push { cls:=.type "tuple",data:=.seq #[x,y] }=hp at new He old ⊢;have Zf:=old z _ ((uu.2 z D.sS.symm).trans Zd);have v1:=pZ hp z (Obj.mapFields λvs=>vs.setIfInBounds 0 (rawInt h.objs.size));have v2:=pZ (hp.update z (Obj.mapFields λvs=>vs.setIfInBounds 0 (rawInt h.objs.size))) z (Obj.mapFields λvs=>vs.setIfInBounds 1 (Value.bool false));have NZ:((hp.update z (Obj.mapFields λvs=>vs.setIfInBounds 0 (rawInt h.objs.size))).update z (Obj.mapFields λvs=>vs.setIfInBounds 1 (Value.bool false))).get? z=some { cls:=.type "zip",dict:=none,data:=.fields #[rawInt h.objs.size,.bool false,.bool false,.ref TI,.ref TO],slots:=#[] }:=by
  rw[vC _ (vC _ Zf rfl) rfl];simp[Obj.mapFields]
 have fwd:∀c o,c≠z→hc.get? c=some o→((hp.update z (Obj.mapFields λvs=>vs.setIfInBounds 0 (rawInt h.objs.size))).update z (Obj.mapFields λvs=>vs.setIfInBounds 1 (Value.bool false))).get? c=some o:=λc o ne e=>((v2.2 c ne).trans (v1.2 c ne)).trans (old c o e);have N0:=(v2.1.trans v1.1).trans He;have N1:=((v2.2 h.objs.size (Nat.ne_of_gt (dX yF))).trans (v1.2 h.objs.size (Nat.ne_of_gt (dX yF)))).trans new;generalize (hp.update z (Obj.mapFields λvs=>vs.setIfInBounds 0 (rawInt h.objs.size))).update z (Obj.mapFields λvs=>vs.setIfInBounds 1 (Value.bool false))=hF at NZ fwd N0 N1 ⊢;refine q x y hF tb p1 p2 NZ (fwd TO _ D.sS NY) (D1.frame _ _ _ (Draws.but D1 (Draws.but D1 (Draws.but D1 sa D.fO.1 tt) D.f2 kb) D.fO.1 uu) λc hm o e=>fwd c o (λj=>D.fz.1 (j▸hm)) e)
  (D2.frame _ _ _ (Draws.but D2 sb D.fO.2 uu) λc hm o e=>fwd c o (λj=>D.fz.2 (j▸hm)) e) N1 N0 λc o n1 n2 n3 n4 e=>fwd c o n1 ?_
 rw[uu.2 c n2,kb.2 c n4,tt.2 c n2,ka.2 c n3,zz.2 c n1];exact e
end
section
variable{prog:Program}{w:World}{A:Around}{E:QV}{z TI TO i1 i2:Addr}{rh rj:List Addr}{n1 n2 k:Nat}{P1 P2:Nat→Value→Prop}{S1 S2:Nat→Heap→Prop}{a b:Value}
set_option maxHeartbeats 2000000 in
theorem Zg{Q:Fin→Shared→Prop}(D1:PySem.Draws prog w A i1 rh n1 P1 S1)(D2:PySem.Draws prog w A i2 rj n2 P2 S2)(D:Ha z TI TO i1 i2 rh rj)
  (hz:IsZip s.heap z TI TO .none) (hT:IsPair s.heap TI (.ref i1) (.ref i2)) (hO:IsPair s.heap TO a b) (h1:S1 k s.heap) (h2:S2 k s.heap) (Zh:k=n1∨(k<n1∧k=n2))
  (q:∀h' e t,NW z TO i1 i2 s.heap h'→(∃o,h'.get? e=some o∧o.cls=.type "StopIteration")→E (.ref e) { s with heap:=h',toks:=t }):wpAny (model prog w) A (Builtin.«zip.__next__» ⟨[.ref z],[]⟩) Q E s:=by
 obtain⟨h,g,dr,tk,os⟩:=s;have yF:h.get? z=some _:=hz;have Zc:h.get? TI=some _:=hT;have zz:=pZ h z (Obj.mapFields λvs=>vs.setIfInBounds 0 Value.ellipsis);have N2:(h.update z (Obj.mapFields λvs=>vs.setIfInBounds 0 Value.ellipsis)).get? z=some { cls:=.type "zip",dict:=none,data:=.fields #[.ellipsis,.bool false,.bool false,.ref TI,.ref TO],slots:=#[] }:=by
  rw[vC _ yF rfl];simp[Obj.mapFields]
 rcases Zh with rfl|⟨l1,rfl⟩
 ·wp_walk using wpAny_onRaise,D1.done
  all_goals try exact Draws.but D1 h1 D.fz.1 zz
  intro hx e kx ⟨oe,xe,xc⟩;have Hf:hx.get? z=some _:=kx z _ D.BI.symm N2;have Hg:e≠z:=λy=>by
   subst y;rw[Hf]at xe;cases xe;simp at xc
  wp_walk
  have vv:=pZ hx z (Obj.mapFields λvs=>vs.setIfInBounds 0 Value.none);exact q _ e _ (λc o m1 m2 m3 m4 y=>(vv.2 c m1).trans (kx c o m3 ((zz.2 c m1).trans y))) ⟨oe,(vv.2 e Hg).trans xe,xc⟩
 ·wp_walk using wpAny_onRaise,D1.item k _ _ _ l1
  all_goals try exact Draws.but D1 h1 D.fz.1 zz
  intro x ha ta p1 sa ka;replace ka:Heap.SameBut i1 (h.update z _) ha:=ka;have BJ:ha.get? TO=some _:=((ka.2 TO D.NU).trans (zz.2 TO D.sS)).trans hO;have tt:=pZ ha TO (Obj.mapSeq λvs=>vs.setIfInBounds 0 x);wp_walk using wpAny_onRaise,wpAny_updateSeq BJ rfl,D2.done
  all_goals try exact Draws.but D2 (Draws.but D2 (Draws.but D2 h2 D.fz.2 zz) D.f1 ka) D.fO.2 tt
  intro hx e kx ⟨oe,xe,xc⟩;replace kx:Heap.ExtBut i2 (ha.update TO _) hx:=kx;have Hf:hx.get? z=some _:=kx z _ D.Hd.symm ((tt.2 z D.sS.symm).trans ((ka.2 z D.BI.symm).trans N2));have Hg:e≠z:=λy=>by
   subst y;rw[Hf]at xe;cases xe;simp at xc
  wp_walk
  have vv:=pZ hx z (Obj.mapFields λvs=>vs.setIfInBounds 0 Value.none);exact q _ e _ (λc o m1 m2 m3 m4 y=>(vv.2 c m1).trans (kx c o m4 ((tt.2 c m2).trans ((ka.2 c m3).trans ((zz.2 c m1).trans y))))) ⟨oe,(vv.2 e Hg).trans xe,xc⟩
end
def Sq(b:Bool)(K:Frag)(H:Hp)(a:Addr)(xs:List V):Prop:=match b with
 |true=>dq K H a xs
 |false=>bf K H a xs
theorem Inv.sq{σ:St}(I:Inv X aI σ H s)(h:Sq b X.K H a xs):∃its:List Value,Vals xs its∧jS b s.heap a its.toArray∧xs.length≤sizeLine:=by
 cases b with
 |true=>
  obtain⟨its,rv,p,hz⟩:=I.list h;obtain⟨o,eo,ec,n,ed⟩:=p.isList;exact⟨its,rv,⟨o,n,eo,ec,ed⟩,hz⟩
 |false=>
  obtain⟨its,rv,⟨o,eo,ec,n,ed⟩,hz⟩:=I.tuple h;exact⟨its,rv,⟨o,n,eo,ec,ed⟩,hz⟩
theorem Inv.Hh{σ:St}{ys:List V}(I:Inv X aI σ H s)(h:Sq b X.K H a xs)(h':Sq b X.K H a ys):xs=ys:=by
 cases b with
 |true=>exact I.MH h h'
 |false=>exact I.MI h h'
theorem iW.up(x:iW b h it a i)(k:∀o,h.get? it=some o→h'.get? it=some o):iW b h' it a i:=k _ x
theorem iW.obj(x:iW b h it a i):∃o,h.get? it=some o∧∀v,o.data≠.cell v:=⟨_,x,λv z=>by cases z⟩
theorem jS.obj(x:jS b h a its):∃o,h.get? a=some o:=let ⟨o,_,e,_⟩:=x;⟨o,e⟩
section
variable{X:Cx}{aI:List (Addr×Obj)}{σ:St}{H:Hp}{s:Shared}{h':Heap}
theorem Inv.BK{t':Nat}{ch:List Addr}(I:Inv X aI σ H s)(k:∀b o,b ∉ ch→s.heap.get? b=some o→h'.get? b=some o)(hf:∀b∈ch,jA X aI H b):Inv X aI σ H { s with heap:=h',toks:=t' }:=by
 have yi:∀b u,H b=some u→b ∉ ch:=λb u e z=>by rw[(hf b z).1]at e;cases e
 refine I.step (g':=s.gens) (d':=s.drawn) (ch:=ch) (λb hb=>⟨(hf b hb).2.2.2.1,(hf b hb).2.1,(hf b hb).2.2.2.2.1,(hf b hb).2.2.2.2.2⟩) (λb o _ _ hc e _=>k b o hc e) (λb o _ _ hc e _=>⟨o.slots,k b o hc e⟩) (λ_ _ _ _ n=>n)
  (λb o hc e=>⟨o,k b o hc e⟩) (λ_ _ e=>e) (λ_ _ _ e=>e) (λb ps e=>⟨#[],by rw[e];simp⟩) (λm hm=>?_) (λb u e=>?_) I.bare
 ·obtain⟨o,es,ep,ho,r⟩:=hm;exact⟨o,es,ep,k _ o (λz=>(hf _ z).2.1 rfl) ho,r⟩
 ·refine(I.bK b u e).qQ (λc v hc q=>k c v ?_ q) (λ_ q=>q) λ_ _ q=>q;rcases hc with z|z
  ·rw[z];exact yi b u e
  ·exact yi c _ z
theorem Inv.Hi{o:HO}(I:Inv X aI σ H s)(f:jA X aI H p)(new:fu X.prog X.w (upd H p o) s.heap p o):Inv X aI σ (upd H p o) s:=by
 have hp:=f.1;refine I.step (g':=s.gens) (d':=s.drawn) (t':=s.toks) (h':=s.heap) (ch:=[p]) (λb hb=>?_) (λb o _ _ _ e _=>e) (λb o _ _ _ e _=>⟨o.slots,e⟩) (λb o hc e n=>?_)
  (λb o _ e=>⟨o,e⟩) (λb xs e=>by rw[cG (gN e hp)];exact e) (λb o u e=>by rw[cG (gN e hp)];exact e) (λb ps e=>⟨#[],by rw[cG (gN e hp),e];simp⟩) (λm hm=>hm) (λb u e=>?_) I.bare
 ·have e:=dP.mp hb;subst e;exact⟨f.2.2.2.1,f.2.1,f.2.2.2.2.1,f.2.2.2.2.2⟩
 ·rw[cG (λz=>hc (by rw[z];exact dP.mpr rfl))];exact n
 ·by_cases hb:b=p
  ·subst hb;rw[aV]at e;cases e;exact new
  ·rw[cG hb]at e;exact(I.bK b u e).qQ (λc v _ q=>q) (λc q=>by rw[cG (gN q hp)];exact q) λc xs q=>by rw[cG (gN q hp)];exact q
end
section
variable{prog:Program}{w:World}{A:Around}{E:QV}{s:Shared}
theorem N3{T id:String}{Q:Option Value→Shared→Prop}(ty:s.TypeIs v T)(sl:Slot T (Str.ofString "__next__") id)
  (h:wpAny (model prog w) A (call (.builtin id) [v]) (λx s'=>Q (some x) s') (λe s'=>∃c o,e=.ref c∧s'.heap.get? c=some o∧o.cls=.type "StopIteration"∧Q none s') s):wpAny (model prog w) A (pyNext v) Q E s:=by
 unfold pyNext;refine aj (wpAny_attempt (ax ty sl (ag h (λx s' y=>aq y) λe s' y=>?_)));obtain⟨c,o,rfl,e1,e2,y⟩:=y;exact aj (wpAny_isInstance (b:=true) ⟨o,e1,e2⟩ isSubtype_stop (aq y))
theorem v7(b:Bool)(e:jS b s.heap a its)(q:Q (.ref s.heap.objs.size) { s with heap:=s.heap.push (lI b a 0) }):wpAny (model prog w) A (pyIter (.ref a)) Q E s:=by
 obtain⟨o,n,eo,ec,ed⟩:=e;cases b
 ·exact wpAny_pyIter_tuple ⟨o,eo,ec,n,ed⟩ q
 ·exact wpAny_pyIter_list ⟨o,eo,ec,n,ed⟩ q
end
structure N4(b1 b2:Bool)(l1 l2:Addr)(h h':Heap):Prop where
 zip:IsZip h' (h.objs.size+4) (h.objs.size+2) (h.objs.size+3) .none
 Zi:IsPair h' (h.objs.size+2) (.ref h.objs.size) (.ref (h.objs.size+1))
 out:IsPair h' (h.objs.size+3) .none .none
 one:iW b1 h' h.objs.size l1 0
 two:iW b2 h' (h.objs.size+1) l2 0
 old:∀c o,h.get? c=some o→h'.get? c=some o
theorem jS.up(x:jS b h a its)(k:∀o,h.get? a=some o→h'.get? a=some o):jS b h' a its:=by
 obtain⟨o,n,eo,r⟩:=x;exact⟨o,n,k o eo,r⟩
theorem Zj(b1 b2:Bool)(l1 l2:Addr)(xs ys:Array Value) :
  Meets (Builtin.«zip.__new__» ⟨[.type "zip",.ref l1,.ref l2],[]⟩) (λ_ R s=>(jS b1 s.heap l1 xs∧jS b2 s.heap l2 ys)∧
   ∀h',N4 b1 b2 l1 l2 s.heap h'→R (.ok (.ret (.ref (s.heap.objs.size+4)))) { s with heap:=h' }):=
 .of_wp λprog w A R s hyp=>by
  obtain⟨h,g,dr,tk,os⟩:=s;obtain⟨⟨q1,q2⟩,fin⟩:=hyp;have sub:=sub_zip;have Zk:jS b2 (Shared.mk (h.push (lI b1 l1 0)) g dr tk os).heap l2 ys:=q2.up λo e=>dS _ e;wp_walk using v7 b1 q1,v7 b2 Zk
  dsimp only;have z1:=oS h (lI b1 l1 0);generalize e1:h.push (lI b1 l1 0)=ha at *;have z2:=oS ha (lI b2 l2 0);generalize e2:ha.push (lI b2 l2 0)=hb at *;generalize e3:hb.push _=hc;have z3:hc.objs.size=hb.objs.size+1:=by rw[← e3];exact oS ..
  generalize e4:hc.push _=hd;have z4:hd.objs.size=hc.objs.size+1:=by rw[← e4];exact oS ..
  rw[z1]at z2;rw[z2]at z3;rw[z3]at z4;have a1:ha.get? h.objs.size=some (lI b1 l1 0):=by rw[← e1];exact iA _ rfl
  have a2:hb.get? (h.objs.size+1)=some (lI b2 l2 0):=by rw[← e2,← z1];exact iA _ rfl
  have a3:hc.get? (h.objs.size+2)=some { cls:=.type "tuple",data:=.seq #[.ref h.objs.size,.ref (h.objs.size+1)] }:=by
   rw[← e3,← z2,← z1];exact iA _ rfl
  have a4:hd.get? (h.objs.size+3)=some { cls:=.type "tuple",data:=.seq #[.none,.none] }:=by
   rw[← e4,← z3];exact iA _ rfl
  have u1:∀c o,h.get? c=some o→ha.get? c=some o:=λc o y=>by rw[← e1];exact dS _ y
  have u2:∀c o,ha.get? c=some o→hb.get? c=some o:=λc o y=>by rw[← e2];exact dS _ y
  have u3:∀c o,hb.get? c=some o→hc.get? c=some o:=λc o y=>by rw[← e3];exact dS _ y
  have u4:∀c o,hc.get? c=some o→hd.get? c=some o:=λc o y=>by rw[← e4];exact dS _ y
  have u5:∀(r:Obj) c o,hd.get? c=some o→(hd.push r).get? c=some o:=λr c o y=>dS _ y;rw[z2,z3,z4];refine⟨_,rfl,fin _ ⟨?_,u5 _ _ _ (u4 _ _ a3),u5 _ _ _ a4,u5 _ _ _ (u4 _ _ (u3 _ _ (u2 _ _ a1))),u5 _ _ _ (u4 _ _ (u3 _ _ a2)),λc o y=>u5 _ _ _ (u4 _ _ (u3 _ _ (u2 _ _ (u1 _ _ y))))⟩⟩;rw[← z4];exact iA _ rfl
theorem Zl(b:Bool)(l:Addr)(xs:Array Value)(o:Obj)(n:Nat)(ec:o.cls=.type (NR b))(ed:o.data=.seq xs n) :
  Meets (Builtin.«enumerate.__new__» ⟨[.type "enumerate",.ref l],[]⟩) (λ_ R s=>s.heap.get? l=some o∧
   ∀h',IsEnum h' (s.heap.objs.size+1) s.heap.objs.size 0 .none→iW b h' s.heap.objs.size l 0→(∀c o,s.heap.get? c=some o→h'.get? c=some o)→R (.ok (.ret (.ref (s.heap.objs.size+1)))) { s with heap:=h' }):=
 .of_wp λprog w A R s hyp=>by
  obtain⟨h,g,dr,tk,os⟩:=s;obtain⟨e1,fin⟩:=hyp;have sub:=sub_enumerate;have q1:jS b (Shared.mk h g dr tk os).heap l xs:=⟨o,n,e1,ec,ed⟩;have done:∀(e:Addr)(r:Obj),r={ cls:=.type "enumerate",data:=.fields #[.none,.bool false,.ref h.objs.size,rawInt 0,.none,.none] }→e=h.objs.size+1→R (.ok (.ret (.ref e))) (Shared.mk ((h.push (lI b l 0)).push r) g dr tk os):=by
   rintro e r rfl rfl;refine fin _ ?_ (dS _ (iA _ rfl)) λc o y=>dS _ (dS _ y);have z1:=oS h (lI b l 0);show Heap.get? _ (h.objs.size+1)=_;rw[← z1];exact iA _ rfl
  wp_walk using v7 b q1
  refine wpAny_stack_any λst=>?_;wp_walk
  split
  ·rename_i c _ _ _ _ _
   rcases Bool.eq_false_or_eq_true (c==Value.type "enumerate")with y|y
   ·rw[y];wp_walk using v7 b q1
    exact⟨_,rfl,done _ _ rfl (oS ..)⟩
   ·rw[y];wp_walk using v7 b q1
    exact⟨_,rfl,done _ _ rfl (oS ..)⟩
  ·wp_walk using v7 b q1
   exact⟨_,rfl,done _ _ rfl (oS ..)⟩
section
variable{prog:Program}{w:World}{A:Around}{E:QV}{s:Shared}
theorem Zm(b1 b2:Bool){l1 l2:Addr}{xs ys:Array Value}(q1:jS b1 s.heap l1 xs)(q2:jS b2 s.heap l2 ys)
  (q:∀h',N4 b1 b2 l1 l2 s.heap h'→Q (.ref (s.heap.objs.size+4)) { s with heap:=h' }):wpAny (model prog w) A (call (.type "zip") [.ref l1,.ref l2]) Q E s:=
 callType_new F.called_zip (by decide) (F.typeCall_zip_2 _ _) (F.newCall_zip_2 _ _) (λv=>F.args_object_init_3 v _ _) F.entry_zip_new (Zj b1 b2 l1 l2 xs ys) ⟨⟨q1,q2⟩,λh' N=>⟨⟨_,N.zip,rfl⟩,q h' N⟩⟩
theorem Zn(b:Bool){l:Addr}{xs:Array Value}(q1:jS b s.heap l xs)
  (q:∀h',IsEnum h' (s.heap.objs.size+1) s.heap.objs.size 0 .none→iW b h' s.heap.objs.size l 0→(∀c o,s.heap.get? c=some o→h'.get? c=some o)→Q (.ref (s.heap.objs.size+1)) { s with heap:=h' }):wpAny (model prog w) A (call (.type "enumerate") [.ref l]) Q E s:=by
 obtain⟨o,n,eo,ec,ed⟩:=q1;exact callType_new F.called_enumerate (by decide) (F.typeCall_enumerate_1 _) (F.newCall_enumerate_1 _) (λv=>F.args_object_init_2 v _) F.entry_enumerate_new (Zl b l xs o n ec ed) ⟨eo,λh' a1 a2 a3=>⟨⟨_,a1,rfl⟩,q h' a1 a2 a3⟩⟩
end
noncomputable def v8(K:Frag)(b1 b2:Bool)(l1 l2:Addr):It:=
 ⟨λi H=>∃xs ys x y,Sq b1 K H l1 xs∧Sq b2 K H l2 ys∧xs[i]?=some x∧ys[i]?=some y,
   λi H v H'=>∃p x y,v=.ref p∧H p=none∧H'=upd H p (.tup [x,y])∧(∀xs,Sq b1 K H l1 xs→xs[i]?=some x)∧∀ys,Sq b2 K H l2 ys→ys[i]?=some y,
   λi H=>∃xs ys,Sq b1 K H l1 xs∧Sq b2 K H l2 ys∧(i=xs.length∨(i<xs.length∧i=ys.length))⟩
noncomputable def Hj(K:Frag)(b:Bool)(l:Addr):It:=
 ⟨λi H=>∃xs x,Sq b K H l xs∧xs[i]?=some x,
   λi H v H'=>∃p x,v=.ref p∧H p=none∧H'=upd H p (.tup [.int i,x])∧∀xs,Sq b K H l xs→xs[i]?=some x,
   λi H=>∃xs,Sq b K H l xs∧i=xs.length⟩
theorem N5{P:Program}{w:World}{x y:V}{u:Value}(hp:IsPair h p u v)(rx:RelV x u)(ry:RelV y v):fu P w H h p (.tup [x,y]):=
 ⟨by show 2≤sizeLine;decide,[u,v],.cons rx (.cons ry .nil),_,hp,rfl,_,rfl⟩
structure Zo(z TI TO i1 i2 l1 l2:Addr):Prop where
 sep:Ha z TI TO i1 i2 [i1,l1] [i2,l2]
 n1:l1≠i1
 n2:l2≠i2
theorem Zp{P:Program}{w:World}{K:Frag}{pt:Pos}(b1 b2:Bool){z TI TO i1 i2 l1 l2:Addr}(D:Zo z TI TO i1 i2 l1 l2) :
  Turn P w K (.Tuple es kt pt) (v8 K b1 b2 l1 l2) [z,TI,TO,i1,i2] z (λi h=>IsZip h z TI TO .none∧IsPair h TI (.ref i1) (.ref i2)∧(∃a b,IsPair h TO a b)∧iW b1 h i1 l1 i∧iW b2 h i2 l2 i) where
 mem:=by simp
 obj:=λi h st b hb=>by
  obtain⟨hz,rl,⟨a,c,sT⟩,h1,h2⟩:=st;simp only[eW,or_false,xZ]at hb;rcases hb with rfl|rfl|rfl|rfl|rfl
  ·exact⟨_,hz,λv q=>by cases q⟩
  ·exact⟨_,rl,λv q=>by cases q⟩
  ·exact⟨_,sT,λv q=>by cases q⟩
  ·exact h1.obj
  ·exact h2.obj
 keep:=λi h h' st k=>by
  obtain⟨hz,rl,⟨a,c,sT⟩,h1,h2⟩:=st;exact⟨k z (by simp) _ hz,k TI (by simp) _ rl,⟨a,c,k TO (by simp) _ sT⟩,h1.up λo e=>k i1 (by simp) o e,h2.up λo e=>k i2 (by simp) o e⟩
 item:=by
  intro X hP hw hK hc i aI s σ H E I hf st hg;subst hP hw hK;obtain⟨hz,rl,⟨ta,tb,sT⟩,h1,h2⟩:=st;obtain⟨xs,ys,x,y,gG,gH,hx,hy⟩:=hg;obtain⟨l5,rm,p1,yG⟩:=I.sq gG;obtain⟨v9,BL,p2,N6⟩:=I.sq gH;obtain⟨u,hu,ru⟩:=rm.get hx;obtain⟨v,hv,rv⟩:=BL.get hy;have lx:i<l5.toArray.size:=by rw[dR];exact(dB.mp hu).1
  have ly:i<v9.toArray.size:=by rw[dR];exact(dB.mp hv).1
  have hh:X.A.in1.handled=none:=I.ok.hd hc;have Zq:z<s.heap.objs.size:=dX hz;refine N3 ⟨_,hz,rfl⟩ F.slot_zip_next (ay F.slot_zip_next ⟨_,hz,rfl⟩ F.entry_zip_next (Zb (vZ b1 hh i1 l1 D.n1 l5.toArray) (vZ b2 hh i2 l2 D.n2 v9.toArray) D.sep hz rl sT ⟨h1,p1⟩ ⟨h2,p2⟩ lx ly λu' v' h' tk e1 e2 a1 a2 a3 a4 a5 a6 hk=>?_) (F.args_zip_next_1 _));have eu:u'=u:=by
   have yH:l5.toArray[i]?=some u':=e1;rw[List.getElem?_toArray,hu]at yH;exact(c8 yH).symm
  have ev:v'=v:=by
   have N7:v9.toArray[i]?=some v':=e2;rw[List.getElem?_toArray,hv]at N7;exact(c8 N7).symm
  subst eu ev;refine⟨_,rfl,wpAny_letOwnedTupleGo_zip a1 λql Zr sb=>?_⟩;have iT:∀b o,b ∉ [z,TI,TO,i1,i2]→s.heap.get? b=some o→ql.get? b=some o:=λb o hb e=>by
   have:b≠z∧b≠TI∧b≠TO∧b≠i1∧b≠i2:=by simpa using hb
   exact(sb.2 b this.1).trans (hk b o this.1 this.2.2.1 this.2.2.2.1 this.2.2.2.2 e)
  have I1:Inv X aI σ H { s with heap:=ql,toks:=tk }:=I.BK iT hf;have Zs:s.heap.objs.size≠z:=Nat.ne_of_gt Zq;have uK:IsPair ql s.heap.objs.size u' v':=(sb.2 _ Zs).trans a5;have fp:jA X aI H s.heap.objs.size:=I.o4 (cu _) (I.bK.fresh (cu _));have I2:=I1.Hi (o:=.tup [x,y]) fp (N5 uK ru rv);have up:∀b,b≠z→∀o,h'.get? b=some o→ql.get? b=some o:=λb hb o e=>(sb.2 b hb).trans e;refine⟨.ref s.heap.objs.size,_,I2,rfl,⟨_,x,y,rfl,fp.1,rfl,λZt q=>by rw[I.Hh q gG];exact hx,λys' q=>by rw[I.Hh q gH];exact hy⟩,⟨Zr,up _ D.sep.NT _ (hk _ _ D.sep.NT D.sep.Y7 D.sep.Y8 D.sep.Y9 rl),⟨_,_,up _ D.sep.sS _ a2⟩,a3.1.up λo e=>up _ D.sep.BI o e,a4.1.up λo e=>up _ D.sep.Hd o e⟩,λb hb=>?_⟩;rw[cG]
  ·exact(hf b hb).1
  ·obtain⟨o,e⟩:∃o,s.heap.get? b=some o:=by
    simp only[eW,or_false,xZ]at hb;rcases hb with rfl|rfl|rfl|rfl|rfl
    ·exact⟨_,hz⟩
    ·exact⟨_,rl⟩
    ·exact⟨_,sT⟩
    ·exact⟨_,h1.obj.choose_spec.1⟩
    ·exact⟨_,h2.obj.choose_spec.1⟩
   exact iw (dX e)
 done:=by
  intro X hP hw hK hc i aI s σ H E I hf st hg;subst hP hw hK;obtain⟨hz,rl,⟨ta,tb,sT⟩,h1,h2⟩:=st;obtain⟨xs,ys,gG,gH,hx⟩:=hg;obtain⟨l5,rm,p1,yG⟩:=I.sq gG;obtain⟨v9,BL,p2,N6⟩:=I.sq gH;have hh:X.A.in1.handled=none:=I.ok.hd hc;have Zu:=rm.length;have ll2:=BL.length;refine N3 ⟨_,hz,rfl⟩ F.slot_zip_next (ay F.slot_zip_next ⟨_,hz,rfl⟩ F.entry_zip_next (Zg (vZ b1 hh i1 l1 D.n1 l5.toArray) (vZ b2 hh i2 l2 D.n2 v9.toArray) D.sep hz rl sT ⟨h1,p1⟩ ⟨h2,p2⟩ ?_ λh' e tk hk ⟨o,e1,e2⟩=>⟨e,o,rfl,e1,e2,?_⟩) (F.args_zip_next_1 _))
  ·rw[dR,dR];lia
  ·refine⟨rfl,I.BK (λb o hb y=>?_) hf⟩
   have:b≠z∧b≠TI∧b≠TO∧b≠i1∧b≠i2:=by simpa using hb
   exact hk b o this.1 this.2.2.1 this.2.2.2.1 this.2.2.2.2 y
 self:=λ_ _ _ _ _ st h=>wpAny_pyIter_zip st.1 h
theorem Zv{e:Addr}(x:IsEnum h e it ((i:Int)+1) v):IsEnum h e it (((i+1:Nat)):Int) v:=x
theorem jT(i j:Nat)(h:i≠j:=by decide):@Ne Addr (n+i) (n+j):=λz=>h (Nat.add_left_cancel z)
theorem sX{l:Addr}(i:Nat)(h:l<n):@Ne Addr (n+i) l:=Nat.ne_of_gt (jo h (Nat.le_add_right n i))
theorem wc{b:Addr}(h1:a≠b)(h2:a≠c):a ∉ [b,c]:=by simp[h1,h2]
theorem Zw{P:Program}{w:World}{K:Frag}{pt:Pos}(b:Bool){e l:Addr}(Hk:e≠it)(iX:l≠e)(n6:l≠it) :
  Turn P w K (.Tuple es kt pt) (Hj K b l) [e,it] e (λi h=>(∃old,IsEnum h e it i old)∧iW b h it l i) where
 mem:=by simp
 obj:=λi h st c hc=>by
  obtain⟨⟨old,he⟩,h1⟩:=st;simp only[eW,xZ,or_false]at hc;rcases hc with rfl|rfl
  ·exact⟨_,he,λv q=>by cases q⟩
  ·exact h1.obj
 keep:=λi h h' st k=>by
  obtain⟨⟨old,he⟩,h1⟩:=st;exact⟨⟨old,k e (by simp) _ he⟩,h1.up λo q=>k it (by simp) o q⟩
 item:=by
  intro X hP hw hK hc i aI s σ H E I hf st hg;subst hP hw hK;obtain⟨⟨old,he⟩,h1⟩:=st;obtain⟨xs,x,hq,hx⟩:=hg;obtain⟨l5,rm,p1,yG⟩:=I.sq hq;obtain⟨u,hu,ru⟩:=rm.get hx;have lx:i<l5.toArray.size:=by rw[dR];exact(dB.mp hu).1
  have hh:X.A.in1.handled=none:=I.ok.hd hc;have Zx:e<s.heap.objs.size:=dX he;refine wpAny_pyNext_enum_itemD (vZ b hh it l n6 l5.toArray) he ⟨h1,p1⟩ lx Hk (by simp;exact⟨Hk,iX.symm⟩) λu' h' tk e1 a1 a2 a3 a4 hk=>?_;have eu:u'=u:=by
   have yH:l5.toArray[i]?=some u':=e1;rw[List.getElem?_toArray,hu]at yH;exact(c8 yH).symm
  subst eu;refine⟨_,rfl,wpAny_letOwnedTupleGo_enum a1 λql Zy sb=>?_⟩;have iT:∀c o,c ∉ [e,it]→s.heap.get? c=some o→ql.get? c=some o:=λc o hc q=>by
   have:c≠e∧c≠it:=by simpa using hc
   exact(sb.2 c this.1).trans (hk c o this.1 this.2 q)
  have I1:Inv X aI σ H { s with heap:=ql,toks:=tk+1 }:=I.BK iT hf;have Zz:s.heap.objs.size≠e:=Nat.ne_of_gt Zx;have uK:IsPair ql s.heap.objs.size (.int i tk) u':=(sb.2 _ Zz).trans a3;have fp:jA X aI H s.heap.objs.size:=I.o4 (cu _) (I.bK.fresh (cu _));have I2:=I1.Hi (o:=.tup [.int i,x]) fp (N5 uK ⟨tk,rfl⟩ ru);refine⟨.ref s.heap.objs.size,_,I2,rfl,⟨_,x,rfl,fp.1,rfl,λZt q=>by rw[I.Hh q hq];exact hx⟩,⟨⟨u',Zv Zy⟩,a2.1.up λo q=>(sb.2 it Hk.symm).trans q⟩,λc hc=>?_⟩;rw[cG]
  ·exact(hf c hc).1
  ·obtain⟨o,q⟩:∃o,s.heap.get? c=some o:=by
    simp only[eW,xZ,or_false]at hc;rcases hc with rfl|rfl
    ·exact⟨_,he⟩
    ·exact⟨_,h1.obj.choose_spec.1⟩
   exact iw (dX q)
 done:=by
  intro X hP hw hK hc i aI s σ H E I hf st hg;subst hP hw hK;obtain⟨⟨old,he⟩,h1⟩:=st;obtain⟨xs,hq,hx⟩:=hg;obtain⟨l5,rm,p1,yG⟩:=I.sq hq;have hh:X.A.in1.handled=none:=I.ok.hd hc;have Zu:=rm.length;have hn:i=l5.toArray.size:=by rw[dR];lia
  refine wpAny_pyNext_enum_endD (vZ b hh it l n6 l5.toArray) he (hn▸⟨h1,p1⟩) λh' hk=>?_;refine⟨rfl,I.BK (t':=s.toks) (λc o hc q=>?_) hf⟩
  have:c≠e∧c≠it:=by simpa using hc
  exact hk c o this.2 q
 self:=λ_ _ _ _ _ st h=>wpAny_pyIter_enum st.1.choose_spec h
theorem ZA:bootBuiltins "zip"=some (.type "zip"):=by decide +kernel
section
variable{X:Cx}
def N8(K:Frag)(b1 b2:Bool)(t:TA):TI:=λσ H R=>t σ H λvs H1=>∃l1 l2,vs=[.ref l1,.ref l2]∧(∃xs,Sq b1 K H1 l1 xs)∧(∃ys,Sq b2 K H1 l2 ys)∧R (v8 K b1 b2 l1 l2) H1
def N9(K:Frag)(b:Bool)(t:TA):TI:=λσ H R=>t σ H λvs H1=>∃l,vs=[.ref l]∧(∃xs,Sq b K H1 l xs)∧R (Hj K b l) H1
theorem ZC(b1 b2:Bool){a b:Expr}{ta:TA}{p pos pt:Pos}(hg:Gl X "zip")(hm:X.mg "zip"=none)(ha:PA X [a,b] ta)(hs:starEach [a,b] X.env=[(false,eval a X.env),(false,eval b X.env)]:=by rfl)(o8:starEach [b] X.env=[(false,eval b X.env)]:=by rfl) :
  PI X (.Tuple es kt pt) (.Call (.Name "zip" p) [a,b] [] pos) (N8 X.K b1 b2 ta):=by
 intro aI s σ H R I h;refine Call_ (uw I hg hm ZA (Fz (bc (ha pos aI s σ H _ I h) λus s1 ⟨vs,H1,I1,r1,q1⟩=>?_) (by rw[hs,o8]) (by rw[o8];rfl)));obtain⟨l1,l2,e,⟨xs,gG⟩,⟨ys,gH⟩,q⟩:=q1;subst e;cases r1 with
 |cons r rr=>
  cases rr with
  |cons r' rr=>
   cases rr;cases r;cases r';obtain⟨l5,rm,p1,yG⟩:=I1.sq gG;obtain⟨v9,BL,p2,N6⟩:=I1.sq gH;have a1:l1<s1.heap.objs.size:=by obtain⟨_,e⟩:=p1.obj;exact dX e
   have a2:l2<s1.heap.objs.size:=by obtain⟨_,e⟩:=p2.obj;exact dX e
   refine Zm b1 b2 p1 p2 λh' N=>wpAny_pyIter_zip N.zip ?_;refine⟨_,_,_,_,H1,rfl,I1.kept (t':=s1.toks) N.old,Zp b1 b2 (z:=s1.heap.objs.size+4) (TI:=s1.heap.objs.size+2) (TO:=s1.heap.objs.size+3) (i1:=s1.heap.objs.size) (i2:=s1.heap.objs.size+1) ⟨?_,iw a1,iw (Nat.lt_succ_of_lt a2)⟩,⟨N.zip,N.Zi,⟨_,_,N.out⟩,N.one,N.two⟩,λb hb=>?_,q⟩
   ·exact⟨jT 2 4,jT 3 4,jT 0 4,jT 1 4,jT 2 3,jT 2 0,jT 2 1,jT 3 0,jT 3 1,jT 0 1,⟨wc (jT 4 0) (sX 4 a1),wc (jT 4 1) (sX 4 a2)⟩,⟨wc (jT 3 0) (sX 3 a1),wc (jT 3 1) (sX 3 a2)⟩,wc (jT 1 0) (sX 1 a1),wc (jT 0 1) (sX 0 a2)⟩
   ·have iU:s1.heap.objs.size≤b:=by
     simp only[eW,or_false,xZ]at hb;rcases hb with rfl|rfl|rfl|rfl|rfl
     ·exact Nat.le_add_right _ 4
     ·exact Nat.le_add_right _ 2
     ·exact Nat.le_add_right _ 3
     ·exact cu _
     ·exact Nat.le_add_right _ 1
    exact I1.o4 iU (I1.bK.fresh iU)
theorem ZD(b:Bool){a:Expr}{ta:TA}{p pos pt:Pos}(hg:Gl X "enumerate")(hm:X.mg "enumerate"=none)(ha:PA X [a] ta)(hs:starEach [a] X.env=[(false,eval a X.env)]:=by rfl) :
  PI X (.Tuple es kt pt) (.Call (.Name "enumerate" p) [a] [] pos) (N9 X.K b ta):=by
 intro aI s σ H R I h;refine Call_ (uw I hg hm boot_enumerate (Fz (bc (ha pos aI s σ H _ I h) λus s1 ⟨vs,H1,I1,r1,q1⟩=>?_) hs rfl));obtain⟨l,e,⟨xs,hq⟩,q⟩:=q1;subst e;cases r1 with
 |cons r rr=>
  cases rr;cases r;obtain⟨l5,rm,p1,yG⟩:=I1.sq hq;have a1:l<s1.heap.objs.size:=by obtain⟨_,e⟩:=p1.obj;exact dX e
  refine Zn b p1 λh' z1 z2 hk=>wpAny_pyIter_enum z1 ?_;refine⟨_,_,_,_,H1,rfl,I1.kept (t':=s1.toks) hk,Zw b (e:=s1.heap.objs.size+1) (it:=s1.heap.objs.size) (jT 1 0) (sX 1 a1).symm (sX 0 a1).symm,⟨⟨_,z1⟩,z2⟩,λc hc=>?_,q⟩;have iU:s1.heap.objs.size≤c:=by
   simp only[eW,xZ,or_false]at hc;rcases hc with rfl|rfl
   ·exact Nat.le_add_right _ 1
   ·exact cu _
  exact I1.o4 iU (I1.bK.fresh iU)
end
theorem aK.sq{K:Frag}(e:aK H H')(h:Sq b K H a xs):Sq b K H' a xs:=by
 cases b with
 |true=>exact e.seq h
 |false=>
  rcases h with h|h
  ·refine .inl ?_;rcases h with h|⟨o,h⟩
   ·exact .inl (e _ _ h)
   ·exact .inr ⟨o,e _ _ h⟩
  ·exact .inr h
theorem aK.bh{K:Frag}(e:aK H H')(h:bf K H a xs):bf K H' a xs:=e.sq (b:=false) h
theorem aK.upd{H:Hp}{p:Addr}{o:HO}(h:H p=none):aK H (upd H p o):=λb u e=>by rw[cG (gN e h)];exact e
def iY(K:Frag)(H:Hp)(xs:List V)(Q:VK):Prop:=∀p H',aK H H'→bf K H' p xs→Q (.ref p) H'
theorem iY.old{K:Frag}{Q:VK}(h:iY K H xs Q)(q:bf K H p xs):Q (.ref p) H:=h p H (.refl H) q
theorem iY.new{K:Frag}{Q:VK}(h:iY K H xs Q)(n:H p=none):Q (.ref p) (upd H p (.tup xs)):=h p _ (.upd n) (.of aV)
theorem ZE:fillsNumberSlot (.type "tuple") "mul"=pure false:=
 PySem.fillsNumberSlot_seq (id := "tuple.__mul__") (r:=some (.builtin "tuple.__rmul__")) F.slot_tuple_mul.lookup (by decide +kernel) F.slot_tuple_rmul.lookup (by decide +kernel)
theorem ZF:seqRepeat? (.type "tuple")=pure (some (.builtin "tuple.__mul__")):=by
 unfold seqRepeat?;rw[PySem.seqSlot_of (T := "tuple") (name := "__mul__") (id := "tuple.__mul__") F.slot_tuple_mul.lookup (by decide +kernel),PySem.seqSlot_of (T := "tuple") (name := "__rmul__") (id := "tuple.__rmul__") F.slot_tuple_rmul.lookup (by decide +kernel)];rfl
theorem ZG(a:Int)(t:Tok)(l:Addr)(items:Array Value)(n:Nat)(dd:Option Addr)(sl:Array (Option Value)) :
  Meets (Builtin.«int.__rmul__» ⟨[.int a t,.ref l],[]⟩) (λ_ R s=>s.heap.get? l=some { cls:=.type "tuple",dict:=dd,data:=.seq items n,slots:=sl }∧R (.ok (.ret Value.notImplemented)) s):=
 .of_wp λprog w A R s h=>by
  obtain⟨Hl,Hm,Hn,Ho,Hq⟩:=s;have n8:=h.1;wp_walk
  exact⟨_,rfl,h.2⟩
section
variable{X:Cx}
theorem ZH:iB X (.type "range") (λxs H Q=>∃i j:Int,xs=[.int i,.int j]∧∀p,H p=none→Q (.ref p) (upd H p (.mz i j))):=by
 intro aI s σ H vs us Q I r h;obtain⟨i,j,rfl,q⟩:=h;obtain⟨u,v,rfl,ru,rv⟩:=vals2 r;obtain⟨t,rfl⟩:=ru;obtain⟨t',rfl⟩:=rv;refine call_range_2 ?_;exact⟨.ref _,_,I.laid (t':=_) (o:=.mz i j) (λb o e=>dS _ e) (cu _) ⟨_,_,_,iA _ rfl⟩,rfl,q _ I.fresh⟩
theorem ZI{a:Int}:∀(n:Nat)(cQ:Array Value),ItemsOf (λi v=>∃t,v=.int (a+i*1) t) cQ n→Vals ((List.range n).map λ(i:Nat)=>V.int (a+i)) cQ.toList:=by
 intro n cQ h;have hsz:cQ.size=n:=h.1;have key:∀(k:Nat),k≤n→Vals (((List.range n).map λ(i:Nat)=>V.int (a+i)).take k) (cQ.toList.take k):=by
  intro k;induction k with
  |zero=>intro _;exact .nil
  |succ k ih=>
   intro hk;have iT:k<cQ.size:=by lia
   rw[gK,gK];refine Vals.append (ih (by lia)) ?_;have e1:((List.range n).map λ(i:Nat)=>V.int (a+i))[k]?=some (V.int (a+k)):=by
    rw[dU,List.getElem?_range (by lia)];rfl
   have e2:cQ.toList[k]?=some cQ[k]:=by simp[iT]
   rw[e1,e2];obtain⟨t,e⟩:=h.2 k cQ[k] (by simp[iT]);refine .cons ⟨t,?_⟩ .nil;rw[e,Int.mul_one]
 have:=key n (cu _)
 rw[jM (by simp),jM (by simp[hsz])]at this;exact this
theorem BM(hc:X.calm=true):iB X (.type "list") (λxs H Q=>∃p i j,xs=[.ref p]∧H p=some (.mz i j)∧(-(2^62)≤i∧i<2^62∧-(2^62)≤j∧j<2^62)∧j-i≤16777216∧
  ∀l,H l=none→Q (.ref l) (upd H l (.lst ((List.range (j-i).toNat).map λ(k:Nat)=>V.int (i+k))))):=by
 intro aI s σ H vs us Q I r h;obtain⟨p,i,j,rfl,hp,⟨h1,h2,h3,h4⟩,hz,q⟩:=h;obtain⟨u,rfl,ru⟩:=vals1 r;cases ru;obtain⟨t,u,v,e⟩:=I.bK p _ hp;have hn:Builtin.Range.rangeSize i j 1=(((j-i).toNat:Nat):Int):=by rw[rangeSize_one];split<;>lia
 refine call_list_range (I.ok.hd hc) (show IsRange s.heap p i j 1 t u v from e) (small_one h1 h2 h3 h4) hn (by lia) λh' tk cQ c hk hS hI=>?_
 have rv:=ZI (a:=i) _ _ hI;have I1:Inv X aI σ H { s with heap:=h',toks:=tk }:=I.kept hk;have f:jA X aI H s.heap.objs.size:=I.o4 (cu _) I.fresh;have I2:=I1.Hi (o:=.lst ((List.range (j-i).toNat).map λ(k:Nat)=>V.int (i+k))) f ⟨?_,cQ.toList,c,rv,hS⟩
 ·exact⟨.ref _,_,I2,rfl,q _ f.1⟩
 ·rw[aZ,qL]
  have:(16777216:Nat)≤sizeLine:=by decide
  lia
theorem Hr{T:String}:iB X (.builtin "isinstance") (λxs H Q=>∃x t b,xs=[x,.ty T]∧mV X.K H x t∧kitOne X.K t (.type T)=some b∧Q (.bl b) H):=by
 intro aI s σ H vs us Q I r h;obtain⟨x,t,b,rfl,ty,e,q⟩:=h;obtain⟨u,v,rfl,ru,rv⟩:=vals2 r;cases rv;exact XJ I ru ty e λtk=>⟨.bl b,H,I.tok tk,rfl,q⟩
end
mutual
inductive ic(K:Frag)(H:Hp):V→Dat→Prop
 |none:ic K H .ck .none
 |bool (b:Bool):ic K H (.bl b) (.bool b)
 |int (i:Int):ic K H (.int i) (.int i)
 |str (x:Str):ic K H (.str x) (.str x)
 |tuple {a:Addr} {xs:List V} {ds:List Dat}:bf K H a xs→bj K H xs ds→ic K H (.ref a) (.tuple ds)
 |list {a:Addr} {xs:List V} {ds:List Dat}:dq K H a xs→bj K H xs ds→ic K H (.ref a) (.list ds)
inductive bj(K:Frag)(H:Hp):List V→List Dat→Prop
 |nil:bj K H [] []
 |cons {v:V} {vs:List V} {d:Dat} {ds:List Dat}:ic K H v d→bj K H vs ds→bj K H (v::vs) (d::ds)
end
mutual
theorem ic.mono{K:Frag}{H H':Hp}(e:aK H H'):∀{v:V}{d:Dat},ic K H v d→ic K H' v d
 |_,_,.none=>.none
 |_,_,.bool b=>.bool b
 |_,_,.int i=>.int i
 |_,_,.str x=>.str x
 |_,_,.tuple h r=>.tuple (e.bh h) (bj.mono e r)
 |_,_,.list h r=>.list (e.seq h) (bj.mono e r)
theorem bj.mono{K:Frag}{H H':Hp}(e:aK H H'):∀{vs:List V}{ds:List Dat},bj K H vs ds→bj K H' vs ds
 |_,_,.nil=>.nil
 |_,_,.cons h r=>.cons (ic.mono e h) (bj.mono e r)
end
theorem bj.length{K:Frag}{H:Hp}:∀{vs:List V}{ds:List Dat},bj K H vs ds→vs.length=ds.length
 |_,_,.nil=>rfl
 |_,_,.cons _ r=>by rw[eE,eE,bj.length r]
theorem bj.append{K:Frag}{H:Hp}:∀{vs ws:List V}{ds es:List Dat},bj K H vs ds→bj K H ws es→bj K H (vs++ws) (ds++es)
 |_,_,_,_,.nil,k=>k
 |_,_,_,_,.cons h r,k=>.cons h (bj.append r k)
theorem bj.get{K:Frag}{H:Hp}:∀{vs:List V}{ds:List Dat}{i:Nat}{v:V},bj K H vs ds→vs[i]?=some v→∃d,ds[i]?=some d∧ic K H v d
 |_,_,0,_,.cons h _,e=>by
  have e':_=_:=c8 e;subst e';exact⟨_,rfl,h⟩
 |_,_,i+1,v,.cons _ r,e=>bj.get (i:=i) (v:=v) r e
theorem bj.ints{K:Frag}{H:Hp}:∀(ns:List Int),bj K H (ns.map V.int) (ns.map Dat.int)
 | []=>.nil
 |n::ns=>.cons (.int n) (bj.ints ns)
theorem bj.Hs{K:Frag}{H:Hp}:∀{xs:List V}{ns:List Int},bj K H xs (ns.map Dat.int)→xs=ns.map V.int
 |_,[],h=>by cases h;rfl
 |_,n::ns,h=>by
  cases h with
  |cons h r=>
   cases h;rw[bj.Hs r];rfl
mutual
theorem ic.reads{X:Cx}{aI:List (Addr×Obj)}{σ:St}{H:Hp}{s:Shared}(I:Inv X aI σ H s):∀{v:V}{d:Dat}{u:Value},ic X.K H v d→RelV v u→∃as,Reads s.heap u (PySem.W.kqdP d) as
 |_,_,u,.none,r=>by cases(show u=Value.none from r);exact⟨_,.none⟩
 |_,_,u,.bool b,r=>by cases(show u=Value.bool b from r);exact⟨_,.bool b⟩
 |_,_,u,.int i,r=>by obtain⟨t,rfl⟩:=r;exact⟨_,.int i t⟩
 |_,_,u,.str x,r=>by obtain⟨t,rfl⟩:=r;exact⟨_,.str x t⟩
 |_,_,u,.tuple (a:=a) h q,r=>by
  cases(show u=Value.ref a from r)
  obtain⟨its,rv,⟨o,ho,hc,n,hd⟩,_⟩:=I.tuple h;obtain⟨as,z⟩:=bj.reads I q rv;rw[PySem.W.kqdP];exact⟨as,.tuple ho hc hd (by simpa using z)⟩
 |_,_,u,.list (a:=a) h q,r=>by
  cases(show u=Value.ref a from r)
  obtain⟨its,rv,p,_⟩:=I.list h;obtain⟨o,ho,hc,n,hd⟩:=p.isList;obtain⟨as,z⟩:=bj.reads I q rv;rw[PySem.W.kqdP];exact⟨_,.list ho hc hd (by simpa using z)⟩
theorem bj.reads{X:Cx}{aI:List (Addr×Obj)}{σ:St}{H:Hp}{s:Shared}(I:Inv X aI σ H s):∀{vs:List V}{ds:List Dat}{us:List Value},bj X.K H vs ds→Vals vs us→∃as,ReadsAll s.heap us (PySem.W.kqdPs ds) as
 |_,_,_,.nil,.nil=>⟨_,.nil⟩
 |_,_,_,.cons h q,.cons r rr=>by
  obtain⟨as,z⟩:=ic.reads I h r;obtain⟨bs,y⟩:=bj.reads I q rr;rw[PySem.W.kqdPs];exact⟨_,.cons z y⟩
end
section
variable{X:Cx}
open Classical in
def BN(K:Frag)(neg:Bool):R2:=λx y H Q=>∃d e,ic K H x d∧ic K H y e∧kqdOk 8 d=true∧kqdOk 8 e=true∧Q (.bl (if neg then !decide (d=e)else decide (d=e))) H
open Classical in
theorem Oa{d e:Dat}(hd:kqdOk 8 d=true)(he:kqdOk 8 e=true):PyData.eqv (PySem.W.kqdP d) (PySem.W.kqdP e)=decide (d=e):=by
 exact Bool.eq_iff_iff.mpr ((PySem.W.kqd_eqv 8 d e 8 hd he).trans decide_eq_true_iff.symm)
theorem BO{d:Dat}(hd:kqdOk 8 d=true):SeqAt.shaped (PySem.W.kqdP d)=true:=by
 have l:=PySem.W.kqd_lay 8 d hd;unfold SeqAt.shaped;rw[l.1,Bool.true_and];exact aC (hU l.2 (by decide))
theorem ZJ(hu:X.A.units+64<cLine):eK X (compareOp .Eq) (BN X.K false):=by
 intro aI s σ H x y v u Q I rx ry h;obtain⟨d,e,hx,hy,hd,he,q⟩:=h;obtain⟨as,ra⟩:=hx.reads I rx;obtain⟨bs,rb⟩:=hy.reads I ry;refine eq_dataH ra rb (BO hd) (BO he) hu ?_;rw[Oa hd he];exact⟨.bl _,H,I,rfl,q⟩
theorem ZK(hu:X.A.units+64<cLine):eK X (compareOp .NotEq) (BN X.K true):=by
 intro aI s σ H x y v u Q I rx ry h;obtain⟨d,e,hx,hy,hd,he,q⟩:=h;obtain⟨as,ra⟩:=hx.reads I rx;obtain⟨bs,rb⟩:=hy.reads I ry;refine ne_dataH ra rb (BO hd) (BO he) hu ?_;rw[Oa hd he];exact⟨.bl _,H,I,rfl,q⟩
end
noncomputable def cj(ns:List Int):Dat:=.tuple (ns.map .int)
theorem ZL(n:Nat)(ns:List Int):kqdOk (n+1) (cj ns)=true:=by
 unfold cj kqdOk;rw[List.all_map];exact jN.mpr λ_ _=>by cases n<;>rfl
theorem ZM{a b:List Int}(h:cj a=cj b):a=b:=by
 unfold cj at h;have h':=Dat.tuple.inj h;exact(List.map_inj_right λx y e=>Dat.int.inj e).mp h'
theorem ZN(l:Addr)(items:Array Value)(n:Nat)(dd:Option Addr)(sl:Array (Option Value))(u:Tok) :
  Meets (Builtin.«tuple.__mul__» ⟨[.ref l,.int 1 u],[]⟩) (λ_ R s=>s.heap.get? l=some { cls:=.type "tuple",dict:=dd,data:=.seq items n,slots:=sl }∧R (.ok (.ret (.ref l))) s):=
 .of_wp λprog w A R s h=>by
  obtain⟨Hl,Hm,Hn,Ho,Hq⟩:=s;have n8:=h.1;have f1:=AutoSeq1.idx_int;wp_walk using ue n8
  exact⟨_,rfl,h.2⟩
theorem ZO(l:Addr)(items:Array Value)(n:Nat)(dd:Option Addr)(sl:Array (Option Value))(x:Int)(u:Tok)(hx:x≤0)(ZP:-(2^63)≤x)(cS:items.isEmpty=false) :
  Meets (Builtin.«tuple.__mul__» ⟨[.ref l,.int x u],[]⟩) (λ_ R s=>s.heap.get? l=some { cls:=.type "tuple",dict:=dd,data:=.seq items n,slots:=sl }∧
   R (.ok (.ret (Value.ref s.heap.objs.size))) { s with heap:=s.heap.push { cls:=Value.type "tuple",data:=Data.seq #[] } }):=
 .of_wp λprog w A R s h=>by
  obtain⟨Hl,Hm,Hn,Ho,Hq⟩:=s;have n8:=h.1;have f1:=AutoSeq1.idx_int;have c1:(decide (x < -2^63)||decide (x≥2^63))=false:=by simp;lia
  have c2:(items.isEmpty||x==1)=false:=by rw[cS];simp;lia
  have c3:(decide (x≤0)||items.isEmpty)=true:=by simp[hx]
  wp_walk using ue n8
  refine aD (by rw[c1];rfl) ?_;wp_walk using ue n8
  refine aD (by rw[c2];rfl) ?_;wp_walk using ue n8
  exact⟨_,rfl,h.2⟩
theorem Ob(items:Array Value):∀(k:Nat)(cQ:Array Value),(List.foldl (λx1 x2=>x1++x2) cQ (List.replicate k items)).size=cQ.size+k*items.size
 |0,cQ=>by simp
 |k+1,cQ=>by rw[qJ,List.foldl_cons,Ob items k,Array.size_append,Nat.succ_mul];lia
theorem ZQ(l:Addr)(items:Array Value)(n:Nat)(dd:Option Addr)(sl:Array (Option Value))(x:Int)(u:Tok)(hx:2≤x)(ZP:x<2^63)(cS:items.isEmpty=false)(hz:items.size*x.toNat≤sizeLine) :
  Meets (Builtin.«tuple.__mul__» ⟨[.ref l,.int x u],[]⟩) (λ_ R s=>s.heap.get? l=some { cls:=.type "tuple",dict:=dd,data:=.seq items n,slots:=sl }∧
   R (.ok (.ret (Value.ref s.heap.objs.size))) { s with heap:=s.heap.push { cls:=Value.type "tuple",data:=Data.seq (List.foldl (λx1 x2=>x1++x2) #[] (List.replicate x.toNat items)) } }):=
 .of_wp λprog w A R s h=>by
  obtain⟨Hl,Hm,Hn,Ho,Hq⟩:=s;have n8:=h.1;have f1:=AutoSeq1.idx_int;have c1:(decide (x < -2^63)||decide (x≥2^63))=false:=by simp;lia
  have c2:(items.isEmpty||x==1)=false:=by rw[cS];simp;lia
  have c3:(decide (x≤0)||items.isEmpty)=false:=by rw[cS];simp;lia
  have e:(items.size:Int)*x=((items.size*x.toNat:Nat):Int):=by
   rw[Int.natCast_mul];congr 1;lia
  have By:(sizeLine:Nat)≤(2^63-1)/8:=by decide
  have c4:decide ((items.size:Int)*x>(2^63-1)/8)=false:=by rw[e];simp only[aE];lia
  have c5:Builtin.Tuple.tupleTooMany ((items.size:Int)*x)=false:=by rw[e];unfold Builtin.Tuple.tupleTooMany;simp only[aE];lia
  have c6:(List.foldl (λx1 x2=>x1++x2) #[] (List.replicate x.toNat items)).size≤sizeLine:=by rw[Ob,Array.size_empty,uf,Nat.mul_comm];exact hz
  wp_walk using ue n8
  refine aD (by rw[c1];rfl) ?_;wp_walk using ue n8
  refine aD (by rw[c2];rfl) ?_;wp_walk using ue n8
  refine aD (by rw[c3];rfl) ?_;wp_walk
  refine aD c4 ?_;wp_walk
  refine aD (by rw[c5];rfl) ?_;wp_walk
  exact⟨_,rfl,h.2⟩
def yI(K:Frag):R2:=λx y H Q=>∃a k xs,x=.ref a∧y=.int k∧bf K H a xs∧xs≠[]∧-(2^63)≤k∧k<2^63∧xs.length*k.toNat≤sizeLine∧iY K H (List.replicate k.toNat xs).flatten Q
theorem ZR{X:Cx}:eK X (binaryOp .Mult) (yI X.K):=by
 intro aI s σ H x y v u Q I rx ry h;obtain⟨l,k,xs,rfl,rfl,hH,cS,h1,h2,hz,q⟩:=h;cases rx;obtain⟨t,rfl⟩:=ry;obtain⟨its,r,ht,_⟩:=I.tuple hH;obtain⟨⟨cls,dd,data,sl⟩,ho,hc,n,hd⟩:=id ht;simp only at hc hd;subst hc hd;have hi:its.toArray.isEmpty=false:=by
  have:its≠[]:=λz=>cS (r.Bp.mp z)
  cases its with
  |nil=>exact absurd rfl this
  |cons a b=>rfl
 have cF:its.toArray.size*k.toNat≤sizeLine:=by rw[dR,← r.length];exact hz
 have f0:∀m:Nat,List.foldl (λx1 x2=>x1++x2) #[] (List.replicate m its.toArray)=(List.replicate m its).flatten.toArray:=λm=>by
  have:=foldl_rep its m []
  rw[xY]at this;exact this
 refine wpAny_binaryOp_repeat_ref (T := "tuple") (U := "int") (by decide) ⟨_,ho,rfl⟩ (λs'=>typeIs_int s' k t) ZE F.fills_int_mul F.slot_int_rmul ZF F.slot_int_index.lookup
  (aA F.slot_int_rmul (typeIs_int s k t) F.entry_int_rmul (F.args_int_rmul_2 _ _) (ZG k t l its.toArray n dd sl) ⟨ho,rfl,⟨_,ho,rfl⟩,?_⟩)
 by_cases ZT:k=1
 ·subst ZT;refine aA F.slot_tuple_mul ⟨_,ho,rfl⟩ F.entry_tuple_mul (F.args_tuple_mul_2 _ _) (ZN l its.toArray n dd sl t) ⟨ho,?_⟩;exact⟨.ref l,H,I,rfl,q.old (by simpa using hH)⟩
 ·by_cases Ht:k≤0
  ·refine aA F.slot_tuple_mul ⟨_,ho,rfl⟩ F.entry_tuple_mul (F.args_tuple_mul_2 _ _) (ZO l its.toArray n dd sl k t Ht h1 hi) ⟨ho,?_⟩;have e:k.toNat=0:=by lia
   rw[e]at q;exact⟨.ref _,_,I.laid (t':=s.toks) (o:=.tup []) (λb ob q=>dS _ q) (cu _) ⟨j7 _,[],.nil,IsTup.new _ _⟩,rfl,q.new I.fresh⟩
  ·refine aA F.slot_tuple_mul ⟨_,ho,rfl⟩ F.entry_tuple_mul (F.args_tuple_mul_2 _ _) (ZQ l its.toArray n dd sl k t (by lia) h2 hi cF) ⟨ho,?_⟩;rw[f0];exact⟨.ref _,_,I.laid (t':=s.toks) (o:=.tup (List.replicate k.toNat xs).flatten) (λb ob q=>dS _ q) (cu _) ⟨by rw[Nr,Nat.mul_comm];exact hz,_,r.rep k.toNat,IsTup.new _ _⟩,rfl,q.new I.fresh⟩
noncomputable def Oc(oN:List Str)(sO:Scope)(N:List Str)(own:Nat)(caps:List Nat)(scope:Scope):Bool:=
 decide (scope.kind=.function)&&decide N.Nodup&&decide (scope.names.map (·.1)).Nodup &&
 scope.names.all (λx=>x.2 != .free||(decide (sO.names.lookup x.1=some .cell)||decide (sO.names.lookup x.1=some .free))) &&
 decide (N.length=own+caps.length)&&decide (caps.map (λi=>oN[i]?)=(N.drop own).map some)&&(N.drop own).all (λx=>decide (scope.names.lookup x=some .free))
theorem dJ.mk'{oN:List Str}{sO:Scope}{N:List Str}{own:Nat}{caps:List Nat}{scope:Scope}(h:Oc oN sO N own caps scope=true):dJ oN sO N own caps scope:=by
 unfold Oc at h;simp only[eX,aF,jN,Bool.or_eq_true,bne_iff_ne,ne_eq]at h;obtain⟨⟨⟨⟨⟨⟨h1,h2⟩,h3⟩,h4⟩,h5⟩,h6⟩,h7⟩:=h;exact⟨h1,h2,h3,λx hx hk=>(h4 x hx).elim (λz=>absurd hk z) id,h5,h6,h7⟩
def ki(n:Nat)(cp:St)(H1:Hp)(P:Hp→List V→Prop):St→Hp→List V→Prop:=λσ H zs=>(∃o:St,o.length=n∧σ=o++cp)∧aK H1 H∧P H zs
section
variable{K:Frag}{H1:Hp}{cp:St}{g:TG}{tt:TT}{te:TE}{Q:VK}{xs ys:List V}{l1 l2 a:Addr}{b1 b2 b:Bool}{n own:Nat}{J:It}
theorem yJ(Pv:Nat→Hp→List V→Prop)(hn:n≤sizeLine)(h0:Pv 0 H1 [])(cF:∀i H zs,Pv i H zs→zs.length≤i)
  (ZU:∀i H,aK H1 H→i<n→J.go i H) (ZV:∀H,aK H1 H→J.stop n H)
  (step:∀i o H zs,i<n→o.length=own→aK H1 H→Pv i H zs→∀x H2,J.qW i H x H2→g x (o++cp) H2 λσ3 H3=>tt σ3 H3 λc H4=>if c=true then te σ3 H4 λv H5=>ki own cp H1 (Pv (i+1)) σ3 H5 (zs++[v])else ki own cp H1 (Pv (i+1)) σ3 H4 zs)
  (done:∀H zs,aK H1 H→Pv n H zs→∀p,H p=none→Q (.ref p) (upd H p (.lst zs))) :
  ∃W:Nat→Nat→St→Hp→List V→Prop,(∃m,W 0 m (List.replicate own none++cp) H1 [])∧jD J g tt te Q W:=by
 refine⟨λi m σ H zs=>m=n-i∧i≤n∧ki own cp H1 (Pv i) σ H zs,⟨n,by simp,j7 _,⟨_,by simp,rfl⟩,.refl _,h0⟩,?_⟩;rintro i m σ H zs ⟨rfl,hi,⟨o,ho,rfl⟩,sm,pv⟩;have hl:=cF _ _ _ pv;by_cases cR:i<n
 ·exact .inr ⟨ZU i H sm cR,by lia,ki own cp H1 (Pv (i+1)),λσ2 H2 uL q=>⟨n-(i+1),by lia,rfl,cR,q⟩,step i o H zs cR ho sm pv⟩
 ·have e:i=n:=by lia
  subst e;exact .inl ⟨ZV H sm,by lia,done H zs sm pv⟩
theorem BP{o:St}(h:o.length=1):∃x,o=[x]:=by
 match o,h with
 | [x],_=>exact⟨x,rfl⟩
theorem Od{o:St}(h:o.length=2):∃x y,o=[x,y]:=by
 match o,h with
 | [x,y],_=>exact⟨x,y,rfl⟩
theorem n9(Pv:Nat→Hp→List V→Prop)(hq:dq K H1 a xs)(hz:xs.length≤sizeLine)(h0:Pv 0 H1 [])(cF:∀i H zs,Pv i H zs→zs.length≤i)
  (step:∀i x H zs,xs[i]?=some x→aK H1 H→Pv i H zs→tt (some x::cp) H λc H4=>if c=true then te (some x::cp) H4 λv H5=>ki 1 cp H1 (Pv (i+1)) (some x::cp) H5 (zs++[v])else ki 1 cp H1 (Pv (i+1)) (some x::cp) H4 zs)
  (done:∀H zs,aK H1 H→Pv xs.length H zs→∀p,H p=none→Q (.ref p) (upd H p (.lst zs))) :
  ∃W:Nat→Nat→St→Hp→List V→Prop,(∃m,W 0 m (List.replicate 1 none++cp) H1 [])∧jD (qe K a) (bX 0) tt te Q W:=by
 refine yJ (n:=xs.length) Pv hz h0 cF (λi H sm hi=>⟨xs,xs[i],sm.seq hq,by simp[hi]⟩) (λH sm=>⟨xs,sm.seq hq,cu _⟩) (λi o H zs hi ho sm pv x H2 y=>?_) done;obtain⟨w,rfl⟩:=BP ho;obtain⟨rfl,y⟩:=y;exact step i x _ zs (y xs (sm.seq hq)) sm pv
theorem we(Pv:Nat→Hp→List V→Prop)(hq:bf K H1 a xs)(hz:xs.length≤sizeLine)(h0:Pv 0 H1 [])(cF:∀i H zs,Pv i H zs→zs.length≤i)
  (step:∀i x H zs,xs[i]?=some x→aK H1 H→Pv i H zs→tt (some x::cp) H λc H4=>if c=true then te (some x::cp) H4 λv H5=>ki 1 cp H1 (Pv (i+1)) (some x::cp) H5 (zs++[v])else ki 1 cp H1 (Pv (i+1)) (some x::cp) H4 zs)
  (done:∀H zs,aK H1 H→Pv xs.length H zs→∀p,H p=none→Q (.ref p) (upd H p (.lst zs))) :
  ∃W:Nat→Nat→St→Hp→List V→Prop,(∃m,W 0 m (List.replicate 1 none++cp) H1 [])∧jD (qf K a) (bX 0) tt te Q W:=by
 refine yJ (n:=xs.length) Pv hz h0 cF (λi H sm hi=>⟨xs,xs[i],sm.bh hq,by simp[hi]⟩) (λH sm=>⟨xs,sm.bh hq,cu _⟩) (λi o H zs hi ho sm pv x H2 y=>?_) done;obtain⟨w,rfl⟩:=BP ho;obtain⟨rfl,y⟩:=y;exact step i x _ zs (y xs (sm.bh hq)) sm pv
theorem Oe{lo:Int}(Pv:Nat→Hp→List V→Prop)(hz:n≤sizeLine)(h0:Pv 0 H1 [])(cF:∀i H zs,Pv i H zs→zs.length≤i)
  (step:∀i H zs,i<n→aK H1 H→Pv i H zs→tt (some (.int (lo+(i:Nat)))::cp) H λc H4=>if c=true then te (some (.int (lo+(i:Nat)))::cp) H4 λv H5=>ki 1 cp H1 (Pv (i+1)) (some (.int (lo+(i:Nat)))::cp) H5 (zs++[v])else ki 1 cp H1 (Pv (i+1)) (some (.int (lo+(i:Nat)))::cp) H4 zs)
  (done:∀H zs,aK H1 H→Pv n H zs→∀p,H p=none→Q (.ref p) (upd H p (.lst zs))) :
  ∃W:Nat→Nat→St→Hp→List V→Prop,(∃m,W 0 m (List.replicate 1 none++cp) H1 [])∧jD (sx lo n) (bX 0) tt te Q W:=by
 refine yJ (n:=n) Pv hz h0 cF (λi H sm hi=>hi) (λH sm=>cu _) (λi o H zs hi ho sm pv x H2 y=>?_) done;obtain⟨w,rfl⟩:=BP ho;obtain⟨rfl,rfl⟩:=y;exact step i _ zs hi sm pv
abbrev BQ(K:Frag)(i j:Nat):TG:=FU K 2 (jz (bX i) (jz (bX j) uz))
theorem Hu{p:Addr}{x y:V}{i j:Nat}{σ:St}{H:Hp}{R:St→Hp→Prop}(h:bf K H p [x,y])(q:R ((σ.set i (some x)).set j (some y)) H):BQ K i j (.ref p) σ H R:=
 ⟨p,[x,y],rfl,h,rfl,x,[y],rfl,y,[],rfl,rfl,q⟩
theorem ZW(Pv:Nat→Hp→List V→Prop)(gG:Sq b1 K H1 l1 xs)(gH:Sq b2 K H1 l2 ys)(hl:xs.length=ys.length)(hz:xs.length≤sizeLine)(h0:Pv 0 H1 [])(cF:∀i H zs,Pv i H zs→zs.length≤i)(mono:∀i H H' zs,aK H H'→Pv i H zs→Pv i H' zs)
  (step:∀i x y H zs,xs[i]?=some x→ys[i]?=some y→aK H1 H→Pv i H zs→tt (some x::some y::cp) H λc H4=>if c=true then te (some x::some y::cp) H4 λv H5=>ki 2 cp H1 (Pv (i+1)) (some x::some y::cp) H5 (zs++[v])else ki 2 cp H1 (Pv (i+1)) (some x::some y::cp) H4 zs)
  (done:∀H zs,aK H1 H→Pv xs.length H zs→∀p,H p=none→Q (.ref p) (upd H p (.lst zs))) :
  ∃W:Nat→Nat→St→Hp→List V→Prop,(∃m,W 0 m (List.replicate 2 none++cp) H1 [])∧jD (v8 K b1 b2 l1 l2) (BQ K 0 1) tt te Q W:=by
 refine yJ (n:=xs.length) Pv hz h0 cF (λi H sm hi=>⟨xs,ys,xs[i],ys[i],sm.sq gG,sm.sq gH,by simp[hi],by simp[hl▸hi]⟩) (λH sm=>⟨xs,ys,sm.sq gG,sm.sq gH,.inl rfl⟩) (λi o H zs hi ho sm pv v H2 yl=>?_) done;obtain⟨w1,w2,rfl⟩:=Od ho;obtain⟨p,x,y,rfl,hp,rfl,hx,hy⟩:=yl;refine Hu (.of aV) ?_;have s2:aK H (upd H p (.tup [x,y])):=.upd hp;exact step i x y _ zs (hx xs (sm.sq gG)) (hy ys (sm.sq gH)) (sm.trans s2) (mono _ _ _ _ s2 pv)
theorem Hv(Pv:Nat→Hp→List V→Prop)(hq:Sq b K H1 a xs)(hz:xs.length≤sizeLine)(h0:Pv 0 H1 [])(cF:∀i H zs,Pv i H zs→zs.length≤i)(mono:∀i H H' zs,aK H H'→Pv i H zs→Pv i H' zs)
  (step:∀i x H zs,xs[i]?=some x→aK H1 H→Pv i H zs→tt (some (.int (i:Nat))::some x::cp) H λc H4=>if c=true then te (some (.int (i:Nat))::some x::cp) H4 λv H5=>ki 2 cp H1 (Pv (i+1)) (some (.int (i:Nat))::some x::cp) H5 (zs++[v])else ki 2 cp H1 (Pv (i+1)) (some (.int (i:Nat))::some x::cp) H4 zs)
  (done:∀H zs,aK H1 H→Pv xs.length H zs→∀p,H p=none→Q (.ref p) (upd H p (.lst zs))) :
  ∃W:Nat→Nat→St→Hp→List V→Prop,(∃m,W 0 m (List.replicate 2 none++cp) H1 [])∧jD (Hj K b a) (BQ K 0 1) tt te Q W:=by
 refine yJ (n:=xs.length) Pv hz h0 cF (λi H sm hi=>⟨xs,xs[i],sm.sq hq,by simp[hi]⟩) (λH sm=>⟨xs,sm.sq hq,rfl⟩) (λi o H zs hi ho sm pv v H2 yl=>?_) done;obtain⟨w1,w2,rfl⟩:=Od ho;obtain⟨p,x,rfl,hp,rfl,hx⟩:=yl;refine Hu (.of aV) ?_;have s2:aK H (upd H p (.tup [.int i,x])):=.upd hp;exact step i x _ zs (hx xs (sm.sq hq)) (sm.trans s2) (mono _ _ _ _ s2 pv)
end
section
variable{K:Frag}{a l1 l2:Addr}{xs ys:List V}{b b1 b2:Bool}{tb:TS}{D:Ends}{σ:St}{H:Hp}{i j:Nat}
theorem ZX(Pv:Nat→St→Hp→Prop)(hl:xs.length=ys.length)(h0:Pv 0 σ H)(hq:∀k σ H,Pv k σ H→Sq b1 K H l1 xs∧Sq b2 K H l2 ys)(mono:∀k σ H H',aK H H'→Pv k σ H→Pv k σ H')
  (hs:∀k x y σ H,xs[k]?=some x→ys[k]?=some y→Pv k σ H→tb { D with nx:=Pv (k+1),ct:=Pv (k+1),bk:=D.nx } ((σ.set i (some x)).set j (some y)) H) (hd:∀σ H,Pv xs.length σ H→D.nx σ H) :
  ∃W:Nat→Nat→St→Hp→Prop,(∃m,W 0 m σ H)∧∀k m σ H,W k m σ H→
   ((v8 K b1 b2 l1 l2).stop k H∧D.nx σ H)∨((v8 K b1 b2 l1 l2).go k H∧∃N:St→Hp→Prop,(∀σ' H',N σ' H'→∃m',m'<m∧W (k+1) m' σ' H')∧∀x H',(v8 K b1 b2 l1 l2).qW k H x H'→BQ K i j x σ H' λσ2 H2=>tb { D with nx:=N,ct:=N,bk:=D.nx } σ2 H2):=by
 refine⟨λk m σ H=>m=xs.length-k∧k≤xs.length∧Pv k σ H,⟨xs.length,by simp,j7 _,h0⟩,?_⟩;rintro k m σ H ⟨rfl,hk,p⟩;obtain⟨q1,q2⟩:=hq k σ H p;by_cases cR:k<xs.length
 ·refine .inr ⟨⟨xs,ys,xs[k],ys[k],q1,q2,by simp[cR],by simp[hl▸cR]⟩,Pv (k+1),λσ' H' p'=>⟨xs.length-(k+1),by lia,rfl,cR,p'⟩,λv H' yl=>?_⟩;obtain⟨pp,x,y,rfl,hp,rfl,hx,hy⟩:=yl;exact Hu (.of aV) (hs k x y σ _ (hx xs q1) (hy ys q2) (mono _ _ _ _ (.upd hp) p))
 ·have e:k=xs.length:=by lia
  subst e;exact .inl ⟨⟨xs,ys,q1,q2,.inl rfl⟩,hd σ H p⟩
end
theorem Hw(K:Frag):kitOne K (.type "int") (.type "int")=some true:=by kernel_rfl
theorem ZY(K:Frag):kitOne K (.type "tuple") (.type "tuple")=some true:=by kernel_rfl
theorem Hy(K:Frag):kitOne K (.type "str") (.type "int")=some false:=by kernel_rfl
section
variable{X:Cx}
theorem ZZ{T:String}:iB X (.builtin "isinstance") (λxs H Q=>∃a ys b,xs=[.ref a,.ty T]∧bf X.K H a ys∧kitOne X.K (.type "tuple") (.type T)=some b∧Q (.bl b) H):=by
 intro aI s σ H vs us Q I r h;obtain⟨a,ys,b,rfl,hq,e,q⟩:=h;obtain⟨u,v,rfl,ru,rv⟩:=vals2 r;cases ru;cases rv;obtain⟨its,rr,⟨o,h1,h2,_⟩,_⟩:=I.tuple hq;exact pX PySem.W.kitx_tuple I.gO ⟨o,h1,h2⟩ e (λz=>nomatch z) λtk=>⟨.bl b,H,I.tok tk,rfl,q⟩
theorem Z0{T:String}:iB X (.builtin "isinstance") (λxs H Q=>∃i b,xs=[.int i,.ty T]∧kitOne X.K (.type "int") (.type T)=some b∧Q (.bl b) H):=by
 intro aI s σ H vs us Q I r h;obtain⟨i,b,rfl,e,q⟩:=h;exact Hr aI s σ H _ us Q I r ⟨.int i,_,b,rfl,.int i,e,q⟩
end
theorem Z1(n:String):RelV (.ty n) (.type n):=rfl
theorem BR{X:Cx}{x:Str}{T:String}{pos:Pos}(hg:Gl X x)(hm:X.mg x=none)(hv:bootBuiltins x=some (.type T))(hn:x ≠ "__name__":=by decide)(hd:(x==("__debug__":Str))=false:=by decide):PE X (.Name x pos) (tC (.ty T)):=W3 hg hm hv (Z1 T) hn hd
noncomputable def wg:List Expr→Option (List Int)
 | []=>some []
 | .Constant (.int i) _ _::es=>(wg es).map (i::·)
 |_=>none
theorem Of{X:Cx}:∀(es:List Expr)(ns:List Int),wg es=some ns→PA X es (λ_ H Q=>Q (ns.map V.int) H)
 | [],ns,h=>by
  cases h;exact aO
 | .Constant (.int i) j pos::es,ns,h=>by
  unfold wg at h;cases e:wg es with
  |none=>rw[e]at h;cases h
  |some ms=>
   rw[e]at h;have h':i::ms=ns:=c8 h;subst h';exact aJ aW (Of es ms e) rfl
 | .Constant .none _ _::_,_,h=>by cases h
 | .Constant (.bool _) _ _::_,_,h=>by cases h
 | .Constant (.str _) _ _::_,_,h=>by cases h
 | .Constant (.bytes _) _ _::_,_,h=>by cases h
 | .Constant .ellipsis _ _::_,_,h=>by cases h
 | .Name ..::_,_,h=>by cases h
theorem Hz{K:Frag}{H:Hp}{x:V}{r:List Int}(h:ic K H x (cj r)):∃a,x=.ref a∧bf K H a (r.map V.int):=by
 unfold cj at h;cases h with
 |tuple hq ha=>exact⟨_,rfl,by rw[← ha.Hs];exact hq⟩
theorem kj{K:Frag}{H:Hp}{a:Addr}{r:List Int}(h:bf K H a (r.map V.int)):ic K H (.ref a) (cj r):=.tuple h (bj.ints r)
theorem aK.write{H H':Hp}{l:Addr}{o:HO}(sm:aK H H')(h:H l=none):aK H (L2.upd H' l o):=λb u e=>by rw[cG (gN e h)];exact sm b u e
open Classical in
theorem BU{d e:Dat}{A B:Prop}(h:d=e)(b:B):if(if true=true then !decide (d=e)else decide (d=e))=true then A else B:=by
 subst h;simp only[decide_true,Bool.not_true,if_true,Bool.false_eq_true,if_false];exact b
open Classical in
theorem Z2{d e:Dat}(h:d=e):(if false=true then !decide (d=e)else decide (d=e))=true:=by
 subst h;simp only[decide_true,Bool.false_eq_true,if_false]
theorem Z3(n:Nat)(ns:List Int):(ns.map Dat.int).all (kqdOk n)=true:=by
 rw[List.all_map];exact jN.mpr λ_ _=>by cases n<;>rfl
theorem Z4(n:Nat)(rs:LL):(rs.map cj).all (kqdOk (n+1))=true:=by
 rw[List.all_map];exact jN.mpr λr _=>ZL n r
section
variable{X:Cx}(K:Frag)(hK:X.K=K)
include hK
theorem cU:vT X (nX K):=hK▸X2
theorem cH:vT X (uH K):=hK▸X3
theorem kl:sM X (sN K):=hK▸X8
theorem gk:iB X (.builtin "len") (λxs H Q=>∃p ys,xs=[.ref p]∧(dq K H p ys∨bf K H p ys)∧Q (.int ys.length) H):=hK▸Yc
theorem yM:iB X (.type "list") (λxs H Q=>∃p ys,xs=[.ref p]∧(dq K H p ys∨bf K H p ys)∧∀l,H l=none→Q (.ref l) (upd H l (.lst ys))):=hK▸Yd
theorem l6:iB X (.type "tuple") (λxs H Q=>∃p ys,xs=[.ref p]∧((dq K H p ys∧∀l,H l=none→Q (.ref l) (upd H l (.tup ys)))∨(bf K H p ys∧Q (.ref p) H))):=hK▸Ye
theorem Z5{T:String}:iB X (.builtin "isinstance") (λxs H Q=>∃a ys b,xs=[.ref a,.ty T]∧bf K H a ys∧kitOne K (.type "tuple") (.type T)=some b∧Q (.bl b) H):=hK▸ZZ
theorem Z6{T:String}:iB X (.builtin "isinstance") (λxs H Q=>∃i b,xs=[.int i,.ty T]∧kitOne K (.type "int") (.type T)=some b∧Q (.bl b) H):=hK▸Z0
theorem BV(hu:X.A.units+64<cLine):eK X (compareOp .Eq) (BN K false):=hK▸ZJ hu
theorem BW(hu:X.A.units+64<cLine):eK X (compareOp .NotEq) (BN K true):=hK▸ZK hu
theorem rn:eK X (binaryOp .Mult) (yI K):=hK▸ZR
theorem Z7:eK X (compareOp .In) (Bs K false):=hK▸Ya
theorem Z8:eK X (compareOp .NotIn) (Bs K true):=hK▸Yb
theorem iZ{tg l:Expr}{tl:TE}(hl:PE X l tl):PI X tg l (Bf K tl):=hK▸Xp hl
theorem oa{tg l:Expr}{tl:TE}(hl:PE X l tl):PI X tg l (sy K tl):=hK▸Xq hl
theorem Og(b1 b2:Bool){a b:Expr}{ta:TA}{p pos pt:Pos}{es:List Expr}{kt:Nat}(hg:Gl X "zip")(hm:X.mg "zip"=none)(ha:PA X [a,b] ta)(hs:starEach [a,b] X.env=[(false,eval a X.env),(false,eval b X.env)]:=by rfl)(o8:starEach [b] X.env=[(false,eval b X.env)]:=by rfl) :
  PI X (.Tuple es kt pt) (.Call (.Name "zip" p) [a,b] [] pos) (N8 K b1 b2 ta):=hK▸ZC b1 b2 hg hm ha hs o8
theorem HB(b:Bool){a:Expr}{ta:TA}{p pos pt:Pos}{es:List Expr}{kt:Nat}(hg:Gl X "enumerate")(hm:X.mg "enumerate"=none)(ha:PA X [a] ta)(hs:starEach [a] X.env=[(false,eval a X.env)]:=by rfl) :
  PI X (.Tuple es kt pt) (.Call (.Name "enumerate" p) [a] [] pos) (N9 K b ta):=hK▸ZD b hg hm ha hs
theorem yN{es:List Expr}{k:Nat}{t:qd}{n:Nat}{pos:Pos}(hc:X.calm=true)(h:vN X es t)
  (hn:(assignEach es X.env).length=n:=by rfl) (uA:(assignEach es X.env).findIdx? (·.1)=none:=by rfl):PG X (.Tuple es k pos) (FU K n t):=hK▸Xj hc h hn uA
end
theorem lJ:bootBuiltins "tuple"=some (.type "tuple"):=by decide +kernel
theorem rp:bootBuiltins "list"=some (.type "list"):=by decide +kernel
theorem BX:bootBuiltins "int"=some (.type "int"):=by decide +kernel
theorem BY:bootBuiltins "range"=some (.type "range"):=by decide +kernel
theorem BZ:bootBuiltins "isinstance"=some (.builtin "isinstance"):=by decide +kernel
theorem gm:bootBuiltins "len"=some (.builtin "len"):=by decide +kernel
theorem jc{σ:St}{H:Hp}{Y N:Hp→Prop}(h:Y H):jC σ H (λc H4=>if c=true then Y H4 else N H4):=by
 show if true=true then Y H else N H
 exact dZ h
end L2
namespace L2
open PySem
structure Oh(X:Cx)(es:List Expr)(ns:List Int):Prop where
 get:PA X es (λ_ H Q=>Q (ns.map V.int) H)
theorem Oi{X:Cx}{es:List Expr}{ns:List Int}(h:wg es=some ns):Oh X es ns:=⟨Of es ns h⟩
def HG(ns:List Int):TE:=dN (λ_ H Q=>Q (ns.map V.int) H)
theorem Oj{X:Cx}{es:List Expr}{ns:List Int}{pos:Pos}(h:Oh X es ns):PE X (.List es pos) (HG ns):=cE h.get
end L2
namespace L2
open PySem PySem.Spec PyProof.Rows
variable{X:Cx}
section
variable{X:Cx}{pos:Pos}
def wj(K:Frag)(n:Nat)(t:qd):TG:=λv σ H Q=>∃a xs,v=.ref a∧dq K H a xs∧xs.length=n∧t xs σ H Q
theorem rq{es:List Expr}{k n:Nat}{t:qd}(hc:X.calm=true)(h:vN X es t)(hn:(assignEach es X.env).length=n:=by rfl)(uA:(assignEach es X.env).findIdx? (·.1)=none:=by rfl):PG X (.Tuple es k pos) (wj X.K n t):=by
 rintro aI s σ H v u Q I r ⟨a,xs,rfl,hq,hl,hw⟩;cases r;obtain⟨its,rv,pl,_⟩:=I.list hq;have sz:its.toArray.size=n:=by rw[dR,← rv.length,hl]
 rw[assign_Tuple];refine aj (wpAny_standAt ?_);unfold unpack;rw[uA,hn,← sz];refine aj (ak (PySem.W.kun_itemsOf (I.ok.hd hc) pl.isList λh' ex=>?_));exact h aI _ σ H xs _ Q (I.kept (t':=s.toks) λb o e=>ex b o (iw (dX e)) e) (by simpa using rv) hw
end
theorem Z9(l b:Addr)(its vS:Array Value)(n n2:Nat)(dd Bk:Option Addr)(sl Bl:Array (Option Value))(he:its.isEmpty=true) :
  Meets (Builtin.«tuple.__add__» ⟨[.ref l,.ref b],[]⟩) (λ_ R s=>s.heap.get? l=some { cls:=.type "tuple",dict:=dd,data:=.seq its n,slots:=sl }∧s.heap.get? b=some { cls:=.type "tuple",dict:=Bk,data:=.seq vS n2,slots:=Bl }∧R (.ok (.ret (.ref b))) s):=
 .of_wp λ_ _ _ _ s h=>by
  obtain⟨hpA,gA,dA,tkA,osA⟩:=s;have n8:=h.1;have at1:=h.2.1;have f2:=AutoSeq1.sub_tuple_tuple;wp_walk using ue n8,ue at1
  exact⟨_,rfl,h.2.2⟩
def uM(K:Frag):R2:=λx y H Q=>∃a b xs ys,x=.ref a∧y=.ref b∧bf K H a xs∧bf K H b ys∧xs.length+ys.length≤sizeLine∧iY K H (xs++ys) Q
theorem aaa:eK X (binaryOp .Add) (uM X.K):=by
 rintro aI s σ H x y v u Q I rx ry ⟨a,b,xs,ys,rfl,rfl,ha,hb,hz,q⟩;by_cases hx:xs=[]
 ·subst hx;cases rx;cases ry;obtain⟨its,r1,⟨⟨c1,d1,t1,s1⟩,o1,e1,n1,f1⟩,_⟩:=I.tuple ha;obtain⟨vS,r2,⟨⟨c2,d2,t2,s2⟩,o2,e2,n2,f2⟩,_⟩:=I.tuple hb;simp only at e1 f1 e2 f2;subst e1 f1 e2 f2;cases r1;refine concat_meets ⟨_,o1,rfl⟩ ⟨_,o2,rfl⟩ noFill_tuple_add seq_tuple_add PySem.F.slot_tuple_add PySem.F.entry_tuple_add (PySem.F.args_tuple_add_2 _ _) (Z9 a b _ _ _ _ d1 d2 s1 s2 rfl) ⟨o1,o2,?_⟩;exact⟨.ref b,H,I,rfl,q.old hb⟩
 ·refine XZ aI s σ H _ _ v u Q I rx ry ⟨a,b,xs,ys,rfl,rfl,ha,hb,hx,hz,λhy=>?_,λ_ p hp=>q.new hp⟩;subst hy;exact q.old (by rw[j8];exact ha)
theorem dh(K:Frag)(hK:X.K=K):eK X (binaryOp .Add) (uM K):=hK▸aaa
theorem Ol(K:Frag)(hK:X.K=K):sM X (Nd K):=hK▸Nf
theorem Om:∀{bs:List Bool}{its:List Value},Vals (bs.map V.bl) its→its=bs.map Value.bool
 | [],_,.nil=>rfl
 |b::bs,_,.cons r rr=>by
  cases r;rw[Om rr];rfl
theorem aab(d:Bool)(bs:List Bool):(List.range bs.length).map (λi=>(bs[i]?).getD d)=bs:=by
 apply List.ext_getElem
 ·simp
 ·intro i h1 h2;simp[cf h2]
theorem Oo(bs:List Bool):((List.range bs.length).any λi=>(bs[i]?).getD false)=bs.any id:=by
 have e:=ai (λl=>List.any l id) (aab false bs);rw[← e];simp only[List.any_map];rfl
section
variable{X:Cx}
theorem aac(hc:X.calm=true):iB X (.builtin "any") (λxs H Q=>∃p bs,xs=[.ref p]∧dq X.K H p (List.map V.bl bs)∧Q (.bl (bs.any id)) H):=by
 intro aI s σ H vs us Q I r h;obtain⟨p,bs,rfl,hq,q⟩:=h;obtain⟨u,rfl,ru⟩:=vals1 r;cases ru;obtain⟨its,rv,pl,hz⟩:=I.list hq;have e:=Om rv;subst e;have hl:=pl.isList;have cR:p<s.heap.objs.size:=by obtain⟨_,e,_⟩:=hl;exact dX e
 apply call_any_walk;apply wpAny_pyIter_list hl;refine⟨s.heap.objs.size,[s.heap.objs.size,p],[s.heap.objs.size],(bs.map Value.bool).toArray.size,_,_,λi=>(bs[i]?).getD false,rfl,Walks.list (A:=X.A.in1) (I.ok.hd hc) _ p (iw cR) (bs.map Value.bool).toArray,⟨⟨_,iA _ rfl,rfl,rfl⟩,hl.push _⟩,λi v s1 Q1 E1 hP hQ=>?_,λh1 tk1 hk=>?_⟩
 ·have hP:(bs.map Value.bool)[i]?=some v:=by simpa using hP
  rw[dU]at hP;cases e:bs[i]? with
  |none=>rw[e]at hP;cases hP
  |some b=>
   rw[e]at hP;cases hP;dsimp only at hQ;rw[e,Option.getD_some]at hQ;exact ah hQ
 ·have e:((List.range (bs.map Value.bool).toArray.size).any λi=>(bs[i]?).getD false)=bs.any id:=by
   rw[dR,aZ];exact Oo bs
  rw[e];refine⟨.bl _,H,I.kept (λb x e=>hk b x (λhm=>by rw[dP.mp hm]at e;exact uc _ (dX e)) (dS _ e)),rfl,q⟩
theorem aad(K:Frag)(hK:X.K=K)(hc:X.calm=true):iB X (.builtin "any") (λxs H Q=>∃p bs,xs=[.ref p]∧dq K H p (List.map V.bl bs)∧Q (.bl (bs.any id)) H):=hK▸aac hc
theorem B0:bootBuiltins "any"=some (.builtin "any"):=by decide +kernel
end
end L2
namespace Bw
variable{D L rs:LL}{c j m n place:Nat}{f:Nat→Int}{h o:List Int}{ls:List Nat}{p:Int}{u v:Fn}
noncomputable def cq:List Int:=[2,3,5,7,11,13,17,19,23,29,31,37,41,43,47,53,59,61,67,71,73,79,83,89,97]
noncomputable def uN(p n:Int):Nat→Int
 |0=>1
 |k+1=>uN p n k*n%p
noncomputable def dO(p n:Int):Int:=uN p n (p-2).toNat
noncomputable def Oq(p n:Int):Bool:=decide (1≤dO p n)&&decide (dO p n<p)&&decide (dO p n*n%p=1)
theorem aae:(cq.all λp=>(List.range p.toNat).all λn=>n==0||Oq p n)=true:=by decide +kernel
theorem fe:∀p∈cq,2≤p∧p≤97:=by decide +kernel
theorem wk{n:Int}(hp:p∈cq)(h1:1≤n)(h2:n<p):1≤dO p n∧dO p n<p∧dO p n*n%p=1:=by
 have h:=jN.mp aae p hp;have h':=jN.mp h n.toNat (jq.mpr (by lia));have en:((n.toNat:Nat):Int)=n:=by lia
 have n0:(n.toNat==0)=false:=by simp;lia
 rw[n0,Bool.false_or,en]at h';unfold Oq at h';simp only[aF,eX]at h';exact⟨h'.1.1,h'.1.2,h'.2⟩
theorem aaf{n:Int}(hp:2≤p):∀k,0≤uN p n k∧uN p n k<p
 |0=>by unfold uN;lia
 |k+1=>by
  unfold uN;exact⟨lR _ (by lia),lS _ (by lia)⟩
noncomputable def gP(p:Int)(row:List Int)(f:Int)(other:List Int):List Int:=List.zipWith (λa b=>(a+f*b)%p) row other
noncomputable def km(p:Int):List (List Int×Int)→List Int→List Int
 | [],t=>t
 |(r,f)::L,t=>km p L (gP p t f r)
noncomputable def uO(L:List (List Int×Int))(j:Nat):Int:=(L.map λq=>q.1.getD j 0*q.2).sum
theorem aag(r:List Int)(f:Int)(L:List (List Int×Int))(j:Nat):uO ((r,f)::L) j=r.getD j 0*f+uO L j:=by simp[uO]
theorem aah{f:Int}{r:List Int}(c:Nat→Int)(hr:r.length=n):gP p ((List.range n).map λj=>c j%p) f r=(List.range n).map λj=>(c j+r.getD j 0*f)%p:=by
 apply List.ext_getElem
 ·simp[gP,hr]
 ·intro i h1 h2;have hi:i<r.length:=by simp[gP,hr]at h1;lia
  simp only[gP,List.getElem_zipWith,List.getElem_map,List.getElem_range];rw[cO,cf hi,Option.getD_some,sj f,Int.emod_add_emod]
theorem Ot{p:Int}{n:Nat}:∀(L:List (List Int×Int))(c:Nat→Int),(∀q∈L,q.1.length=n)→km p L ((List.range n).map λj=>c j%p)=(List.range n).map λj=>(c j+uO L j)%p
 | [],c,_=>by simp[km,uO]
 |(r,f)::L,c,h=>by
  rw[km,aah c (h (r,f) ek),Ot L (λj=>c j+r.getD j 0*f) λq hq=>h q (iy _ hq)];apply sk;intro j _;rw[aag,Int.add_assoc]
theorem Ou(L:List (List Int×Int))(h:∀q∈L,q.1.length=n):km p L (List.replicate n 0)=(List.range n).map λj=>uO L j%p:=by
 have e:List.replicate n (0:Int)=(List.range n).map λj=>(λ_=>(0:Int)) j%p:=by
  apply List.ext_getElem
  ·simp
  ·intro i _ _;simp
 rw[e,Ot L (λ_=>0) h];apply sk;intro j _;rw[jy]
abbrev Fn:=Nat→Int
def gT(p:Int)(u v:Fn):Prop:=∀j,p∣u j-v j
theorem l7(p a:Int):p∣a%p-a:=⟨-(a/p),by
 have:=Int.emod_add_mul_ediv a p
 rw[Int.mul_neg];lia⟩
theorem gT.refl(p:Int)(u:Fn):gT p u u:=λj=>⟨0,by lia⟩
theorem gT.trans{w:Fn}(h:gT p u v)(k:gT p v w):gT p u w:=λj=>by
 have:=p6 (h j) (k j)
 rwa[show u j-v j+(v j-w j)=u j-w j by lia]at this
inductive Sp(p:Int)(R:Fn→Prop):Fn→Prop
 |zero:Sp p R (λ_=>0)
 |add {v r:Fn} (c:Int):Sp p R v→R r→Sp p R (λj=>v j+c*r j)
 |e8 {u v:Fn}:Sp p R v→gT p v u→Sp p R u
section
variable{p:Int}{R R':Fn→Prop}
theorem Sp.of_eq(h:Sp p R v)(e:∀j,v j=u j):Sp p R u:=.e8 h λj=>⟨0,by rw[e j];lia⟩
theorem Sp.mem{r:Fn}(h:R r):Sp p R r:=(Sp.add 1 .zero h).of_eq λj=>by lia
theorem Sp.plus(c:Int)(hu:Sp p R u)(hv:Sp p R v):Sp p R (λj=>u j+c*v j):=by
 induction hv with
 |zero=>exact hu.of_eq λj=>by simp
 | @add v r d _ hr ih=>exact(Sp.add (c*d) ih hr).of_eq λj=>by rw[Int.mul_add,← Int.add_assoc,Int.mul_assoc]
 | @e8 w v _ e ih=>
  refine .e8 ih λj=>?_
  have:p∣c*(v j-w j):=AJ (e j)
  rw[oT]at this;rwa[show u j+c*v j-(u j+c*w j)=c*v j-c*w j by lia]
theorem Sp.trans(h:∀r,R r→Sp p R' r)(hv:Sp p R v):Sp p R' v:=by
 induction hv with
 |zero=>exact .zero
 |add c _ hr ih=>exact ih.plus c (h _ hr)
 |e8 _ e ih=>exact .e8 ih e
end
noncomputable def fn(r:List Int):Fn:=λj=>r.getD j 0
def RS(L:LL):Fn→Prop:=λf=>∃r∈L,f=fn r
def Rw(p:Int)(n:Nat)(r:List Int):Prop:=r.length=n∧∀x∈r,0≤x∧x<p
def bo(p:Int)(n:Nat)(L:LL):Prop:=∀r∈L,Rw p n r
theorem Rw.at{r:List Int}(hp:0<p)(h:Rw p n r)(j:Nat):0≤r.getD j 0∧r.getD j 0<p:=by
 rw[cO (i:=j)];by_cases hj:j<r.length
 ·rw[cf hj];exact h.2 _ (lj hj)
 ·rw[lC (by lia)];exact⟨Int.le_refl 0,hp⟩
theorem Rw.out{r:List Int}(h:Rw p n r)(hj:n≤j):r.getD j 0=0:=by
 rw[cO,lC (by rw[h.1];exact hj)];rfl
theorem Ov{a b:Int}(h:p∣a-b)(a0:0≤a)(a1:a<p)(b0:0≤b)(b1:b<p):a=b:=by
 obtain⟨c,hc⟩:=h
 have:c=0:=by
  rcases Int.lt_trichotomy c 0 with h|h|h
  ·have:=Mo (show c≤-1 by lia) (show 0≤p by lia)
   lia
  ·exact h
  ·have:=Mo (show 1≤c by lia) (show 0≤p by lia)
   lia
 rw[this]at hc;lia
theorem Rw.ext{r s:List Int}(hp:0<p)(hr:Rw p n r)(hs:Rw p n s)(h:∀j,p∣r.getD j 0-s.getD j 0):r=s:=by
 apply List.ext_getElem (by rw[hr.1,hs.1]);intro i h1 h2
 have:=Ov (h i) (hr.at hp i).1 (hr.at hp i).2 (hs.at hp i).1 (hs.at hp i).2
 simpa[cO,h1,h2]using this
theorem yO{r:List Int}(f:Int)(hr:r.length=n)(ho:o.length=n)(j:Nat):(gP p r f o).getD j 0=if j<n then(r.getD j 0+f*o.getD j 0)%p else 0:=by
 by_cases hj:j<n
 ·rw[ae hj];have h1:j<r.length:=by lia
  have h2:j<o.length:=by lia
  have h3:j<(gP p r f o).length:=by simp[gP];lia
  rw[cO,cf h3,cO,cf h1,cO,cf h2];simp[gP]
 ·rw[af hj,cO,lC (by simp[gP];lia)];rfl
theorem yQ{r:List Int}(f:Int)(hp:0<p)(hr:r.length=n)(ho:o.length=n):Rw p n (gP p r f o):=by
 refine⟨by simp[gP];lia,λx hx=>?_⟩;obtain⟨i,hi,rfl⟩:=my.mp hx;simp only[gP,List.getElem_zipWith];exact⟨lR _ (show p≠0 by lia),lS _ hp⟩
theorem Ow{r:List Int}(f:Int)(hr:r.length=n)(ho:o.length=n):gT p (λj=>fn r j+f*fn o j) (fn (gP p r f o)):=λj=>by
 show p∣r.getD j 0+f*o.getD j 0-(gP p r f o).getD j 0;rw[yO f hr ho];by_cases hj:j<n
 ·rw[ae hj]
  have:=Int.dvd_neg.mpr (l7 p (r.getD j 0+f*o.getD j 0))
  rwa[show -((r.getD j 0+f*o.getD j 0)%p-(r.getD j 0+f*o.getD j 0))=r.getD j 0+f*o.getD j 0-(r.getD j 0+f*o.getD j 0)%p by lia]at this
 ·rw[af hj];have e1:r.getD j 0=0:=by rw[cO,lC (by lia)];rfl
  have e2:o.getD j 0=0:=by rw[cO,lC (by lia)];rfl
  rw[e1,e2];exact⟨0,by simp⟩
noncomputable def eI(p:Int)(lead:List Int)(place:Nat)(row:List Int):List Int:=if row.getD place 0≠0 then gP p row (-(row.getD place 0)) lead else row
section
variable{p:Int}{n place:Nat}{lead row:List Int}
theorem Ox(hp:0<p)(hl:Rw p n lead)(hr:Rw p n row):Rw p n (eI p lead place row):=by
 unfold eI;split
 ·exact yQ _ hp hr.1 hl.1
 ·exact hr
theorem Oy(hl:Rw p n lead)(hr:Rw p n row):gT p (λj=>fn row j + -(row.getD place 0)*fn lead j) (fn (eI p lead place row)):=by
 unfold eI;split
 ·exact Ow _ hr.1 hl.1
 ·rename_i h
  have h0:row.getD place 0=0:=by simpa using h
  rw[h0];intro j;exact⟨0,by simp⟩
theorem B1(hl:Rw p n lead)(hr:Rw p n row)(hj:lead.getD j 0=0)(hp:0<p):(eI p lead place row).getD j 0=row.getD j 0:=by
 unfold eI;split
 ·rw[yO _ hr.1 hl.1,hj,Int.mul_zero,oU];by_cases h:j<n
  ·rw[ae h];exact Int.emod_eq_of_lt (hr.at hp j).1 (hr.at hp j).2
  ·rw[af h,hr.out (by lia)]
 ·rfl
theorem Oz(hl:Rw p n lead)(hr:Rw p n row)(h1:lead.getD place 0=1):(eI p lead place row).getD place 0=0:=by
 unfold eI;split
 ·rw[yO _ hr.1 hl.1,h1];split
  ·rw[Int.mul_one,show row.getD place 0 + -(row.getD place 0)=0 by lia];exact Int.zero_emod p
  ·rfl
 ·rename_i h
  simpa using h
end
noncomputable def ee(p:Int)(n:Nat)(h:List Int)(place:Nat):List Int:=km p [(h,dO p (h.getD place 0))] (List.replicate n 0)
noncomputable def uP(p:Int)(n:Nat)(st:LL×LL)(place:Nat):LL×LL:=
 match st.2.filter λr=>r.getD place 0≠0 with
 | []=>st
 |h::_=>(st.1.map (eI p (ee p n h place) place)++[ee p n h place],st.2.map (eI p (ee p n h place) place))
noncomputable def i0(p:Int)(n:Nat)(L:LL):Nat→LL×LL
 |0=>([],L)
 |k+1=>uP p n (i0 p n L k) k
noncomputable def rA(L:LL):Nat:=(L.head?.map List.length).getD 0
noncomputable def cD(p:Int)(L:LL):LL:=(i0 p (rA L) L (rA L)).1
structure gI(n k:Nat)(D:LL)(ls:List Nat):Prop where
 len:ls.length=D.length
 up:ls.Pairwise (· < ·)
 lt:∀l∈ls,l<k
 one:∀(i:Nat)(r:List Int)(l:Nat),D[i]?=some r→ls[i]?=some l→r.getD l 0=1∧∀j,j<l→r.getD j 0=0
 alone:∀(i i':Nat)(r:List Int)(l:Nat),i≠i'→D[i']?=some r→ls[i]?=some l→r.getD l 0=0
theorem yR(hh:Rw p n h)(j:Nat):(ee p n h place).getD j 0=if j<n then h.getD j 0*dO p (h.getD place 0)%p else 0:=by
 unfold ee;rw[Ou _ (λq hq=>by rw[dP.mp hq];exact hh.1)];by_cases hj:j<n
 ·rw[ae hj];simp[cO,hj,uO]
 ·rw[af hj];simp[cO,hj]
theorem yS(hp:0<p)(hh:Rw p n h):Rw p n (ee p n h place):=by
 unfold ee;rw[Ou _ (λq hq=>by rw[dP.mp hq];exact hh.1)];refine⟨by simp,λx hx=>?_⟩;obtain⟨j,_,rfl⟩:=cP.mp hx;exact⟨lR _ (show p≠0 by lia),lS _ hp⟩
theorem OA(hh:Rw p n h):gT p (λj=>dO p (h.getD place 0)*fn h j) (fn (ee p n h place)):=λj=>by
 show p∣dO p (h.getD place 0)*h.getD j 0-(ee p n h place).getD j 0;rw[yR hh,sj];by_cases hj:j<n
 ·rw[ae hj]
  have:=Int.dvd_neg.mpr (l7 p (h.getD j 0*dO p (h.getD place 0)))
  rwa[show -(h.getD j 0*dO p (h.getD place 0)%p-h.getD j 0*dO p (h.getD place 0))=h.getD j 0*dO p (h.getD place 0)-h.getD j 0*dO p (h.getD place 0)%p by lia]at this
 ·rw[af hj,hh.out (by lia)];exact⟨0,by simp⟩
structure js(p:Int)(n:Nat)(L:LL)(k:Nat)(st:LL×LL):Prop where
 d:bo p n st.1
 r:bo p n st.2
 z:∀r∈st.2,∀j,j<k→r.getD j 0=0
 ig:∃ls,gI n k st.1 ls
 sub:∀r∈st.1++st.2,Sp p (RS L) (fn r)
 sup:∀r∈L,Sp p (RS (st.1++st.2)) (fn r)
theorem OB{k:Nat}{st:LL×LL}(hp:p∈cq)(hk:k+1≤n)(I:js p n L k st):js p n L (k+1) (uP p n st k):=by
  have p0:0<p:=by have:=fe p hp;lia
  obtain⟨D,T⟩:=st;unfold uP;dsimp only;cases hf:T.filter λr=>r.getD k 0≠0 with
  |nil=>
   dsimp only;obtain⟨ls,E⟩:=I.ig;refine⟨I.d,I.r,λr hr j hj=>?_,⟨ls,E.len,E.up,λl hl=>Nat.lt_succ_of_lt (E.lt l hl),E.one,E.alone⟩,I.sub,I.sup⟩;by_cases B2:j<k
   ·exact I.z r hr j B2
   ·have ej:j=k:=by lia
    subst ej;by_cases h0:r.getD j 0=0
    ·exact h0
    ·have:r∈T.filter λr=>r.getD j 0≠0:=pW.mpr ⟨hr,by simpa using h0⟩
     rw[hf]at this;cases this
  |cons h dM=>
   dsimp only;have hm:h∈T.filter λr=>r.getD k 0≠0:=by rw[hf];exact ek
   obtain⟨hT,Ht⟩:=pW.mp hm;have afd:h.getD k 0≠0:=by simpa using Ht
   have hh:=I.r h hT;have kn:Rw p n (ee p n h k):=yS p0 hh;have hb:=hh.at p0 k;obtain⟨t1,t2,t3⟩:=wk hp (show 1≤h.getD k 0 by lia) hb.2;have l1:(ee p n h k).getD k 0=1:=by rw[yR hh,ae (by lia),sj];exact t3
   have l0:∀j,j<k→(ee p n h k).getD j 0=0:=λj hj=>by
    rw[yR hh,I.z h hT j hj,Int.zero_mul];split
    ·exact Int.zero_emod p
    ·rfl
   have OC:∀{Q:Fn→Prop},Sp p Q (fn h)→Sp p Q (fn (ee p n h k)):=λq=>.e8 (((Sp.zero).plus (dO p (h.getD k 0)) q).of_eq λj=>by rw[jy]) (OA hh);have hhS:∀{Q:Fn→Prop},Sp p Q (fn (ee p n h k))→Sp p Q (fn h):=λ{Q} q=>by
    refine .e8 (((Sp.zero).plus (h.getD k 0) q)) λj=>?_;rw[jy];show p∣h.getD k 0*(ee p n h k).getD j 0-h.getD j 0;have a:=OA (place:=k) hh j;have a':p∣h.getD k 0*(dO p (h.getD k 0)*fn h j-fn (ee p n h k) j):=AJ a;rw[oT]at a';have t4:p∣dO p (h.getD k 0)*h.getD k 0-1:=by
     have z:=Int.dvd_neg.mpr (l7 p (dO p (h.getD k 0)*h.getD k 0));rw[t3]at z;rwa[show -(1-dO p (h.getD k 0)*h.getD k 0)=dO p (h.getD k 0)*h.getD k 0-1 by lia]at z
    have b:p∣h.getD j 0*(dO p (h.getD k 0)*h.getD k 0-1):=AJ t4;have c:=Int.dvd_sub b a';have e:h.getD j 0*(dO p (h.getD k 0)*h.getD k 0-1)-(h.getD k 0*(dO p (h.getD k 0)*fn h j)-h.getD k 0*fn (ee p n h k) j)=h.getD k 0*(ee p n h k).getD j 0-h.getD j 0:=by
     show h.getD j 0*(dO p (h.getD k 0)*h.getD k 0-1)-(h.getD k 0*(dO p (h.getD k 0)*h.getD j 0)-h.getD k 0*(ee p n h k).getD j 0)=_;rw[oT,Int.mul_one,Int.mul_left_comm (h.getD k 0),sj (h.getD j 0) (dO p (h.getD k 0)*h.getD k 0),Int.mul_assoc];lia
    rwa[e]at c
   generalize ee p n h k=lead at kn l1 l0 OC hhS ⊢;obtain⟨ls,E⟩:=I.ig;have B3:ls.length=D.length:=E.len;have hD:∀r∈D,Rw p n r:=I.d;have yT:∀r∈T,Rw p n r:=I.r;have spT:Sp p (RS L) (fn h):=I.sub h (jb _ hT);have HH:=OC spT;have jE:∀{Q:Fn→Prop}{r:List Int},Rw p n r→Sp p Q (fn r)→Sp p Q (fn lead)→Sp p Q (fn (eI p lead k r)):=λhr a b=>.e8 (a.plus _ b) (Oy kn hr);have OD:∀{Q:Fn→Prop}{r:List Int},Rw p n r→Sp p Q (fn (eI p lead k r))→Sp p Q (fn lead)→Sp p Q (fn r):=λ{Q r} hr a b=>by
    refine .e8 (a.plus (r.getD k 0) b) λj=>?_;have q:=(Oy (place:=k) kn hr j);have q':=Int.dvd_neg.mpr q;rwa[show -(fn r j + -(r.getD k 0)*fn lead j-fn (eI p lead k r) j)=fn (eI p lead k r) j+r.getD k 0*fn lead j-fn r j by rw[Int.neg_mul];lia]at q'
   refine⟨λr hr=>?_,λr hr=>?_,λr hr j hj=>?_,⟨ls++[k],?_,?_,?_,?_,?_⟩,λr hr=>?_,λr hr=>?_⟩
   ·rcases(dI.mp hr)with(hr|hr)
    ·obtain⟨r0,h0,rfl⟩:=cP.mp hr;exact Ox p0 kn (hD r0 h0)
    ·rw[dP.mp hr];exact kn
   ·obtain⟨r0,h0,rfl⟩:=cP.mp hr;exact Ox p0 kn (yT r0 h0)
   ·obtain⟨r0,h0,rfl⟩:=cP.mp hr;by_cases B2:j<k
    ·rw[B1 kn (yT r0 h0) (l0 j B2) p0];exact I.z r0 h0 j B2
    ·have ej:j=k:=by lia
     subst ej;exact Oz kn (yT r0 h0) l1
   ·simp[E.len]
   ·refine List.pairwise_append.mpr ⟨E.up,by simp,λa ha b hb=>?_⟩;rw[dP.mp hb];exact E.lt a ha
   ·intro l hl;rcases(dI.mp hl)with(hl|hl)
    ·exact Nat.lt_succ_of_lt (E.lt l hl)
    ·rw[dP.mp hl];exact Nat.lt_succ_self k
   ·intro i r l hr hl;by_cases hi:i<D.length
    ·rw[ia (by simpa using hi),dU,cf hi]at hr;rw[ia (by rw[B3];exact hi)]at hl;cases hr;have B4:l<k:=E.lt l (cZ hl);obtain⟨o1,o2⟩:=E.one i _ l (cf hi) hl;have rD:=hD _ (lj hi);refine⟨by rw[B1 kn rD (l0 l B4) p0];exact o1,λj hj=>?_⟩;rw[B1 kn rD (l0 j (by lia)) p0];exact o2 j hj
    ·rw[iI (by simpa using hi),aZ]at hr;rw[iI (by lia),B3]at hl;have e0:i-D.length=0:=by
      have:=(dB.mp hr).1
      simp at this;lia
     rw[e0]at hr hl;simp at hr hl;subst hr hl;exact⟨l1,l0⟩
   ·intro i i' r l cS hr hl;by_cases hi:i<ls.length
    ·rw[ia hi]at hl;have B4:l<k:=E.lt l (cZ hl);by_cases i5:i'<D.length
     ·rw[ia (by simpa using i5),dU,cf i5]at hr;cases hr;rw[B1 kn (hD _ (lj i5)) (l0 l B4) p0];exact E.alone i i' _ l cS (cf i5) hl
     ·rw[iI (by simpa using i5),aZ]at hr;have e0:i' - D.length=0:=by
       have:=(dB.mp hr).1
       simp at this;lia
      rw[e0]at hr;simp at hr;subst hr;exact l0 l B4
    ·rw[iI (by lia)]at hl;have e0:i-ls.length=0:=by
      have:=(dB.mp hl).1
      simp at this;lia
     rw[e0]at hl;simp at hl;subst hl;by_cases i5:i'<D.length
     ·rw[ia (by simpa using i5),dU,cf i5]at hr;cases hr;exact Oz kn (hD _ (lj i5)) l1
     ·rw[iI (by simpa using i5),aZ]at hr;have e1:i' - D.length=0:=by
       have:=(dB.mp hr).1
       simp at this;lia
      lia
   ·rcases(dI.mp hr)with(hr|hr)
    ·rcases(dI.mp hr)with(hr|hr)
     ·obtain⟨r0,h0,rfl⟩:=cP.mp hr;exact jE (hD r0 h0) (I.sub r0 (nR _ h0)) HH
     ·rw[dP.mp hr];exact HH
    ·obtain⟨r0,h0,rfl⟩:=cP.mp hr;exact jE (yT r0 h0) (I.sub r0 (jb _ h0)) HH
   ·refine Sp.trans (λf hf=>?_) (I.sup r hr);obtain⟨r0,h0,rfl⟩:=hf;have wm:Sp p (RS (D.map (eI p lead k)++[lead]++T.map (eI p lead k))) (fn lead):=.mem ⟨lead,by simp,rfl⟩;rcases(dI.mp h0)with(h0|h0)
    ·exact OD (hD r0 h0) (.mem ⟨_,by simp;exact .inl ⟨r0,h0,rfl⟩,rfl⟩) wm
    ·exact OD (yT r0 h0) (.mem ⟨_,by simp;exact .inr (.inr ⟨r0,h0,rfl⟩),rfl⟩) wm
theorem HI{p:Int}{n:Nat}{L:LL}(hp:p∈cq)(hL:bo p n L):∀k,k≤n→js p n L k (i0 p n L k)
 |0,_=>⟨λr hr=>absurd hr (by simp[i0]),by simpa[i0]using hL,λr _ j hj=>absurd hj (by lia),⟨[],by simp[i0],.nil,by simp,by simp[i0],by simp⟩,
   λr hr=>.mem ⟨r,by simpa[i0]using hr,rfl⟩,λr hr=>.mem ⟨r,by simpa[i0]using hr,rfl⟩⟩
 |k+1,hk=>OB hp hk (HI hp hL k (by lia))
noncomputable def Sg(f:Nat→Int):Nat→Int
 |0=>0
 |n+1=>Sg f n+f n
theorem wo(h:∀i,i<n→f i=0):Sg f n=0:=by
 induction n with
 |zero=>rfl
 |succ n ih=>rw[Sg,ih λi hi=>h i (by lia),h n (by lia)];rfl
theorem HJ(f g:Nat→Int)(n:Nat):Sg (λi=>f i+g i) n=Sg f n+Sg g n:=by
 induction n with
 |zero=>rfl
 |succ n ih=>rw[Sg,ih,Sg,Sg];lia
theorem yU(h:∀i,i<n→p∣f i):p∣Sg f n:=by
 induction n with
 |zero=>exact⟨0,by simp[Sg]⟩
 |succ n ih=>rw[Sg];exact p6 (ih λi hi=>h i (by lia)) (h n (by lia))
theorem yV{l:Nat}(hl:l<n):Sg f n=f l+Sg (λi=>if i=l then 0 else f i) n:=by
 induction n with
 |zero=>lia
 |succ n ih=>
  by_cases h:l=n
  ·subst h;rw[Sg,Sg,ae rfl];have e:Sg (λi=>if i=l then 0 else f i) l=Sg f l:=by
    have:∀m,m≤l→Sg (λi=>if i=l then 0 else f i) m=Sg f m:=by
     intro m;induction m with
     |zero=>intro _;rfl
     |succ m ih=>intro hm;rw[Sg,Sg,ih (by lia),af (by lia)]
    exact this l (cu l)
   rw[e];lia
  ·rw[Sg,Sg,ih (by lia),af (λz=>h z.symm)];lia
def ES(n:Nat)(e:Nat→Option (List Int)):Fn→Prop:=λf=>∃l r,l<n∧e l=some r∧f=fn r
noncomputable def dF(e:Nat→Option (List Int))(l j:Nat):Int:=match e l with|some r=>r.getD j 0|none=>0
theorem ES.coeff{e:Nat→Option (List Int)}(h:Sp p (ES n e) v):∃c:Nat→Int,gT p (λj=>Sg (λl=>c l*dF e l j) n) v:=by
 induction h with
 |zero=>exact⟨λ_=>0,λj=>⟨0,by simp[wo]⟩⟩
 | @add v r d _ hr ih=>
  obtain⟨c,hc⟩:=ih;obtain⟨l,row,hl,he,rfl⟩:=hr;refine⟨λi=>c i+if i=l then d else 0,λj=>?_⟩
  have e1:Sg (λi=>(c i+if i=l then d else 0)*dF e i j) n=Sg (λi=>c i*dF e i j) n+d*fn row j:=by
   have e2:(λi=>(c i+if i=l then d else 0)*dF e i j)=λi=>c i*dF e i j+(if i=l then d*fn row j else 0):=by
    funext i
    by_cases hi:i=l
    ·subst hi;rw[ae rfl,ae rfl,Int.add_mul]
     congr 1
     simp[dF,he,fn]
    ·rw[af hi,af hi,oU,oU]
   rw[e2,HJ]
   congr 1
   rw[yV hl,ae rfl,wo λi _=>by by_cases hi:i=l<;>simp[hi]]
   lia
  show p∣Sg (λi=>(c i+if i=l then d else 0)*dF e i j) n-(v j+d*fn row j)
  rw[e1,show Sg (λi=>c i*dF e i j) n+d*fn row j-(v j+d*fn row j)=Sg (λi=>c i*dF e i j) n-v j by lia];exact hc j
 |e8 _ q ih=>
  obtain⟨c,hc⟩:=ih;exact⟨c,hc.trans q⟩
structure HK(n:Nat)(e:Nat→Option (List Int)):Prop where
 one:∀l r,e l=some r→l<n→r.getD l 0=1∧∀j,j<l→r.getD j 0=0
theorem HK.zero{p:Int}{n:Nat}{e:Nat→Option (List Int)}{v:Fn}(E:HK n e)(h:Sp p (ES n e) v)(hz:∀l r,l<n→e l=some r→p∣v l):∀j,p∣v j:=by
 obtain⟨c,hc⟩:=ES.coeff h;have all:∀m,m≤n→∀l,l<m→∀j,p∣c l*dF e l j:=by
  intro m;induction m with
  |zero=>intro _ l hl;lia
  |succ m ih=>
   intro hm l hl j;by_cases og:l<m
   ·exact ih (by lia) l og j
   ·have el:l=m:=by lia
    subst el;cases hr:e l with
    |none=>exact⟨0,by simp[dF,hr]⟩
    |some r=>
     obtain⟨o1,o2⟩:=E.one l r hr (by lia);have s:=hc l;dsimp only at s;rw[yV (show l<n by lia)]at s;have dM:p∣Sg (λi=>if i=l then 0 else c i*dF e i l) n:=yU λi hi=>by
      by_cases h1:i=l
      ·rw[ae h1];exact⟨0,by simp⟩
      ·rw[af h1];by_cases h2:i<l
       ·exact ih (by lia) i h2 l
       ·cases uQ:e i with
        |none=>exact⟨0,by simp[dF,uQ]⟩
        |some r2=>
         have:=(E.one i r2 uQ hi).2 l (by lia)
         refine⟨0,?_⟩;simp only[dF,uQ,this,Int.mul_zero]
     have e1:dF e l l=1:=by simp only[dF,hr];exact o1
     rw[e1,Int.mul_one]at s;have k:=p6 (Int.dvd_sub s dM) (hz l r (by lia) hr);rw[show c l+Sg (λi=>if i=l then 0 else c i*dF e i l) n-v l-Sg (λi=>if i=l then 0 else c i*dF e i l) n+v l=c l by lia]at k
     exact Int.dvd_mul_of_dvd_left k
 intro j;have s:=hc j;dsimp only at s;have t:p∣Sg (λl=>c l*dF e l j) n:=yU λi hi=>all n (cu n) i hi j;have k:=Int.dvd_sub t s;rwa[show Sg (λl=>c l*dF e l j) n-(Sg (λl=>c l*dF e l j) n-v j)=v j by lia]at k
theorem OE{r:List Int}(h:Rw p n r)(hz:∀j,j<n→r.getD j 0=0)(j:Nat):fn r j=0:=by
 by_cases hj:j<n
 ·exact hz j hj
 ·exact h.out (by lia)
noncomputable def ff:LL→List Nat→Nat→Option (List Int)
 |r::D,l::ls,i=>if i=l then some r else ff D ls i
 |_,_,_=>none
theorem sY:∀{D:LL}{ls:List Nat}{l:Nat}{r:List Int},ff D ls l=some r→∃(i:Nat),D[i]?=some r∧ls[i]?=some l
 | [],_,_,_,h=>by simp[ff]at h
 |_::_,[],_,_,h=>by simp[ff]at h
 |q::D,m::ls,l,r,h=>by
  rw[ff]at h;by_cases e:l=m
  ·rw[ae e]at h;cases h;exact⟨0,rfl,by rw[e];rfl⟩
  ·rw[af e]at h;obtain⟨i,h1,h2⟩:=sY h;exact⟨i+1,by simpa using h1,by simpa using h2⟩
theorem B5:∀{D:LL}{ls:List Nat}{i l:Nat}{r:List Int},ls.Pairwise (· < ·)→D[i]?=some r→ls[i]?=some l→ff D ls l=some r
 | [],_,_,_,_,_,h,_=>by simp at h
 |_::_,[],_,_,_,_,_,h=>by simp at h
 |q::D,m::ls,0,l,r,_,h1,h2=>by simp at h1 h2;subst h1 h2;simp[ff]
 |q::D,m::ls,i+1,l,r,hp,h1,h2=>by
  have hl:ls[i]?=some l:=by simpa using h2
  have:m<l:=(AK.mp hp).1 l (cZ hl)
  rw[ff,af (by lia)];exact B5 (AK.mp hp).2 (by simpa using h1) hl
theorem gI.lead{k:Nat}(E:gI n k D ls):HK k (ff D ls):=⟨λl r h _=>by
 obtain⟨i,h1,h2⟩:=sY h;exact E.one i r l h1 h2⟩
theorem gI.sp{k:Nat}(E:gI n k D ls)(h:Sp p (RS D) v):Sp p (ES k (ff D ls)) v:=h.trans λf hf=>by
 obtain⟨r,hr,rfl⟩:=hf;obtain⟨i,hi,rfl⟩:=my.mp hr;have hl:i<ls.length:=by rw[E.len];exact hi
 exact .mem ⟨ls[i],D[i],E.lt _ (lj hl),B5 E.up (cf hi) (cf hl),rfl⟩
structure HM(p:Int)(n:Nat)(L D:LL):Prop where
 rws:bo p n D
 ig:∃ls,gI n n D ls
 sub:∀r∈D,Sp p (RS L) (fn r)
 sup:∀r∈L,Sp p (RS D) (fn r)
theorem B6(h:bo p n L)(cS:L≠[]):rA L=n:=by
 cases L with
 |nil=>exact absurd rfl cS
 |cons r L=>exact(h r ek).1
theorem gZ(hp:p∈cq)(hL:bo p n L):HM p n L (cD p L):=by
 by_cases cS:L=[]
 ·subst cS;exact⟨λr hr=>absurd hr (by simp[cD,rA,i0]),⟨[],by simp[cD,rA,i0],.nil,by simp,by simp,by simp⟩,λr hr=>absurd hr (by simp[cD,rA,i0]),λr hr=>absurd hr (by simp)⟩
 ·unfold cD;rw[B6 hL cS];have I:=HI hp hL n (cu n);generalize i0 p n L n=st at I;refine⟨I.d,I.ig,λr hr=>I.sub r (nR _ hr),λr hr=>(I.sup r hr).trans λf hf=>?_⟩;obtain⟨r0,h0,rfl⟩:=hf;rcases(dI.mp h0)with(h0|h0)
  ·exact .mem ⟨r0,h0,rfl⟩
  ·exact(Sp.zero).of_eq λj=>(OE (I.r r0 h0) (I.z r0 h0) j).symm
theorem gI.same(E:gI n n D ls)(hu:Sp p (RS D) u)(hv:Sp p (RS D) v)(h:∀l∈ls,p∣u l-v l):gT p u v:=λj=>by
 have hd:Sp p (RS D) (λj=>u j+(-1)*v j):=hu.plus (-1) hv
 have:=E.lead.zero (E.sp hd) (λl r _ he=>by
  obtain⟨i,_,h2⟩:=sY he;have q:=h l (cZ h2);show p∣u l + -1*v l;rwa[show u l + -1*v l=u l-v l by lia]) j
 rwa[show u j + -1*v j=u j-v j by lia]at this
theorem HN(hp:p∈cq):¬p∣1:=λ⟨c,hc⟩=>by
 have:=fe p hp
 rcases Int.lt_trichotomy c 0 with h|h|h
 ·have:=Mo (show c≤-1 by lia) (show 0≤p by lia)
  lia
 ·rw[h]at hc;lia
 ·have:=Mo (show 1≤c by lia) (show 0≤p by lia)
  lia
theorem gI.starts(hp:p∈cq)(E:gI n n D ls){l:Nat}(hv:Sp p (RS D) v)(h1:v l=1)(h0:∀j,j<l→v j=0):l∈ls:=by
 by_cases hm:l∈ls
 ·exact hm
 ·exfalso;obtain⟨c,hc⟩:=ES.coeff (E.sp hv);have all:∀m,m≤l→∀i,i<m→∀j,p∣c i*dF (ff D ls) i j:=by
   intro m;induction m with
   |zero=>intro _ i hi;lia
   |succ m ih=>
    intro hml i hi j;by_cases him:i<m
    ·exact ih (by lia) i him j
    ·have ei:i=m:=by lia
     subst ei;cases hr:ff D ls i with
     |none=>exact⟨0,by simp[dF,hr]⟩
     |some r=>
      obtain⟨z,z1,z2⟩:=sY hr;have o9:i<n:=E.lt i (cZ z2);have s:=hc i;dsimp only at s;rw[yV o9,h0 i (by lia)]at s;have dM:p∣Sg (λq=>if q=i then 0 else c q*dF (ff D ls) q i) n:=yU λq hq=>by
       by_cases q1:q=i
       ·rw[ae q1];exact⟨0,by simp⟩
       ·rw[af q1];by_cases q2:q<i
        ·exact ih (by lia) q q2 i
        ·cases gH:ff D ls q with
         |none=>exact⟨0,by simp[dF,gH]⟩
         |some r2=>
          have:=(E.lead.one q r2 gH hq).2 i (by lia)
          exact⟨0,by simp only[dF,gH,this,Int.mul_zero]⟩
      have e1:dF (ff D ls) i i=1:=by simp only[dF,hr];exact(E.lead.one i r hr o9).1
      rw[e1,Int.mul_one]at s;have k:=Int.dvd_sub s dM;rw[show c i+Sg (λq=>if q=i then 0 else c q*dF (ff D ls) q i) n-0-Sg (λq=>if q=i then 0 else c q*dF (ff D ls) q i) n=c i by lia]at k
      exact Int.dvd_mul_of_dvd_left k
  have s:=hc l;dsimp only at s;have t:p∣Sg (λq=>c q*dF (ff D ls) q l) n:=yU λq hq=>by
   by_cases q2:q<l
   ·exact all l (cu l) q q2 l
   ·cases gH:ff D ls q with
    |none=>exact⟨0,by simp[dF,gH]⟩
    |some r2=>
     obtain⟨z,z1,z2⟩:=sY gH
     have:q≠l:=λe=>hm (e▸cZ z2)
     have:=(E.lead.one q r2 gH hq).2 l (by lia)
     exact⟨0,by simp only[dF,gH,this,Int.mul_zero]⟩
  have k:=Int.dvd_sub t s;rw[show Sg (λq=>c q*dF (ff D ls) q l) n-(Sg (λq=>c q*dF (ff D ls) q l) n-v l)=v l by lia,h1]at k;exact HN hp k
theorem HP:∀{a b:List Nat},a.Pairwise (· < ·)→b.Pairwise (· < ·)→(∀x,x∈a↔x∈b)→a=b
 | [],[],_,_,_=>rfl
 | [],y::b,_,_,h=>absurd ((h y).mpr ek) (by simp)
 |x::a,[],_,_,h=>absurd ((h x).mp ek) (by simp)
 |x::a,y::b,ha,hb,h=>by
  obtain⟨a1,a2⟩:=AK.mp ha;obtain⟨b1,b2⟩:=AK.mp hb;have exy:x=y:=by
   rcases eW.mp ((h x).mp ek)with e|e
   ·exact e
   ·rcases eW.mp ((h y).mpr ek)with e2|e2
    ·exact e2.symm
    ·have:=b1 x e
     have:=a1 y e2
     lia
  subst exy
  congr 1
  refine HP a2 b2 λz=>⟨λhz=>?_,λhz=>?_⟩
  ·rcases eW.mp ((h z).mp (iy _ hz))with e|e
   ·have:=a1 z hz;lia
   ·exact e
  ·rcases eW.mp ((h z).mpr (iy _ hz))with e|e
   ·have:=b1 z hz;lia
   ·exact e
theorem gI.unique{D':LL}{rB:List Nat}(hp:p∈cq)(E:gI n n D ls)(E':gI n n D' rB)(hD:bo p n D)(hD':bo p n D')(s1:∀r∈D,Sp p (RS D') (fn r))(s2:∀r∈D',Sp p (RS D) (fn r)):D=D':=by
 have p0:0<p:=by have:=fe p hp;lia
 have OF:∀{D D':LL}{ls rB:List Nat},gI n n D ls→gI n n D' rB→(∀r∈D,Sp p (RS D') (fn r))→∀x,x∈ls→x∈rB:=λ{D D' ls rB} E E' s x hx=>by
  obtain⟨i,hi,rfl⟩:=my.mp hx;have OG:i<D.length:=by rw[← E.len];exact hi
  obtain⟨o1,o2⟩:=E.one i D[i] ls[i] (cf OG) (cf hi);exact E'.starts hp (s _ (lj OG)) o1 o2
 have el:ls=rB:=HP E.up E'.up λx=>⟨OF E E' s1 x,OF E' E s2 x⟩;subst el;have B3:D.length=D'.length:=by rw[← E.len,← E'.len]
 apply List.ext_getElem B3;intro i h1 h2;have hi:i<ls.length:=by rw[E.len];exact h1
 refine(hD _ (lj h1)).ext p0 (hD' _ (lj h2)) ?_;refine E'.same (s1 _ (lj h1)) (.mem ⟨_,lj h2,rfl⟩) λl hl=>?_;obtain⟨k,hk,rfl⟩:=my.mp hl;by_cases HQ:k=i
 ·subst HQ;have a:=(E.one k D[k] ls[k] (cf h1) (cf hk)).1;have b:=(E'.one k D'[k] ls[k] (cf h2) (cf hk)).1;show p∣(D[k]).getD ls[k] 0-(D'[k]).getD ls[k] 0;rw[a,b];exact⟨0,by lia⟩
 ·have a:=E.alone k i D[i] ls[k] HQ (cf h1) (cf hk);have b:=E'.alone k i D'[i] ls[k] HQ (cf h2) (cf hk);show p∣(D[i]).getD ls[k] 0-(D'[i]).getD ls[k] 0;rw[a,b];exact⟨0,by lia⟩
theorem aai{L':LL}(hp:p∈cq)(hL:bo p n L)(uR:bo p n L')(s1:∀r∈L,Sp p (RS L') (fn r))(s2:∀r∈L',Sp p (RS L) (fn r)):cD p L=cD p L':=by
 have A:=gZ hp hL;have B:=gZ hp uR;obtain⟨ls,E⟩:=A.ig;obtain⟨rB,E'⟩:=B.ig;have t:∀{P Q:LL},(∀r∈P,Sp p (RS Q) (fn r))→∀{v:Fn},Sp p (RS P) v→Sp p (RS Q) v:=λh v hv=>hv.trans λf hf=>by
  obtain⟨r,hr,rfl⟩:=hf;exact h r hr
 exact E.unique hp E' A.rws B.rws (λr hr=>t B.sup (t s1 (A.sub r hr))) (λr hr=>t A.sup (t s2 (B.sub r hr)))
theorem OH{f:Int→Int}{r:List Int}(hr:r.length=n)(h0:j<n):(r.map f).getD j 0=f (r.getD j 0):=by
 have:j<r.length:=by lia
 rw[cO,dU,cf this,cO,cf this];rfl
noncomputable def qm(r:List Int):List Nat:=(List.range r.length).filter λj=>r.getD j 0≠0
theorem aaj{r:List Int}(h:qm r=[])(j:Nat)(hj:j<r.length):r.getD j 0=0:=by
 have:=List.filter_eq_nil_iff.mp h j (jq.mpr hj)
 simpa using this
theorem aak{r:List Int}{l:Nat}{t:List Nat}(h:qm r=l::t):l<r.length∧r.getD l 0≠0∧∀j,j<l→r.getD j 0=0:=by
 have hm:l∈qm r:=by rw[h];exact ek
 have h1:=pW.mp hm;have hl:=jq.mp h1.1;refine⟨hl,by simpa using h1.2,λj hj=>?_⟩;apply FF;intro cS;have rC:j∈qm r:=pW.mpr ⟨jq.mpr (by lia),by simpa using cS⟩;rw[h]at rC;have hs:(qm r).Pairwise (· < ·):=List.Pairwise.filter _ List.pairwise_lt_range;rw[h]at hs;cases rC with
 |head=>lia
 |tail _ rC=>have:=(AK.mp hs).1 j rC;lia
theorem OI{r:List Int}{l:Nat}(hr:r.length=n)(hl:l<n)(h1:r.getD l 0=1)(h0:∀j,j<l→r.getD j 0=0):∃t,qm r=l::t:=by
 cases h:qm r with
 |nil=>have:=aaj h l (by lia);lia
 |cons m t=>
  obtain⟨a,b,c⟩:=aak h
  have:m=l:=by
   apply FF;intro cS;by_cases cR:m<l
   ·exact b (h0 m cR)
   ·have:=c l (by lia);lia
  exact⟨t,by rw[this]⟩
noncomputable def dot(f v:Fn)(m:Nat):Int:=Sg (λi=>f i*v i) m
theorem wq{g:Nat→Int}(h:∀i,i<n→f i=g i):Sg f n=Sg g n:=by
 induction n with
 |zero=>rfl
 |succ n ih=>rw[Sg,Sg,ih λi hi=>h i (by lia),h n (by lia)]
theorem aal(c:Int)(f:Nat→Int)(n:Nat):Sg (λi=>c*f i) n=c*Sg f n:=by
 induction n with
 |zero=>simp[Sg]
 |succ n ih=>rw[Sg,Sg,ih,Int.mul_add]
theorem aam(f u v:Fn)(c:Int)(m:Nat):dot f (λj=>u j+c*v j) m=dot f u m+c*dot f v m:=by
 unfold dot;rw[← aal,← HJ];exact wq λi _=>by rw[Int.mul_add,Int.mul_left_comm]
theorem aan{f:Fn}(h:gT p u v):p∣dot f u m-dot f v m:=by
 have e:dot f u m-dot f v m=Sg (λi=>f i*(u i-v i)) m:=by
  have:dot f u m=Sg (λi=>f i*(u i-v i)) m+dot f v m:=by
   unfold dot;rw[← HJ];exact wq λi _=>by rw[← Int.mul_add];congr 1;lia
  lia
 rw[e];exact yU λi _=>Int.dvd_trans (h i) (Int.dvd_mul_left _ _)
theorem OJ{f:Fn}{R:Fn→Prop}(h:∀r,R r→p∣dot f r m)(hv:Sp p R v):p∣dot f v m:=by
 induction hv with
 |zero=>exact⟨0,by unfold dot;rw[wo λi _=>by simp];simp⟩
 |add c _ hr ih=>
  rw[aam];exact p6 ih (Int.dvd_trans (h _ hr) (Int.dvd_mul_left _ _))
 |e8 _ e ih=>
  have:=Int.dvd_sub ih (aan (f:=f) (m:=m) e)
  rwa[show ∀a b:Int,a-(a-b)=b from λa b=>by lia]at this
noncomputable def yX(f:Fn)(c:Nat):Fn:=λi=>if i=c then -1 else f i
theorem B7(f v:Fn)(c:Nat):dot (yX f c) v (c+1)=dot f v c-v c:=by
 unfold dot;rw[Sg];have e1:yX f c c=-1:=ae rfl;rw[e1,wq (g:=λi=>f i*v i) λi hi=>by unfold yX;rw[af (by lia)]];lia
theorem OK{A:LL}(hp:p∈cq)(R:HM p (c+1) A D){r:List Int}(hr:r∈D)(h1:r.getD c 0=1)(h0:∀j,j<c→r.getD j 0=0)(f:Fn):¬ ∀a∈A,p∣dot f (fn a) c-fn a c:=λh=>by
 have hd:p∣dot (yX f c) (fn r) (c+1):=OJ (R:=RS A) (λg hg=>by
  obtain⟨a,ha,rfl⟩:=hg;rw[B7];exact h a ha) (R.sub r hr)
 rw[B7]at hd;have z:dot f (fn r) c=0:=wo λi hi=>by
  show f i*r.getD i 0=0;rw[h0 i hi,Int.mul_zero]
 rw[z]at hd
 have:p∣1:=by
  have:=Int.dvd_neg.mpr hd
  rwa[show -(0-fn r c)=1 by show -(0-r.getD c 0)=1;rw[h1];rfl]at this
 exact HN hp this
theorem OL{A:LL}(R:HM p (c+1) A D)(E:gI (c+1) (c+1) D ls)(hl:∀l∈ls,l<c):∀a∈A,p∣dot (λk=>dF (ff D ls) k c) (fn a) c-fn a c:=by
 have key:∀r∈D,p∣dot (yX (λk=>dF (ff D ls) k c) c) (fn r) (c+1):=λr hr=>by
  obtain⟨i,hi,rfl⟩:=my.mp hr;have jU:i<ls.length:=by rw[E.len];exact hi
  have hD:=cf hi;have hL:=cf jU;obtain⟨o1,o2⟩:=E.one i _ _ hD hL;have nh:=hl _ (lj jU);rw[B7];have e:dot (λk=>dF (ff D ls) k c) (fn D[i]) c=fn D[i] c:=by
   unfold dot;rw[yV nh,wo λk hk=>?_]
   ·have q:ff D ls ls[i]=some D[i]:=B5 E.up hD hL;show dF (ff D ls) ls[i] c*(D[i]).getD ls[i] 0+0=(D[i]).getD c 0;unfold dF;rw[q];show(D[i]).getD c 0*(D[i]).getD ls[i] 0+0=(D[i]).getD c 0;rw[o1,Int.mul_one,oU]
   ·by_cases HR:k=ls[i]
    ·rw[ae HR]
    ·rw[af HR];cases q:ff D ls k with
     |none=>
      show dF (ff D ls) k c*_=0;unfold dF;rw[q,Int.zero_mul]
     |some r'=>
      obtain⟨i',fY,uS⟩:=sY q;have cS:i'≠i:=λz=>by
       subst z;rw[hL]at uS;exact HR (c8 uS).symm
      have:=E.alone i' i _ k cS hD uS
      show dF (ff D ls) k c*(D[i]).getD k 0=0;rw[this,Int.mul_zero]
  rw[e];exact⟨0,by lia⟩
 intro a ha
 have:=OJ (R:=RS D) (λg hg=>by obtain⟨r,hr,rfl⟩:=hg;exact key r hr) (R.sup a ha)
 rwa[B7]at this
noncomputable def ko(rs:LL)(r:List Int)(j:Nat):List Int:=rs.map (λq=>q.getD j 0)++[r.getD j 0]
theorem OM{r:List Int}(p0:0<p)(hR:bo p n rs)(hr:Rw p n r):Rw p (rs.length+1) (ko rs r j):=by
 refine⟨by simp[ko],λx hx=>?_⟩;refine(dI.mp hx).elim (λh=>?_) λh=>?_
 ·obtain⟨q,hq,rfl⟩:=cP.mp h;exact(hR q hq).at p0 j
 ·rw[dP.mp h];exact hr.at p0 j
theorem B8{r:List Int}:fn (ko rs r j) rs.length=r.getD j 0:=by
 show(ko rs r j).getD rs.length 0=_;unfold ko;rw[cO,iI (by simp)];simp
theorem B9{r:List Int}(f:Fn):dot f (fn (ko rs r j)) rs.length=dot f (fn (rs.map λq=>q.getD j 0)) rs.length:=by
 unfold dot;refine wq λi hi=>?_;show f i*(ko rs r j).getD i 0=f i*(rs.map λq=>q.getD j 0).getD i 0;unfold ko;rw[cO,ia (by simp;exact hi),← cO]
theorem HU{fs:List Int}{l k:Nat}{v:Int}(h:l<fs.length):(fs.set l v).getD k 0=if k=l then v else fs.getD k 0:=by
 rw[cO,List.getElem?_set];by_cases e:l=k
 ·subst e;simp[h]
 ·rw[af e,af (λz=>e z.symm),cO]
structure FI(p:Int)(c:Nat)(D:LL)(ls:List Nat)(i:Nat)(fs:List Int):Prop where
 rw:Rw p c fs
 lt:∀i' l,i'<i→ls[i']?=some l→l<c
 at_:∀i' l r,i'<i→ls[i']?=some l→D[i']?=some r→fs.getD l 0=r.getD c 0
 off:∀k,(∀i',i'<i→ls[i']?≠some k)→fs.getD k 0=0
theorem FI.start(p0:0<p):FI p c D ls 0 (List.replicate c 0):=
 ⟨⟨by simp,λx hx=>by rw[(qM.mp hx).2];lia⟩,λ_ _ h=>by lia,λ_ _ _ h=>by lia,λk _=>by rw[cO,FE];split<;>rfl⟩
theorem FI.step{i l:Nat}{fs r:List Int}(p0:0<p)(F:FI p c D ls i fs)(up:ls.Pairwise (· < ·))(hr:Rw p m r)(hl:ls[i]?=some l)(hD:D[i]?=some r)(hc:l<c):FI p c D ls (i+1) (fs.set l (r.getD c 0)):=by
 have lK:l<fs.length:=by rw[F.rw.1];exact hc
 have ne:∀i' l',i'<i→ls[i']?=some l'→l'≠l:=λi' l' h1 h2 z=>by
  obtain⟨a,ea⟩:=dB.mp h2;obtain⟨b,eb⟩:=dB.mp hl
  have:=List.pairwise_iff_getElem.mp up i' i a b h1
  lia
 refine⟨⟨by rw[List.length_set];exact F.rw.1,λx hx=>?_⟩,λi' l' h1 h2=>?_,λi' l' r' h1 h2 h3=>?_,λk hk=>?_⟩
 ·rcases List.mem_or_eq_of_mem_set hx with h|rfl
  ·exact F.rw.2 x h
  ·exact hr.at p0 c
 ·by_cases e:i'=i
  ·subst e;rw[hl]at h2;cases h2;exact hc
  ·exact F.lt i' l' (by lia) h2
 ·by_cases e:i'=i
  ·subst e;rw[hl]at h2;rw[hD]at h3;cases h2;cases h3;rw[HU lK,ae rfl]
  ·rw[HU lK,af (ne i' l' (by lia) h2)];exact F.at_ i' l' r' (by lia) h2 h3
 ·have:k≠l:=λz=>hk i (by lia) (by rw[hl,z])
  rw[HU lK,af this];exact F.off k λi' h=>hk i' (by lia)
theorem FI.done{fs:List Int}(up:ls.Pairwise (· < ·))(len:ls.length=D.length)(F:FI p c D ls D.length fs)(k:Nat):fs.getD k 0=dF (ff D ls) k c:=by
 unfold dF;cases q:ff D ls k with
 |some r=>
  obtain⟨i,h1,h2⟩:=sY q;exact F.at_ i k r (dB.mp h1).1 h2 h1
 |none=>
  refine F.off k λi hi h=>?_
  have:=B5 up (cf hi) h
  rw[q]at this;cases this
noncomputable def col(rs:LL)(j:Nat):Fn:=fn (rs.map λq=>q.getD j 0)
theorem HV{k:Nat}{q:List Int}(h:rs[k]?=some q):col rs j k=q.getD j 0:=by
 show(rs.map λq=>q.getD j 0).getD k 0=_;rw[cO,dU,h];rfl
theorem ON{p:Int}{rs:LL}(f:Fn):∀m,m≤rs.length→Sp p (RS rs) (λj=>dot f (col rs j) m)
 |0,_=>Sp.zero
 |m+1,h=>by
  have hm:m<rs.length:=h;refine(Sp.add (f m) (ON f m (by lia)) ⟨rs[m],lj hm,rfl⟩).of_eq λj=>?_;show dot f (col rs j) m+f m*fn rs[m] j=dot f (col rs j) (m+1);unfold dot;rw[Sg,HV (cf hm)];rfl
noncomputable def aao(rs:LL)(fs:List Int)(j:Nat):Int:=(List.zipWith (λr f=>r.getD j 0*f) rs fs).sum
noncomputable def l8(p:Int)(rs:LL)(fs:List Int)(n:Nat):List Int:=(List.range n).map λj=>aao rs fs j%p
def rE(p:Int):List (Fn×Nat)→Prop
 | []=>True
 |q::F=>¬p∣q.1 q.2∧(∀x∈F,p∣x.1 q.2)∧rE p F
theorem aap{U:List Fn}(h:Sp p (·∈u::U) v):∃(c:Int)(w:Fn),Sp p (·∈U) w∧gT p (λj=>w j+c*u j) v:=by
 induction h with
 |zero=>exact⟨0,λ_=>0,.zero,λj=>⟨0,by simp⟩⟩
 | @add v r d _ hr ih=>
  obtain⟨c,w,hw,e⟩:=ih;rcases(eW.mp hr)with(rfl|hr)
  ·refine⟨c+d,w,hw,λj=>?_⟩;obtain⟨k,hk⟩:=e j;exact⟨k,by grind⟩
  ·refine⟨c,_,Sp.add d hw hr,λj=>?_⟩;obtain⟨k,hk⟩:=e j;exact⟨k,by grind⟩
 |e8 _ e ih=>
  obtain⟨c,w,hw,e2⟩:=ih;exact⟨c,w,hw,e2.trans e⟩
theorem aaq{c:Int}(hp:p∈cq)(h:¬p∣c):∃d,p∣d*c-1:=by
 have p2:=(fe p hp).1;have h0:0≤c%p:=lR _ (by lia);have h1:c%p<p:=lS _ (by lia);have h2:c%p≠0:=λz=>h (Int.dvd_of_emod_eq_zero z);obtain⟨_,_,e⟩:=wk hp (show 1≤c%p by lia) h1;refine⟨dO p (c%p),?_⟩;obtain⟨k,hk⟩:=l7 p c;obtain⟨k2,uT⟩:=l7 p (dO p (c%p)*(c%p));rw[e]at uT;exact⟨-k2-dO p (c%p)*k,by grind⟩
theorem OO{p:Int}(hp:p∈cq){u:Fn}{U:List Fn}:∀F:List (Fn×Nat),rE p F→(∀x∈F,Sp p (·∈u::U) x.1)→
  (∀x∈F,Sp p (·∈U) x.1)∨∃(r0 w0:Fn)(d:Int)(F':List (Fn×Nat)),Sp p (·∈U) w0∧gT p (λj=>w0 j+d*r0 j) u∧F'.length+1=F.length∧rE p F'∧(∀x∈F',Sp p (·∈U) x.1)∧
   ∀j,(∀x∈F,p∣x.1 j)→p∣r0 j∧∀x∈F',p∣x.1 j
 | [],_,_=>.inl λx hx=>(nomatch hx)
 |(r,l)::G,⟨h1,h2,h3⟩,hS=>by
  obtain⟨c,w,hw,e⟩:=aap (hS (r,l) ek);rcases OO hp G h3 (λx hx=>hS x (iy _ hx))with hG|⟨r0,w0,d,F',a1,a2,a3,a4,a5,a6⟩
  ·by_cases hc:p∣c
   ·refine .inl λx hx=>?_;rcases(eW.mp hx)with(rfl|hx)
    ·refine .e8 hw λj=>?_;obtain⟨k,hk⟩:=e j;obtain⟨k2,uT⟩:=hc;exact⟨k-k2*u j,by grind⟩
    ·exact hG x hx
   ·obtain⟨d,hd⟩:=aaq hp hc;refine .inr ⟨r,λj=>0 + -d*w j,d,G,Sp.plus (-d) .zero hw,λj=>?_,rfl,h3,hG,λj hj=>⟨hj _ ek,λx hx=>hj x (iy _ hx)⟩⟩;obtain⟨k,hk⟩:=e j;obtain⟨k2,uT⟩:=hd;exact⟨-d*k+k2*u j,by grind⟩
  ·have z0:=a6 l h2;refine .inr ⟨r0,w0,d,(λj=>r j + -(c*d)*r0 j,l)::F',a1,a2,by simp[a3],⟨λz=>h1 ?_,z0.2,a4⟩,λx hx=>?_,λj hj=>?_⟩
   ·obtain⟨k,hk⟩:=z;obtain⟨k2,uT⟩:=z0.1;exact⟨k+c*d*k2,by grind⟩
   ·rcases(eW.mp hx)with(rfl|hx)
    ·refine .e8 (hw.plus c a1) λj=>?_;obtain⟨k,hk⟩:=e j;obtain⟨k2,uT⟩:=a2 j;exact⟨k+c*k2,by grind⟩
    ·exact a5 x hx
   ·obtain⟨b1,b2⟩:=a6 j λx hx=>hj x (iy _ hx);refine⟨b1,λx hx=>?_⟩;rcases(eW.mp hx)with(rfl|hx)
    ·obtain⟨k,hk⟩:=hj (r,l) ek;obtain⟨k2,uT⟩:=b1;exact⟨k-c*d*k2,by grind⟩
    ·exact b2 x hx
theorem aar{R:Fn→Prop}(h0:∀f,¬R f)(h:Sp p R v)(j:Nat):p∣v j:=by
 induction h with
 |zero=>exact⟨0,by simp⟩
 |add c _ hr ih=>exact absurd hr (h0 _)
 |e8 _ e ih=>
  obtain⟨k,hk⟩:=ih;obtain⟨k2,uT⟩:=e j;exact⟨k-k2,by grind⟩
theorem Ca{p:Int}(hp:p∈cq):∀(U:List Fn)(F:List (Fn×Nat)),rE p F→(∀x∈F,Sp p (·∈U) x.1)→F.length≤U.length
 | [],F,hT,hS=>by
  cases F with
  |nil=>exact cu _
  |cons q F=>exact absurd (aar (λf hf=>nomatch hf) (hS q ek) q.2) hT.1
 |u::U,F,hT,hS=>by
  rcases OO hp F hT hS with h|⟨_,_,_,F',_,_,a3,a4,a5,_⟩
  ·exact Nat.le_succ_of_le (Ca hp U F hT h)
  ·have:=Ca hp U F' a4 a5
   simp only[eE];lia
theorem OP:Sp p (RS L) v↔Sp p (·∈L.map fn) v:=by
 constructor
 ·exact λh=>h.trans λf ⟨r,hr,e⟩=>.mem (e▸AL hr)
 ·exact λh=>h.trans λf hf=>by
   obtain⟨r,hr,rfl⟩:=cP.mp hf;exact .mem ⟨r,hr,rfl⟩
theorem OQ{p:Int}(hp:p∈cq):∀{L:LL}{ls:List Nat},(∀(i:Nat)(r:List Int)(l:Nat),L[i]?=some r→ls[i]?=some l→r.getD l 0=1)→(∀(i j:Nat)(r:List Int)(l:Nat),i<j→L[j]?=some r→ls[i]?=some l→r.getD l 0=0)→rE p ((L.map fn).zip ls)
 | [],_,_,_=>trivial
 |_::_,[],_,_=>trivial
 |r::L,l::ls,h1,h2=>by
  refine⟨λz=>?_,λx hx=>?_,OQ hp (λi r l a b=>h1 (i+1) r l a b) (λi j r l h a b=>h2 (i+1) (j+1) r l (by lia) a b)⟩
  ·have e:=h1 0 r l rfl rfl;have z:p∣r.getD l 0:=z;rw[e]at z;exact HN hp z
  ·obtain⟨q,hq,e⟩:=cP.mp (qI hx).1;obtain⟨j,hj,rfl⟩:=my.mp hq
   have:=h2 0 (j+1) L[j] l (by lia) (cf (l:=r::L) (i:=j+1) (by simpa using hj)) rfl
   rw[← e];exact⟨0,by show(L[j]).getD l 0=_;rw[this];lia⟩
theorem gI.OR{k:Nat}(hp:p∈cq)(E:gI n k D ls):rE p ((D.map fn).zip ls):=
 OQ hp (λi r l a b=>(E.one i r l a b).1) λi j r l h a b=>E.alone i j r l (by lia) a b
noncomputable def aas(n:Nat)(ls:List Nat):List Nat:=(List.range n).filter λj=>j ∉ ls
theorem aat(up:ls.Pairwise (· < ·))(lt:∀l∈ls,l<n):(aas n ls).length+ls.length=n:=by
 have hnd:ls.Nodup:=up.imp λh=>by lia
 have h1:((List.range n).filter λj=>j∈ls).length=ls.length:=by
  have e:((List.range n).filter λj=>j∈ls)=ls:=by
   refine HP (List.Pairwise.filter _ List.pairwise_lt_range) up λx=>?_;simp only[pW,jq,aF];exact⟨λh=>h.2,λh=>⟨lt x h,h⟩⟩
  rw[e]
 have h2:∀L:List Nat,(L.filter λj=>j ∉ ls).length+(L.filter λj=>j∈ls).length=L.length:=by
  intro L;induction L with
  |nil=>rfl
  |cons a L ih=>
   by_cases h:a∈ls
   ·rw[List.filter_cons_of_neg (by simpa using h),FG (by simpa using h),eE,eE];lia
   ·rw[FG (by simpa using h),List.filter_cons_of_neg (by simpa using h),eE,eE];lia
 have:=h2 (List.range n)
 rw[h1,qL]at this;exact this
theorem OS{p:Int}{f:Fn}{l:Nat}(hf:¬p∣f l):∀{A:List (Fn×Nat)},rE p A→(∀q∈A,p∣f q.2)→rE p (A++[(f,l)])
 | [],_,_=>⟨hf,λx hx=>(nomatch hx),trivial⟩
 |q::A,⟨h1,h2,h3⟩,h=>⟨h1,λx hx=>by
   rcases(dI.mp hx)with(hx|hx)
   ·exact h2 x hx
   ·rw[dP.mp hx];exact h q ek,OS hf h3 λq hq=>h q (iy _ hq)⟩
noncomputable def aau(D:LL):List Nat:=D.map λr=>(qm r).headD 0
section
variable{p:Int}{n:Nat}{D:LL}{ls:List Nat}
end
end Bw
namespace L2
open PySem Bw
def LR(N:Addr→Prop)(H:Hp)(LS:List V)(L:LL):Prop:=LS.length=L.length∧∀(i:Nat)(v:V)(r:List Int),LS[i]?=some v→L[i]?=some r→∃a,v=.ref a∧N a∧H a=some (.lst (r.map V.int))
noncomputable abbrev Cb(r:List Int):Dat:=.list (r.map .int)
section
variable{N:Addr→Prop}{H H':Hp}{LS:List V}{L:LL}{l a:Addr}{o:HO}{r:List Int}
theorem LR.nil:LR N H [] []:=⟨rfl,λi v r h=>by simp at h⟩
theorem LR.mono(h:LR N H LS L)(e:aK H H'):LR N H' LS L:=⟨h.1,λi v r a b=>by
 obtain⟨x,rfl,hN,g⟩:=h.2 i v r a b;exact⟨x,rfl,hN,e _ _ g⟩⟩
theorem LR.wr(h:LR (·≠l) H LS L):LR (·≠l) (upd H l o) LS L:=⟨h.1,λi v r a b=>by
 obtain⟨x,rfl,ne,g⟩:=h.2 i v r a b;exact⟨x,rfl,ne,by rw[cG ne];exact g⟩⟩
theorem LR.snoc(h:LR N H LS L)(hN:N a)(g:H a=some (.lst (r.map V.int))):LR N H (LS++[.ref a]) (L++[r]):=⟨by simp[h.1],λj v q e1 e2=>by
 by_cases hj:j<LS.length
 ·rw[ia hj]at e1;rw[ia (by rw[← h.1];exact hj)]at e2;exact h.2 j v q e1 e2
 ·rw[iI (by lia)]at e1;rw[iI (by rw[← h.1];lia),← h.1]at e2;cases hk:j-LS.length with
  |zero=>rw[hk]at e1 e2;cases e1;cases e2;exact⟨a,rfl,hN,g⟩
  |succ k=>rw[hk]at e1;cases e1⟩
theorem LR.has{K:Frag}:∀{LS:List V}{L:LL},LR N H LS L→bj K H LS (L.map Cb)
 | [],[],_=>.nil
 | [],_::_,h=>by have:=h.1;simp at this
 |_::_,[],h=>by have:=h.1;simp at this
 |v::LS,r::L,h=>by
  obtain⟨a,rfl,_,g⟩:=h.2 0 v r rfl rfl;refine .cons (.list (.of g) (bj.ints _)) (LR.has ⟨by have:=h.1;simpa using this,λi v r e1 e2=>h.2 (i+1) v r e1 e2⟩)
end
theorem aav(L:LL):kqdOk 8 (.list (L.map Cb))=true:=by
 show(L.map Cb).all (kqdOk 7)=true;rw[jN];intro d hd;obtain⟨r,_,rfl⟩:=cP.mp hd;show(r.map Dat.int).all (kqdOk 6)=true;exact Z3 6 r
end L2
namespace L2
open PySem PySem.Spec PyProof.Rows
end L2
namespace L2
open PySem Bw
end L2
namespace L2
open PySem PySem.Spec PyProof.Rows
variable{H H':Hp}{Q:QV}{X:Cx}{aR:List (List Key×V)}{u:Value}{xs:List (List Key×Addr×Value)}{y:V}
section
variable{κ:Type} [DecidableEq κ]
noncomputable def eJ(aR:List (κ×V))(k:κ):Option V:=(aR.find? λkv=>decide (kv.1=k)).map (·.2)
noncomputable def ij(aR:List (κ×V))(k:κ)(v:V):List (κ×V):=
 if(aR.any λkv=>decide (kv.1=k))=true then aR.map (λkv=>if kv.1=k then(kv.1,v)else kv)else aR++[(k,v)]
theorem kq{p:κ×V}{r:List (κ×V)}{k:κ}(e:p.1=k):eJ (p::r) k=some p.2:=by simp[eJ,List.find?_cons,e]
theorem oh{p:κ×V}{r:List (κ×V)}{k:κ}(e:¬p.1=k):eJ (p::r) k=eJ r k:=by simp[eJ,List.find?_cons,e]
theorem yY(k:κ):∀aR:List (κ×V),(aR.any λkv=>decide (kv.1=k))=(eJ aR k).isSome
 | []=>rfl
 |p::r=>by
  rw[List.any_cons];by_cases e:p.1=k
  ·simp only[kq e,aC e,Bool.true_or,Option.isSome_some]
  ·rw[oh e,ab e,Bool.false_or];exact yY k r
theorem OT(k j:κ)(y:V):∀aR:List (κ×V),eJ (aR.map λkv=>if kv.1=k then(kv.1,y)else kv) j=(eJ aR j).map λx=>if j=k then y else x
 | []=>rfl
 |p::r=>by
  have ih:=OT k j y r;rw[mx];by_cases h:p.1=k
  ·rw[ae h];by_cases e:p.1=j
   ·rw[kq (p:=(p.1,y)) e,kq e,Option.map_some,ae (e.symm.trans h)]
   ·rw[oh (p:=(p.1,y)) e,oh e,ih]
  ·rw[af h];by_cases e:p.1=j
   ·rw[kq (p:=p) e,kq e,Option.map_some,af (λz=>h (e.trans z))]
   ·rw[oh (p:=p) e,oh e,ih]
theorem OU(k j:κ)(y:V):∀aR:List (κ×V),eJ aR k=none→eJ (aR++[(k,y)]) j=if j=k then some y else eJ aR j
 | [],_=>by
  by_cases e:k=j
  ·rw[ae e.symm];exact kq (p:=(k,y)) e
  ·rw[af (λz=>e z.symm)];exact oh (p:=(k,y)) e
 |p::r,hn=>by
  rw[qK];have hk:¬p.1=k:=λz=>by rw[kq z]at hn;cases hn
  rw[oh hk]at hn;have ih:=OU k j y r hn;by_cases e:p.1=j
  ·rw[kq e,kq e,af (λz=>hk (e.trans z))]
  ·rw[oh e,oh e,ih]
theorem aaw(aR:List (κ×V))(k j:κ)(y:V):eJ (ij aR k y) j=if j=k then some y else eJ aR j:=by
 unfold ij;by_cases a:(aR.any λkv=>decide (kv.1=k))=true
 ·rw[ae a,OT];rw[yY]at a;by_cases e:j=k
  ·obtain⟨x,hx⟩:=Option.isSome_iff_exists.mp a;rw[ae e,e,hx,Option.map_some,ae rfl]
  ·rw[af e];cases eJ aR j with
   |none=>rfl
   |some x=>rw[Option.map_some,af e]
 ·rw[af a];refine OU k j y aR ?_;rw[yY]at a;cases q:eJ aR k with
  |none=>rfl
  |some x=>rw[q]at a;exact(a rfl).elim
theorem Cc(aR:List (κ×V))(k:κ)(v:V):(ij aR k v).length≤aR.length+1:=by
 unfold ij;split
 ·rw[aZ];lia
 ·rw[bY,eE,so];lia
theorem OV{aR:List (κ×V)}{k:κ}(v:V)(h:eJ aR k=none):ij aR k v=aR++[(k,v)]:=by
 unfold ij;rw[yY,h];exact af (by decide)
theorem oV.HW{o:Option V}{u:Option Value}(r:oV o u):o.isSome=u.isSome:=by
 cases o with
 |none=>cases u with
  |none=>rfl
  |some _=>exact(show False from r).elim
 |some _=>cases u with
  |none=>exact(show False from r).elim
  |some _=>rfl
theorem KV.val{aR:List (κ×V)}{vs:List (κ×Value)}(r:KV aR vs)(k:κ):oV (eJ aR k) (valueAt vs k):=by
 unfold KV at r;induction r with
 |nil=>exact True.intro
 | @cons p q ps qs h t ih=>
  obtain⟨h1,h2⟩:=h;by_cases e:p.1=k
  ·have e':q.1=k:=h1.symm.trans e;have b:valueAt (q::qs) k=some q.2:=by simp[valueAt,List.find?_cons,e']
   rw[kq e,b];exact h2
  ·have e':¬q.1=k:=λz=>e (h1.trans z);have b:valueAt (q::qs) k=valueAt qs k:=by simp[valueAt,List.find?_cons,e']
   rw[oh e,b];exact ih
theorem KV.any{aR:List (κ×V)}{vs:List (κ×Value)}(r:KV aR vs)(k:κ):(aR.any λkv=>decide (kv.1=k))=vs.any λkv=>decide (kv.1=k):=by
 unfold KV at r;induction r with
 |nil=>rfl
 |cons h t ih=>rw[List.any_cons,List.any_cons,ih,h.1]
theorem KV.HX{aR:List (κ×V)}{vs:List (κ×Value)}(r:KV aR vs)(k:κ)(ry:RelV y u) :
  KV (aR.map λkv=>if kv.1=k then(kv.1,y)else kv) (vs.map λkv=>if kv.1=k then(kv.1,u)else kv):=by
 unfold KV at r ⊢;induction r with
 |nil=>exact .nil
 | @cons p q ps qs h t ih=>
  rw[mx,mx];refine .cons ?_ ih;obtain⟨h1,h2⟩:=h;by_cases e:p.1=k
  ·rw[ae e,ae (h1.symm.trans e)];exact⟨h1,ry⟩
  ·rw[af e,af (λz=>e (h1.trans z))];exact⟨h1,h2⟩
theorem KV.put{aR:List (κ×V)}{vs:List (κ×Value)}(r:KV aR vs)(k:κ)(ry:RelV y u):KV (ij aR k y) (stored vs k u):=by
 unfold ij stored;rw[r.any k];by_cases e:(vs.any λkv=>decide (kv.1=k))=true
 ·rw[ae e,ae e];exact r.HX k ry
 ·rw[af e,af e];exact Paired.snoc r ⟨rfl,ry⟩
theorem KV.length{aR:List (κ×V)}{vs:List (κ×Value)}(r:KV aR vs):aR.length=vs.length:=Paired.length r
end
theorem yZ{P:Program}{w:World}{k:Key}(r:RelV (kV k) u):(j9 P w).is k u=true:=by
 cases k with
 |inl i=>obtain⟨t,e⟩:=(show ∃t,u=Value.int i t from r);subst e;exact WJ P w i t
 |inr x=>obtain⟨t,e⟩:=(show ∃t,u=Value.str x t from r);subst e;exact WK P w x t
theorem OW{P:Program}{w:World}:∀{ks:List Key}{us:List Value},Vals (ks.map kV) us→ItemsAre (j9 P w) ks us
 | [],_,r=>by rw[List.map_nil]at r;cases r;exact .nil
 |k::ks,_,r=>by
  rw[mx]at r;cases r with
  |cons h t=>exact .cons (yZ h) (OW t)
abbrev KT(H:Hp):List (List Key×V)→List (List Key×Addr×Value)→Prop:=Paired λp q=>p.1=q.1∧H q.2.1=some (.tup (p.1.map kV))∧RelV p.2 q.2.2
theorem KT.val(r:KT H aR xs)(k:List Key):oV (eJ aR k) ((atKey xs k).map (·.2)):=by
 induction r with
 |nil=>exact True.intro
 | @cons p q ps qs h t ih=>
  obtain⟨h1,_,h2⟩:=h;by_cases e:p.1=k
  ·have e':q.1=k:=h1.symm.trans e;have b:atKey (q::qs) k=some q.2:=by simp[atKey,List.find?_cons,e']
   rw[kq e,b];exact h2
  ·have e':¬q.1=k:=λz=>e (h1.trans z);have b:atKey (q::qs) k=atKey qs k:=by simp[atKey,List.find?_cons,e']
   rw[oh e,b];exact ih
theorem KT.HX(r:KT H aR xs)(k:List Key)(ry:RelV y u) :
  KT H (aR.map λkv=>if kv.1=k then(kv.1,y)else kv) (xs.map (putAt k u)):=by
 induction r with
 |nil=>exact .nil
 | @cons p q ps qs h t ih=>
  rw[mx,mx];refine .cons ?_ ih;obtain⟨h1,h2,h3⟩:=h;unfold putAt;by_cases e:p.1=k
  ·rw[ae e,ae (h1.symm.trans e)];exact⟨h1,h2,ry⟩
  ·rw[af e,af (λz=>e (h1.trans z))];exact⟨h1,h2,h3⟩
theorem KT.put(r:KT H aR xs)(k:List Key){b:Addr}(hb:H b=some (.tup (k.map kV)))(ry:RelV y u) :
  KT H (ij aR k y) (storedH xs k b u):=by
 have e:(aR.any λkv=>decide (kv.1=k))=(atKey xs k).isSome:=by
  rw[yY,(r.val k).HW,Option.isSome_map]
 unfold ij storedH;rw[e];by_cases q:(atKey xs k).isSome=true
 ·rw[ae q,ae q];exact r.HX k ry
 ·rw[af q,af q];exact Paired.snoc r ⟨rfl,hb,ry⟩
theorem KT.keeps(r:KT H aR xs)(ht:∀b ys,H b=some (.tup ys)→H' b=some (.tup ys)):KT H' aR xs:=
 Paired.FH r λ_ _ z=>⟨z.1,ht _ _ z.2.1,z.2.2⟩
section
variable{P:Program}{w:World}{H:Hp}{h:Heap}{a:Addr}
theorem OX{u:HO}(ok:fE P w H h)(e:Rd H a u):fu P w H h a u:=e.ok ok
theorem Cd{aR:List (Key×V)}(ok:fE P w H h)(e:Rd H a (.dK aR)):aR.length≤sizeLine∧(a==sysModules)=false∧∃vs,KV aR vs∧h.DictOf (j9 P w) a vs:=
 show fu P w H h a (.dK aR) from OX ok e
theorem OY{aR:List (Key×V)}(ok:fE P w H h)(e:H a=some (.dK aR)):aR.length≤sizeLine∧(a==sysModules)=false∧∃vs,KV aR vs∧h.DictOf (j9 P w) a vs:=Cd ok (.inl e)
theorem Ce{ks:List Key}(ok:fE P w H h)(e:H a=some (.tup (ks.map kV))):(tupleKind (j9 P w)).is h ks a:=by
 obtain⟨_,its,r,o,h1,h2,n,h3⟩:=(show fu P w H h a (.tup (ks.map kV)) from ok a _ e)
 exact⟨o,its.toArray,n,h1,h2,h3,by simpa using OW r⟩
theorem Cf(ok:fE P w H h)(e:Rd H a (.dT aR)):aR.length≤sizeLine∧(a==sysModules)=false∧
  ∃xs,KT H aR xs∧h.DictOfH (tupleKind (j9 P w)) a xs:=by
 obtain⟨z,y,xs,r,o,es,ep,h1,h2,h3,h4,h5⟩:=(show fu P w H h a (.dT aR) from OX ok e)
 refine⟨z,y,xs,r,o,es,ep,h1,h2,h3,h4,λx hx=>?_,h5⟩;have all:∀{l:List (List Key×V)}{m:List (List Key×Addr×Value)},KT H l m→∀x∈m,(tupleKind (j9 P w)).is h x.1 x.2.1:=by
  intro l m q;induction q with
  |nil=>intro x hx;exact nomatch hx
  | @cons p q ps qs hq t ih=>
   intro x hx;rcases eW.mp hx with e|hx
   ·subst e;exact Ce ok (by rw[← hq.1];exact hq.2.1)
   ·exact ih x hx
 exact all r x hx
theorem aax(ok:fE P w H h)(e:H a=some (.dT aR)):aR.length≤sizeLine∧(a==sysModules)=false∧
  ∃xs,KT H aR xs∧h.DictOfH (tupleKind (j9 P w)) a xs:=Cf ok (.inl e)
end
def oi(H:Hp)(a:Addr)(y:V)(r:Option V):Prop:=
 (∃aR k,Rd H a (.dK aR)∧y=kV k∧r=eJ aR k)∨∃aR k b,Rd H a (.dT aR)∧y=.ref b∧H b=some (.tup (k.map kV))∧r=eJ aR k
def wt(H:Hp)(a:Addr)(y v:V)(H':Hp):Prop:=
 (∃aR k,H a=some (.dK aR)∧y=kV k∧aR.length<sizeLine∧H'=upd H a (.dK (ij aR k v))) ∨
 ∃aR k b,H a=some (.dT aR)∧y=.ref b∧H b=some (.tup (k.map kV))∧aR.length<sizeLine∧H'=upd H a (.dT (ij aR k v))
theorem oi.k{H:Hp}{a:Addr}{aR:List (Key×V)}{k:Key}(e:H a=some (.dK aR)):oi H a (kV k) (eJ aR k):=.inl ⟨aR,k,.inl e,rfl,rfl⟩
theorem wt.k{H:Hp}{a:Addr}{aR:List (Key×V)}{k:Key}{v:V}(e:H a=some (.dK aR))(hl:aR.length<sizeLine):wt H a (kV k) v (upd H a (.dK (ij aR k v))):=.inl ⟨aR,k,e,rfl,hl,rfl⟩
section
variable{X:Cx}{aI:List (Addr×Obj)}{σ:St}{H:Hp}{s:Shared}{a:Addr}{y v:V}{u r:Value}{o:Option V}{A:Around}{E:QV}
theorem Inv.big(I:Inv X aI σ H s):sysModules<s.heap.objs.size:=by
 have h:mainGlobals<s.heap.objs.size:=(I.mod.glob.keeps I.bk).lt;exact Nat.lt_trans (by decide) h
theorem aay(hu:A.units+1<cLine)(I:Inv X aI σ H s)(g:oi H a y (some v))(ry:RelV y u)(h:∀w' s',Inv X aI σ H s'→RelV v w'→Q w' s') :
  wpAny (model X.prog X.w) A (getItem (.ref a) u) Q E s:=by
 rcases g with⟨aR,k,e,ey,l⟩|⟨aR,k,b,e,ey,eb,l⟩
 ·subst ey;obtain⟨z,hd,vs,rel,dd⟩:=Cd I.bK e;obtain⟨w',hw,rd⟩:=oV.some_of (v:=v) (o:=valueAt vs k) (by rw[l];exact rel.val k);exact wpAny_getItem_of (yZ ry) dd.mapOf hw (h w' _ (I.tok _) rd)
 ·subst ey;cases(show u=Value.ref b from ry)
  obtain⟨z,hd,xs,rel,dd⟩:=Cf I.bK e;obtain⟨w',hw,rd⟩:=oV.some_of (v:=v) (o:=(atKey xs k).map (·.2)) (by rw[l];exact rel.val k);obtain⟨p,hp,uK⟩:=Option.map_eq_some_iff.mp hw;refine wpAny_getItem_heap (tupleKind_room_in1 hu) (Ce I.bK eb) dd hp ?_;rw[uK];exact h w' _ (I.tok _) rd
theorem aaz(hu:A.units+1<cLine)(I:Inv X aI σ H s)(g:oi H a y o)(ry:RelV y u)(h:∀s',Inv X aI σ H s'→Q (.bool o.isSome) s') :
  wpAny (model X.prog X.w) A (compareOp .In u (.ref a)) Q E s:=by
 rcases g with⟨aR,k,e,ey,l⟩|⟨aR,k,b,e,ey,eb,l⟩
 ·subst ey;obtain⟨z,hd,vs,rel,dd⟩:=Cd I.bK e;refine wpAny_in_of (yZ ry) hd dd.mapOf ?_;rw[← (rel.val k).HW,← l];exact h _ (I.tok _)
 ·subst ey;cases(show u=Value.ref b from ry)
  obtain⟨z,hd,xs,rel,dd⟩:=Cf I.bK e;refine wpAny_in_heap (tupleKind_room_in1 hu) (Ce I.bK eb) hd dd ?_;have q:=(rel.val k).HW;rw[Option.isSome_map]at q;rw[← q,← l];exact h _ (I.tok _)
theorem HY{h':Heap}{t':Nat}{ob:HO}(I:Inv X aI σ H s)(mu:x8 (H a))(hs:Heap.SameBut a s.heap h')(he:∃q,h'.get? a=some q)(new:fu X.prog X.w (upd H a ob) h' a ob) :
  Inv X aI σ (upd H a ob) { s with heap:=h',toks:=t' }:=
 I.write (x:=a) (e:=a) mu (.inl rfl) (λb q hb z=>(hs.2 b hb).trans z) he new
theorem OZ{P:Program}{w:World}{h':Heap}{aR:List (Key×V)}{vs:List (Key×Value)}(z:aR.length≤sizeLine)(hd:(a==sysModules)=false)(rel:KV aR vs)(dd:h'.DictOf (j9 P w) a vs) :
  fu P w H' h' a (.dK aR):=⟨z,hd,vs,rel,dd⟩
theorem aaA{Q:Unit→Shared→Prop}(hu:A.units+1<cLine)(I:Inv X aI σ H s)(g:wt H a y v H')(ry:RelV y u)(rv:RelV v r)(h:∀s',Inv X aI σ H' s'→Q () s') :
  wpAny (model X.prog X.w) A (setItem (.ref a) u r) Q E s:=by
 rcases g with⟨aR,k,e,ey,l,eH⟩|⟨aR,k,b,e,ey,eb,l,eH⟩
 ·subst ey eH;obtain⟨z,hd,vs,rel,dd⟩:=OY I.bK e;have hz:vs.length≤sizeLine:=by rw[← rel.length];exact z
  have hl:(ij aR k v).length≤sizeLine:=by have:=Cc aR k v;lia
  refine wpAny_setItem_pairs (hsz:=hz) (yZ ry) dd λh' uU hs=>h _ ?_;have he:∃q,h'.get? a=some q:=let ⟨q,_,_,hq,_⟩:=uU;⟨q,hq⟩;exact HY I (by rw[e];exact True.intro) hs he (OZ hl hd (rel.put k rv) uU)
 ·subst ey eH;cases(show u=Value.ref b from ry)
  obtain⟨z,hd,xs,rel,dd⟩:=aax I.bK e;have hz:xs.length≤sizeLine:=by rw[← Paired.length rel];exact z
  have hl:(ij aR k v).length≤sizeLine:=by have:=Cc aR k v;lia
  refine wpAny_setItem_heap (hsz:=hz) (tupleKind_room_in1 hu) (Ce I.bK eb) dd λh' uU hs=>h _ ?_;obtain⟨q,es,ep,hq,h2,h3,h4,_,h5⟩:=uU;refine HY I (by rw[e];exact True.intro) hs ⟨q,hq⟩ ⟨hl,hd,_,(rel.put k eb rv).keeps λc ys ec=>?_,q,es,ep,hq,h2,h3,h4,h5⟩;rw[cG (WN ec e (λz=>nomatch z))];exact ec
end
section
variable{X:Cx}{aI:List (Addr×Obj)}{σ:St}{H:Hp}{s:Shared}{a:Addr}{aR:List (Key×V)}{k:Key}{u:Value}{A:Around}{E:QV}
end
def HZ(i:Expr):Prop:=∀ov iv,subscripted i false ov iv=operate [ov,iv] (getItem ov iv)
theorem O0{prog:Program}{w:World}{A:Around}{E:QV}{s:Shared}{env:Env}{value slice:Expr}{pos:Pos}{T id:String}
  (hl:typeLookup (.type T) "__getitem__"=pure (some (.builtin id))) (hs:HZ slice)
  (h:wpAny (model prog w) A (eval value env) (λo s₁=>wpAny (model prog w) A (eval slice env) (λi s₂=>s₂.TypeIs o T∧wpAny (model prog w) A (getItem o i) Q E s₂) E s₁) E s) :
  wpAny (model prog w) A (eval (.Subscript value slice pos) env) Q E s:=by
 refine Subscript_ (ag h (λo s₁ h₁=>ag h₁ (λi s₂ h₂=>?_) λ_ _ x=>x) λ_ _ x=>x);obtain⟨hT,h₂⟩:=h₂;unfold subscriptTail;refine aj ?_;rw[getitemInPython_of_ne hT.not_modules];refine aj (wpAny_specialOf hT hl ?_);have fin:wpAny (model prog w) A (subscripted slice false o i) (λr s₃=>wpAny (model prog w) A (letTemporaryGo value o r >>= λ_=>pure r) Q E s₃) E s₂:=by
  rw[hs o i];exact wpAny_operating (ag h₂ (λr s₃ h₃=>aj (wpAny_letTemporaryGo (aq h₃))) λ_ _ x=>x)
 first
  |exact aq (aj fin)
  |exact aj (aq (aj fin))
  |exact aj fin
theorem aaB{aI:List (Addr×Obj)}{σ:St}{s:Shared}{a:Addr}{o:Option V}(I:Inv X aI σ H s)(g:oi H a y o):s.TypeIs (.ref a) "dict":=by
 rcases g with⟨aR,k,e,_,_⟩|⟨aR,k,b,e,_,_,_⟩
 ·obtain⟨_,_,vs,_,dd⟩:=Cd I.bK e;exact dd.typeIs
 ·obtain⟨_,_,xs,_,dd⟩:=Cf I.bK e;exact dd.typeIs
def O1(td ty:TE):TE:=λσ H Q=>td σ H λx H1=>ty σ H1 λy H2=>∃a v,x=.ref a∧oi H2 a y (some v)∧Q v H2
def O2(ty td:TE):TE:=λσ H Q=>ty σ H λy H1=>td σ H1 λx H2=>∃a o,x=.ref a∧oi H2 a y o∧Q (.bl o.isSome) H2
def O3(td ty tv:TE):TS:=λD σ H=>tv σ H λv H1=>td σ H1 λx H2=>ty σ H2 λy H3=>∃a H4,x=.ref a∧wt H3 a y v H4∧D.nx σ H4
section
variable{X:Cx}{o i e value:Expr}{pos mE XI:Pos}{td ty tv:TE}
theorem Cg(hu:X.A.units+1<cLine)(ho:PE X o td)(hi:PE X i ty)(hs:HZ i):PE X (.Subscript o i pos) (O1 td ty):=by
 intro aI s σ H Q I h;refine O0 PySem.F.slot_dict_getitem.lookup hs (bc (ho aI s σ H _ I h) λu s1 ⟨x,H1,I1,rx,q1⟩=>bc (hi aI s1 σ H1 _ I1 q1) λiv s2 ⟨y,H2,I2,ry,a,v,ex,g,q2⟩=>?_);subst ex;obtain rfl:u=Value.ref a:=rx;exact⟨aaB I2 g,aay hu I2 g ry λw' s3 I3 rd=>⟨v,H2,I3,rd,q2⟩⟩
theorem aaC(hu:X.A.units+1<cLine)(hi:PE X i ty)(ho:PE X o td):PC X .In i o (O2 ty td):=by
 intro aI s σ H Q I h;refine bc (hi aI s σ H _ I h) λiv s1 ⟨y,H1,I1,ry,q1⟩=>bc (ho aI s1 σ H1 _ I1 q1) λu s2 ⟨x,H2,I2,rx,a,ov,ex,g,q2⟩=>?_;subst ex;obtain rfl:u=Value.ref a:=rx;exact aaz hu I2 g ry λs3 I3=>⟨.bl ov.isSome,H2,I3,rfl,q2⟩
theorem O4(hu:X.A.units+1<cLine)(ho:PE X o td)(hi:PE X i ty)(hv:PE X value tv)(hs:swapsWith value (some (.Subscript o i mE)) pos.line X.env=pure false) :
  PS X (.Assign [.Subscript o i mE] value pos) (O3 td ty tv):=by
 intro aI s σ H D I h;refine wpAny_Assign_Subscript (bc (hv aI s σ H _ I h) λr s1 ⟨v,H1,I1,rv,q1⟩=>bc (ho aI s1 σ H1 _ I1 q1) λu s2 ⟨x,H2,I2,rx,q2⟩=>bc (hi aI s2 σ H2 _ I2 q2) λiv s3 ⟨y,H3,I3,ry,a,H4,ex,g,q3⟩=>?_) hs;subst ex;obtain rfl:u=Value.ref a:=rx;exact aaA hu I3 g ry rv λs4 I4=>⟨σ,H4,I4,q3⟩
end
theorem O5{P:Program}{w:World}(h:Heap)(hb:sysModules<h.objs.size):fu P w H (h.push { cls:=.type "dict",data:=.dict #[] }) h.objs.size (.dK []):=
 ⟨j7 _,beq_eq_false_iff_ne.mpr (Ne.symm (iw hb)),[],.nil,Heap.DictOf.new h⟩
def aaD:TE:=λ_ H Q=>∀p,H p=none→Q (.ref p) (upd H p (.dK []))
section
variable{X:Cx}{pos:Pos}
theorem aaE:PE X (.Dict [] [] pos) aaD:=λaI s σ H Q I h=>
 wpAny_Dict_empty ⟨.ref s.heap.objs.size,_,I.laid (a:=s.heap.objs.size) (o:=.dK []) (t':=s.toks) (λ_ _ q=>dS _ q) (cu _) (O5 s.heap I.big),rfl,h _ (I.bK.fresh (cu _))⟩
end
def sZ:List (TE×TE)→St→Hp→(List (V×V)→Hp→Prop)→Prop
 | [],_,H,Q=>Q [] H
 |(tk,tv)::r,σ,H,Q=>tk σ H λx H1=>tv σ H1 λy H2=>sZ r σ H2 λps H3=>Q ((x,y)::ps) H3
abbrev VV:List (V×V)→List (Value×Value)→Prop:=Paired λp q=>RelV p.1 q.1∧RelV p.2 q.2
def Ci(X:Cx)(pos:Pos)(keys:List (Option Expr))(values:List Expr)(rF:List (TE×TE)):Prop:=
 ∀(aI:List (Addr×Obj))(s:Shared)(σ:St)(H:Hp)(Q:List (V×V)→Hp→Prop),Inv X aI σ H s→sZ rF σ H Q→
  wpAny (model X.prog X.w) X.A (evalPairs (pairTrees keys values X.env pos)) (λvs s'=>∃ps H',Inv X aI σ H' s'∧VV ps vs∧Q ps H') X.xe s
theorem aaF{pos:Pos}:Ci X pos [] [] []:=λaI s σ H Q I h=>pairTrees_nil_walk ⟨[],H,I,.nil,h⟩
theorem Cj{pos:Pos}{k v:Expr}{ks:List (Option Expr)}{vs:List Expr}{tk tv:TE}{rF:List (TE×TE)}(hk:PE X k tk)(hv:PE X v tv)(hr:Ci X pos ks vs rF) :
  Ci X pos (some k::ks) (v::vs) ((tk,tv)::rF):=λaI s σ H Q I h=>
 pairTrees_cons_walk (bc (hk aI s σ H _ I h) λu s1 ⟨x,H1,I1,rx,q1⟩=>bc (hv aI s1 σ H1 _ I1 q1) λw2 s2 ⟨y,H2,I2,ry,q2⟩=>
  bc (hr aI s2 σ H2 _ I2 q2) λws s3 ⟨ps,H3,I3,rel,q3⟩=>⟨(x,y)::ps,H3,I3,.cons ⟨rx,ry⟩ rel,q3⟩)
noncomputable def uV(aR gY:List (Key×V)):List (Key×V):=gY.foldl (λcQ kv=>ij cQ kv.1 kv.2) aR
theorem KV.merge:∀{gY:List (Key×V)}{rs:List (Key×Value)}{aR:List (Key×V)}{vs:List (Key×Value)},KV gY rs→KV aR vs→KV (uV aR gY) (merged vs rs):=by
 intro gY rs aR vs r;unfold KV at r;induction r generalizing aR vs with
 |nil=>intro q;exact q
 | @cons p q ps qs h t ih=>
  intro r0;have e:KV (ij aR p.1 p.2) (stored vs q.1 q.2):=by
   have:=r0.put p.1 h.2
   rw[← h.1];exact this
  exact ih e
theorem O6:∀(gY aR:List (Key×V)),(uV aR gY).length≤aR.length+gY.length
 | [],aR=>by show aR.length≤aR.length+0;lia
 |p::r,aR=>by
  have h1:=O6 r (ij aR p.1 p.2);have h2:=Cc aR p.1 p.2;show(uV (ij aR p.1 p.2) r).length≤_;rw[eE];lia
theorem O7{P:Program}{w:World}:∀{aR:List (Key×V)}{ws:List (Value×Value)},VV (aR.map λkv=>(kV kv.1,kv.2)) ws→∃rs,Carries (j9 P w) ws rs∧KV aR rs
 | [],_,r=>by rw[List.map_nil]at r;cases r;exact⟨[],True.intro,.nil⟩
 |p::aR,_,r=>by
  rw[mx]at r;cases r with
  | @cons a b as bs h t=>
   obtain⟨rs,c,q⟩:=O7 (P:=P) (w:=w) t;obtain⟨b1,b2⟩:=b;exact⟨(p.1,b2)::rs,⟨yZ h.1,rfl,c⟩,.cons ⟨rfl,h.2⟩ q⟩
def O8(rF:List (TE×TE)):TE:=λσ H Q=>∀p,H p=none→sZ rF σ (upd H p (.dK [])) λps H2=>H2 p=some (.dK [])∧∃aR:List (Key×V),ps=aR.map (λkv=>(kV kv.1,kv.2))∧aR.length≤15∧Q (.ref p) (upd H2 p (.dK (uV [] aR)))
theorem aaG{pos:Pos}{keys:List (Option Expr)}{values:List Expr}{rF:List (TE×TE)}(h:Ci X pos keys values rF)(GK:keys.all (·.isSome)=true)(hl:keys.length=values.length)(h0:keys≠[])
  (h15:keys.length≤15):PE X (.Dict keys values pos) (O8 rF):=by
 intro aI s σ H Q I q;have hn:=I.bK.fresh (cu s.heap.objs.size);have I1:=I.laid (a:=s.heap.objs.size) (o:=.dK []) (h':=s.heap.push { cls:=.type "dict",data:=.dict #[] }) (t':=s.toks) (λ_ _ q=>dS _ q) (cu _) (O5 s.heap I.big);refine wpAny_Dict_walk (knd:=j9 X.prog X.w) GK hl h0 h15 (bc (h aI _ σ _ _ I1 (q _ hn)) λws s2 ⟨ps,H2,I2,rel,e,aR,ep,lk,q2⟩=>?_);subst ep;obtain⟨rs,c,rk⟩:=O7 (P:=X.prog) (w:=X.w) rel;obtain⟨z,hd,vs0,r0,dd⟩:=OY I2.bK e;cases r0;refine⟨rs,c,dd,λh' uU hs=>⟨.ref s.heap.objs.size,_,?_,rfl,q2⟩⟩;have hz:(uV [] aR).length≤sizeLine:=by
  have h1:=O6 aR [];rw[so]at h1;rw[sizeLine_eq];lia
 have he:∃q,h'.get? s.heap.objs.size=some q:=let ⟨q,_,_,hq,_⟩:=uU;⟨q,hq⟩;exact HY I2 (by rw[e];exact True.intro) hs he (OZ hz hd (rk.merge .nil) uU)
structure M2(X:Cx)(o:Expr)(m:Str)(lE:Pos)(e f:Expr)(iL:Pos):Prop where
 base:attributeBase o m X.env (eval o X.env)=eval o X.env
 pd:((backTo iL (starEach [e,f] X.env)).all (λx=>!x.1)&&(backToKw iL (keywordEach [] X.env)).all (λx=>x.1.isSome)
  && decide (([e,f]:List Expr).length+([]:List Keyword).length+(if([]:List Keyword).isEmpty then 0 else 1)<30))=true
 line:(lE.endLine==iL.line)=true
 trees:backTo iL (starEach [e,f] X.env)=[(false,eval e X.env),(false,eval f X.env)]
section
variable{X:Cx}{aI:List (Addr×Obj)}{σ:St}{H:Hp}{s:Shared}{a:Addr}{y d:V}{u r:Value}{o:Option V}{A:Around}{E:QV}
end
section
variable{X:Cx}{o e f:Expr}{lE iL:Pos}{td ty tx:TE}
end
section
variable{X:Cx}{aI:List (Addr×Obj)}{σ:St}{H:Hp}{s:Shared}{a:Addr}{aR:List (Key×V)}{A:Around}{E:QV}
end
section
variable{X:Cx}{aI:List (Addr×Obj)}{σ:St}{H:Hp}{s:Shared}{a:Addr}{y:V}{u:Value}{A:Around}{E:QV}
end
end L2
namespace HT
open PySem PySem.Spec PyProof.Rows
variable{prog:Program}{w:World}{A:Around}{E:QV}{s:Shared}
theorem aaH{t sl:Addr}{items:Array Value}{vl vu:Value}{lo hi:Option Int}{Q:QV}(ht:IsTup s.heap t items)(hs:s.heap.IsSliceOf sl vl vu .none)(pl:IsPart vl lo)(pu:IsPart vu hi)
  (h0:cK items.size 0 lo=0) (h1:cK items.size items.size hi=items.size) (h:Q (.ref t) s):wpAny (model prog w) A (getItem (.ref t) (.ref sl)) Q E s:=by
 obtain⟨os,uG,Bm,yu⟩:=id hs;have Gp:s.TypeIs (.ref sl) "slice":=⟨os,uG,Bm⟩;unfold getItem
 try with_reducible refine ak ?_
 first|refine aj (aq ?_)|skip
 refine aj (wpAny_sequenceKey ht.typeIs (by decide) ?_);refine aj (ax (name:=Str.ofString "__getitem__") ht.typeIs AI (ay AI ht.typeIs entry_tuple_getitem ?_ (args_tuple_getitem _ _)));show wpAny _ _ (Builtin.Tuple.tupleItemsOf (.ref t) >>= _) _ _ s;refine aj (tupleItemsOf_ ht ?_);refine aj (wpAny_typeOf Gp ?_);rw[ae (by decide)];refine aj (Nc hs pl pu ?_);have aaI:(((cK items.size 0 lo:Nat):Int)==0&&(1:Int)==1&&(cK items.size items.size hi-cK items.size 0 lo)==items.size)=true:=by
  rw[h0,h1];simp
 show wpAny _ _ (if(((cK items.size 0 lo:Nat):Int)==0&&(1:Int)==1&&(cK items.size items.size hi-cK items.size 0 lo)==items.size)=true then _ else _) _ _ s
 rw[ae aaI];unfold Builtin.Tuple.tupleIsExact;refine aj (aj (wpAny_typeOf ht.typeIs (aq ?_)));rw[ae (by decide)];first
  |exact aj (aq (aq ⟨_,rfl,aq h⟩))
  |exact aj (m:=rule _) (aq ⟨_,rfl,aq h⟩)
  |exact aq ⟨_,rfl,aq h⟩
  |exact aj (wpAny_rule (aq ⟨_,rfl,aq h⟩))
  |exact aj (wpAny_rule (aj (aq (aq ⟨_,rfl,aq h⟩))))
end HT
namespace L2
open PySem PySem.Spec PyProof.Rows
variable{H H':Hp}{Q:QV}{X:Cx}{a c f:Addr}{fd:FuncData}{h:Heap}{i:Int}{n:Nat}{ps:List Str}{qual x:Str}{s:Shared}{st:Stmt}
def kr(K:Frag):V→Option Int→Option Int→Hp→VK→Prop:=λx lo hi H Q=>∃a xs,x=.ref a∧bf K H a xs∧iY K H (fV xs lo hi) Q
theorem aaJ:sM X (kr X.K):=by
 intro aI s σ H x v vl vu lo hi sl Q I rx hs pl pu h;obtain⟨a,xs,rfl,hx,q⟩:=h;by_cases hw:HT.cK xs.length 0 lo=0∧HT.cK xs.length xs.length hi=xs.length
 ·cases rx;obtain⟨its,r,ht,hz⟩:=I.tuple hx;have cF:its.toArray.size=xs.length:=by rw[dR];exact r.length.symm
  refine⟨"tuple",_,AI.lookup,ht.typeIs,?_⟩;refine HT.aaH ht hs pl pu (by rw[cF];exact hw.1) (by rw[cF];exact hw.2) ?_;refine⟨.ref a,H,I,rfl,q.old ?_⟩;unfold fV;rw[hw.1,hw.2,vE,Nat.sub_zero,lT];exact hx
 ·exact Nf aI s σ H _ v vl vu lo hi sl Q I rx hs pl pu ⟨a,xs,rfl,hx,hw,λp hp=>q.new hp⟩
theorem ip(K:Frag)(hK:X.K=K):sM X (kr K):=hK▸aaJ
section
variable{X:Cx}
theorem aaK(hc:X.calm=true):iB X (.builtin "any") (λxs H Q=>∃p ns,xs=[.ref p]∧bf X.K H p (List.map V.int ns)∧Q (.bl (ns.any λn=>n != 0)) H):=by
 intro aI s σ H vs us Q I r h;obtain⟨p,ns,rfl,hq,q⟩:=h;obtain⟨u,rfl,ru⟩:=vals1 r;cases ru;obtain⟨its,rv,ht,hz⟩:=I.tuple hq;have cR:p<s.heap.objs.size:=ht.lt;have cF:its.length=ns.length:=by have:=rv.length;rw[aZ]at this;exact this.symm
 apply call_any_walk;apply wpAny_pyIter_tuple ht;refine⟨s.heap.objs.size,[s.heap.objs.size,p],[s.heap.objs.size],its.toArray.size,_,_,λi=>((ns.map λn=>n != 0)[i]?).getD false,rfl,Walks.tuple (A:=X.A.in1) (I.ok.hd hc) _ p (iw cR) its.toArray,⟨⟨_,iA _ rfl,rfl,rfl⟩,ht.push _⟩,λi v s1 Q1 E1 hP hQ=>?_,λh1 tk1 hk=>?_⟩
 ·have hP:its[i]?=some v:=by simpa using hP
  have hi:i<ns.length:=by rw[← cF];exact(dB.mp hP).1
  have hx:(ns.map V.int)[i]?=some (.int ns[i]):=by simp[hi]
  obtain⟨u,hu,ru⟩:=rv.get hx;rw[hP]at hu;cases hu;obtain⟨t,rfl⟩:=ru;dsimp only at hQ;rw[show(ns.map λn=>n != 0)[i]?=some (ns[i] != 0) by simp[hi],Option.getD_some]at hQ;exact truthy_int hQ
 ·have e:((List.range its.toArray.size).any λi=>((ns.map λn=>n != 0)[i]?).getD false)=ns.any λn=>n != 0:=by
   have e2:=Oo (ns.map λn=>n != 0);rw[aZ]at e2;rw[dR,cF,e2,List.any_map];rfl
  rw[e];refine⟨.bl _,H,I.kept (λb x e=>hk b x (λhm=>by rw[dP.mp hm]at e;exact uc _ (dX e)) (dS _ e)),rfl,q⟩
theorem Ia(K:Frag)(hK:X.K=K)(hc:X.calm=true):iB X (.builtin "any") (λxs H Q=>∃p ns,xs=[.ref p]∧bf K H p (List.map V.int ns)∧Q (.bl (ns.any λn=>n != 0)) H):=hK▸aaK hc
end
section
variable{K:Frag}{H1:Hp}{cp:St}{tt:TT}{te:TE}{Q:VK}{xs ys:List V}{l1 l2:Addr}{b1 b2:Bool}
end
def jV(H:Hp)(Pt:Addr)(pos:Pos)(qual:Str):Prop:=
 H Pt=some (.gj #[])∨∃c',H Pt=some (.gj #[rawInt pos.line,rawInt pos.col,.ref c'])∧H c'=some (.ext λh=>h.CodeRec (.ref c') qual)
def Ck(Pt:Addr)(H H':Hp):Prop:=∀b o,H b=some o→b≠Pt→H' b=some o
def O9(H:Hp)(f:Addr)(qual:Str)(params:Arguments)(body:Expr)(scope:Scope)(cl:List (Str×Addr)):Prop:=
 ∃c',H f=some (.ext λh=>∃pm gU,h.get? f=some (PySem.W.kla_obj "<lambda>" qual params body scope cl pm c' gU))∧H c'=some (.ext λh=>h.CodeRec (.ref c') qual)
theorem aaL{P:Program}{w:World}(x:h.CodeRec (.ref c) qual):fu P w H h c (.ext λh=>h.CodeRec (.ref c) qual):=by
 refine⟨x,?_,λh1 h2 z k=>?_⟩
 ·obtain⟨c2,oc,vs,t,e,ho,_⟩:=x;cases e;exact⟨oc,ho⟩
 ·obtain⟨c2,oc,vs,t,e,ho,r⟩:=z;cases e;exact⟨c,oc,vs,t,rfl,k _ ho,r⟩
theorem Pa{P:Program}{w:World}{params:Arguments}{body:Expr}{scope:Scope}{cl:List (Str×Addr)}{pm gU:Value}(x:h.get? f=some (PySem.W.kla_obj "<lambda>" qual params body scope cl pm c gU)) :
  fu P w H h f (.ext λh=>∃pm gU,h.get? f=some (PySem.W.kla_obj "<lambda>" qual params body scope cl pm c gU)):=
 ⟨⟨pm,gU,x⟩,⟨_,x⟩,λh1 h2 ⟨pm,gU,z⟩ k=>⟨pm,gU,k _ z⟩⟩
def tm(mg:Str→Option Value)(h:Heap):Prop:=∃bm ob,mg "__builtins__"=some (.ref bm)∧bm≠builtinsNs∧h.get? bm=some ob∧ob.cls=.type "module"∧ob.dict=some builtinsNs∧ob.data=.plain
section
variable{X:Cx}
def aaM(Pt:Addr)(pos:Pos)(qual:Str)(params:Arguments)(body:Expr)(scope:Scope)(cl:List (Str×Addr)):TE:=λ_ H Q=>jV H Pt pos qual∧
 ∀f H',H f=none→Ck Pt H H'→jV H' Pt pos qual→O9 H' f qual params body scope cl→Q (.ref f) H'
theorem aaN{params:Arguments}{body:Expr}{scope:Scope}{pos:Pos}{Pt:Addr}{cl:List (Str×Addr)}(Pb:X.env.code=.ref c)(C:CodeHd X.base c Pt)(B:tm X.mg X.base)(Pc:closureFor scope X.env=pure cl)(aaO:defaultsOf params X.env=([],[]):=by rfl) :
  PE X (.Lambda params body scope pos) (aaM Pt pos (X.env.qual ++ "<lambda>") params body scope cl):=by
 intro aI s σ H Q I h;obtain⟨hT,h⟩:=h;generalize hq:X.env.qual ++ "<lambda>"=qual at hT h;refine PySem.W.kla_eval aaO ?_;rw[hq];have hg:s.heap.Ns mainGlobals X.mg:=I.mod.glob.keeps I.bk;have Cs:=C.keeps I.bk;obtain⟨bm,ob,b1,b2,b3,b4,b5,b6⟩:=B;have Pd:bm≠mainGlobals:=λq=>by
  obtain⟨o,es,ep,e,hd,_⟩:=I.mod.glob;rw[q,e]at b3;cases b3;rw[hd]at b6;cases b6
 have hT0:∃ps,H Pt=some (.gj ps):=hT.elim (λz=>⟨_,z⟩) λ⟨_,z,_⟩=>⟨_,z⟩;obtain⟨ps0,y0⟩:=hT0;have y1:s.heap.get? Pt=some (PySem.W.tabObj ps0):=I.bK Pt _ y0;have hgP:mainGlobals≠Pt:=λq=>by
  obtain⟨o,es,ep,e,hd,_⟩:=hg;rw[q,y1]at e;cases e;cases hd
 have Pe:bm≠Pt:=λq=>by
  have e:=I.bk _ _ b3;rw[q,y1]at e;cases e;cases b4
 have Pf:Pt<s.heap.objs.size:=dX y1;rcases hT with hT|⟨c',hT,hc⟩
 ·rw[hT]at y0;cases y0;refine PySem.W.kla_makeFunction (mg:=X.mg) Pc I.ok.glob hg Pb Cs y1 trivial rfl hgP ⟨bm,ob,b1,b2,Pd,Pe,I.bk _ _ b3,b4,b5,b6⟩ λc' gU h' tk hx y2 cR aaP htb=>?_;have hsz:s.heap.objs.size≤h'.objs.size:=hU y2 (Nat.le_of_lt cR);have hn:∀a,s.heap.objs.size≤a→H a=none:=λa ha=>I.bK.fresh ha;have nPc:Pt≠c':=iw (jo Pf y2);have Pg:Pt≠h'.objs.size:=iw (jo Pf hsz);have Ph:c'≠h'.objs.size:=iw cR;have hk:∀b o,b≠Pt→s.heap.get? b=some o→(h'.push (PySem.W.kla_obj "<lambda>" qual params body scope cl ((X.mg "__name__").getD .none) c' gU)).get? b=some o:=λb o hb e=>dS _ (hx b o hb e);have hf:(h'.push (PySem.W.kla_obj "<lambda>" qual params body scope cl ((X.mg "__name__").getD .none) c' gU)).get? h'.objs.size=some (PySem.W.kla_obj "<lambda>" qual params body scope cl ((X.mg "__name__").getD .none) c' gU):=iA _ rfl;have Pj:(h'.push (PySem.W.kla_obj "<lambda>" qual params body scope cl ((X.mg "__name__").getD .none) c' gU)).CodeRec (.ref c') qual:=by
   obtain⟨c2,oc,vs,t,e,ho,r⟩:=aaP;exact⟨c2,oc,vs,t,e,dS _ ho,r⟩
  have Ib:(h'.push (PySem.W.kla_obj "<lambda>" qual params body scope cl ((X.mg "__name__").getD .none) c' gU)).get? Pt=some (PySem.W.tabObj (#[]++#[rawInt pos.line,rawInt pos.col,.ref c'])):=dS _ htb;generalize h'.push (PySem.W.kla_obj "<lambda>" qual params body scope cl ((X.mg "__name__").getD .none) c' gU)=hh at hk hf Pj Ib ⊢;generalize h'.objs.size=f at hsz Pg Ph hf ⊢;have Ic:=hn f hsz;have hnc:=hn c' y2
  let H':Hp:=upd (upd (upd H Pt (.gj (#[]++#[rawInt pos.line,rawInt pos.col,.ref c']))) c' (.ext λh=>h.CodeRec (.ref c') qual)) f (.ext λh=>∃pm gU,h.get? f=some (PySem.W.kla_obj "<lambda>" qual params body scope cl pm c' gU))
  have e1:∀b,b≠f→b≠c'→b≠Pt→H' b=H b:=λb x1 x2 x3=>by
   show upd (upd (upd H Pt _) c' _) f _ b=_;rw[cG x1,cG x2,cG x3]
  have e2:H' Pt=some (.gj (#[]++#[rawInt pos.line,rawInt pos.col,.ref c'])):=by
   show upd (upd (upd H Pt _) c' _) f _ Pt=_;rw[cG Pg,cG nPc,aV]
  have e3:H' c'=some (.ext λh=>h.CodeRec (.ref c') qual):=by
   show upd (upd (upd H Pt _) c' _) f _ c'=_;rw[cG Ph,aV]
  have e4:H' f=some (.ext λh=>∃pm gU,h.get? f=some (PySem.W.kla_obj "<lambda>" qual params body scope cl pm c' gU)):=aV;have e5:∀b o,H b=some o→b≠Pt→H' b=some o:=λb o q hb=>by
   rw[e1 b (gN q Ic) (gN q hnc) hb];exact q
  have Cm:∀b o,H b=some o→(∀ps,o≠.gj ps)→b≠Pt:=λb o q ht z=>by
   rw[z,hT]at q;exact ht _ (c8 q).symm
  refine⟨.ref f,H',I.un (t':=tk) ⟨λb o e n _ _=>hk b o (λz=>by rw[z,hT]at n;cases n) e,λb o e n _ _=>⟨o.slots,hk b o (λz=>by rw[z,hT]at n;cases n) e⟩,λb o e n _=>?_,λb o e _=>?_,λb xs q=>e5 b _ q (Cm b _ q λ_ z=>nomatch z),λb o u q=>e5 b _ q (Cm b _ q λ_ z=>nomatch z),λb ps q=>?_⟩ λa o e=>?_,rfl,h f H' Ic e5 (.inr ⟨c',by rw[e2];rfl,e3⟩) ⟨c',e4,e3⟩⟩
  ·have hb:=dX e;rw[e1 b (iw (jo hb hsz)) (iw (jo hb y2)) (λz=>by rw[z,hT]at n;cases n)];exact n
  ·by_cases hb:b=Pt
   ·rw[hb];exact⟨_,Ib⟩
   ·exact⟨o,hk b o hb e⟩
  ·by_cases hb:b=Pt
   ·subst hb;rw[hT]at q;cases q;exact⟨_,e2⟩
   ·exact⟨#[],by rw[e5 b _ q hb];simp⟩
  ·by_cases gB:a=f
   ·subst gB;rw[e4]at e;cases e;exact Pa hf
   by_cases iJ:a=c'
   ·subst iJ;rw[e3]at e;cases e;exact aaL Pj
   by_cases vY:a=Pt
   ·subst vY;rw[e2]at e;cases e;exact Ib
   ·rw[e1 a gB iJ vY]at e;refine(I.bK a o e).qQ (λb u hb q=>hk b u (λz=>?_) q) (λb q=>e5 b _ q (Cm b _ q λ_ z=>nomatch z)) λb xs q=>e5 b _ q (Cm b _ q λ_ z=>nomatch z);rcases hb with hb|hb
    ·exact vY (hb▸z)
    ·rw[z,hT]at hb;cases hb
 ·rw[hT]at y0;cases y0;refine PySem.W.kla_makeFunctionHit (cv:=.ref c') (mg:=X.mg) Pc I.ok.glob hg Pb Cs y1 (by simp[TriplesOk,rawInt]) (by simp[codeAmong,rawInt]) ⟨bm,ob,b1,b2,Pd,Pe,I.bk _ _ b3,b4,b5,b6⟩ λgU h' tk hk hsz=>?_;have hn:H h'.objs.size=none:=I.bK.fresh hsz;refine⟨.ref h'.objs.size,_,I.laid (t':=tk) (o:=.ext λh=>∃pm gU,h.get? h'.objs.size=some (PySem.W.kla_obj "<lambda>" qual params body scope cl pm c' gU)) (λb u e=>dS _ (hk b u e)) hsz (Pa (iA _ rfl)),rfl,?_⟩;have e5:∀b o,H b=some o→(upd H h'.objs.size (.ext λh=>∃pm gU,h.get? h'.objs.size=some (PySem.W.kla_obj "<lambda>" qual params body scope cl pm c' gU))) b=some o:=λb o q=>by rw[cG (gN q hn)];exact q
  exact h _ _ hn (λb o q _=>e5 b o q) (.inr ⟨c',e5 _ _ hT,e5 _ _ hc⟩) ⟨c',aV,e5 _ _ hc⟩
end
structure tq(P:Program)(w:World)(K:Frag)(mg:Str→Option Value)(base:Heap)(k:Nat)(f:Addr)(fd:FuncData)(ps:List Str)(sp:Shared→Sp):Prop where
 len:∀s vs H Q E,sp s vs H Q E→vs.length=ps.length
 run:∀(A:Around)(outer:List Env)(s:Shared)(H:Hp)(args:Args)(us:List Value)(vs:List V)(Q:VK)(E:XK),dt k A→vR P w K mg base A outer s H→BindsTo s fd args (ps.zip us)→Vals vs us→sp s vs H Q E→
  codeAny (model P w) A (.call (.ref f) args) (CR bp outer P w H s Q E) s
section
variable{P:Program}{w:World}{K:Frag}{mg:Str→Option Value}{base:Heap}
theorem cA.ma{N:List Str}{k:Nat}{sp:Shared→Sp}(F:cA K x qual st f fd)(S:cT N ps (bu st))(len:∀s vs H Q E,sp s vs H Q E→vs.length=ps.length)
  (o6:∀(bE:Value)(A:Around)(outer:List Env)(s:Shared)(H:Hp)(vs:List V)(Q:VK)(E:XK),dt k (A.deeper (envOfC qual (bu st) s.heap.objs.size f bE))→sp s vs H Q E→
   ∃t,jP (mX bp P w K mg base N qual (bu st) f bE A outer s H E).lW (lZ st) t∧t { nx:=λ_ H'=>Q .ck H',rt:=Q } (start N vs) H):tq P w K mg base (k+1) f fd ps sp:=by
 obtain⟨oc,od,kV,doc,pm,an,bE,ct,nU,rfl,lk,iQ⟩:=F.ex;refine⟨len,λA outer s H args us vs Q E hr e0 hb r jR=>?_⟩;have hl:=len _ _ _ _ _ jR;have KX:K.In s.heap:=e0.mod.uq.keeps λb o e=>(e0.bs b o e).1;have uE:s.heap.NoLimit:=e0.mod.nolimit.keeps λb o e=>(e0.bs b o e).1;have yr:∀y∈ps.zip us,(bu st).names.lookup y.1=some .local∨((bu st).names.lookup y.1=some .cell∧((cellsFrom (s.heap.objs.size+1) (bu st).names []).lookup y.1).isSome=true):=λ⟨n,v⟩ hy=>by
  rcases S.par n (qI hy).1 with q|q
  ·exact .inl q
  ·exact .inr ⟨q,FD _ _ _ (.inl q)⟩
 refine codeAny_call_function hr.depth (KX _ _ lk) rfl S.co S.gen rfl (PySem.W.codeRec_of KX iQ) (hb _ _ _ _ ?_);refine au S.kind yr λenv he s1 x=>?_;subst he;refine⟨uE.keeps x.toInCall.keep,codeAny_func ?_⟩;obtain⟨t,ht,hq⟩:=o6 bE A outer s H vs Q E (hr.deeper _) jR;have I:Inv (mX bp P w K mg base N qual (bu st) f bE A outer s H E) [] (start N vs) H s1:=Gn S hr.hd e0 hl r x;refine ag (ht.lW [] s1 (start N vs) H _ I hq) (λfl s' hs=>?_) λe s' hs=>hs;have fin:∀{σ':St}{H':Hp}{v:V}{u:Value},Inv (mX bp P w K mg base N qual (bu st) f bE A outer s H E) [] σ' H' s'→RelV v u→Q v H'→CE outer P w H s Q u s':=
  λ{σ' H' v u} J rv q=>⟨v,H',J.os,J.bare,J.base,J.bK,rv,q⟩
 cases fl with
 |ret u=>
  obtain⟨v,σ',H',J,rv,q⟩:=hs;exact fin J rv q
 |next=>
  obtain⟨σ',H',J,q⟩:=hs;exact fin (v:=V.ck) (u:=Value.none) J rfl q
 |brk=>
  obtain⟨_,_,_,q⟩:=hs;exact False.elim q
 |cont=>
  obtain⟨_,_,_,q⟩:=hs;exact False.elim q
end
section
variable{X:Cx}{k:Nat}{f:Addr}{fd:FuncData}{ps:List Str}{x:Str}{p pos:Pos}{e:Expr}{es:List Expr}{t:TA}{te:TE}
theorem Cn{sp:Shared→Sp}(F:tq X.prog X.w X.K X.mg X.base k f fd ps sp)(hr:dt k X.A)(hg:Gl X x)(hm:X.mg x=some (.ref f))(hk:Kp X.K f)(hb:Binds X.K fd ps [])
  (ha:PA X (e::es) t) (uC:(x==("__debug__":Str))=false:=by decide) (he:starEach (e::es) X.env=(false,eval e X.env)::starEach es X.env:=by rfl) (kf:(backTo pos (starEach es X.env)).any (·.1)=false:=by rfl) :
  PE X (.Call (.Name x p) (e::es) [] pos) (λσ H Q=>t σ H λvs H1=>∀aI s,Inv X aI σ H1 s→sp s vs H1 Q E0):=by
 intro aI s σ H Q I h;refine ar (FP I hg hm ?_ uC);refine PySem.W.callWith_K (h₀:=X.base) I.ok.mod.uq hk (bc (ha pos aI s σ H _ I h) λus s1 ⟨vs,H1,I1,r,q⟩=>⟨I1.gO,?_⟩) he kf;have hs:=q aI s1 I1;have hl:us.length=ps.length:=by rw[← r.length];exact F.len _ _ _ _ _ hs
 have pe:=hb s1 us I1.gO (by rw[j8];exact hl);rw[j8]at pe;refine wpAny_call (codeAny_mono (F.run X.A X.stack s1 H1 ⟨us,[]⟩ us vs Q E0 hr I1.Gk pe r hs) λr s' hq=>?_);cases r with
 |error e=>exact False.elim hq
 |ok fl=>
  cases fl with
  |ret u=>exact I1.after hq
  |next=>exact False.elim hq
  |brk=>exact False.elim hq
  |cont=>exact False.elim hq
end
noncomputable def Ie(P:Program)(w:World)(K:Frag)(mg:Str→Option Value)(base:Heap)(N:List Str)(qual:Str)(scope:Scope)(f c:Addr)(cl:List (Str×Addr))(A:Around)(outer:List Env)(s:Shared)(H:Hp):Cx where
 prog:=P
 w:=w
 K:=K
 mg:=mg
 base:=base
 A:=A.deeper (PySem.W.envX qual scope s.heap.objs.size f (.ref c) cl)
 N:=N
 s₀:=s
 H₀:=H
 env:=PySem.W.envX qual scope s.heap.objs.size f (.ref c) cl
 outer:=outer
 stack:=PySem.W.envX qual scope s.heap.objs.size f (.ref c) cl::outer
 ex:=[]
 calm:=true
 fn:=λ_=>false
 pn:=[]
 xe:=λe s'=>wpAny (model P w) (A.deeper (PySem.W.envX qual scope s.heap.objs.size f (.ref c) cl)) (leaving (PySem.W.envX qual scope s.heap.objs.size f (.ref c) cl) e) (λ_ _=>False) (λ_ _=>False) s'
section
variable{P:Program}{w:World}{K:Frag}{mg:Str→Option Value}{base:Heap}
end
section
variable{P:Program}{w:World}{K:Frag}{mg:Str→Option Value}{base:Heap}
theorem cA.okC{N:List Str}{k:Nat}{sp:Sp}(F:cA K x qual st f fd)(S:cT N ps (bu st))(len:∀vs H Q E,sp vs H Q E→vs.length=ps.length)
  (o6:∀(bE:Value)(A:Around)(outer:List Env)(s:Shared)(H:Hp)(vs:List V)(Q:VK)(E:XK),fd.code=bE→dt k (A.deeper (envOfC qual (bu st) s.heap.objs.size f bE))→sp vs H Q E→
   ∃t,jP (mX bp P w K mg base N qual (bu st) f bE A outer s H E).lW (lZ st) t∧t { nx:=λ_ H'=>Q .ck H',rt:=Q } (start N vs) H):br P w K mg base bp (k+1) f fd ps sp:=by
 obtain⟨oc,od,kV,doc,pm,an,bE,ct,nU,rfl,lk,iQ⟩:=F.ex;refine M8 lk iQ S len λA outer s H vs Q E hr jR=>?_;obtain⟨t,h,q⟩:=o6 bE A outer s H vs Q E rfl hr jR;exact⟨t,h.lW,q⟩
theorem Pk{Pt:Addr}{oc:Value}{od:Option Addr}{sl:Array (Option Value)}(a:nsIn K mainGlobals x=some (some (.ref f)))(l:K.lookup f=some ⟨oc,od,.func fd,sl⟩)(t:tabIn K x=some (c,Pt)):fd.code=.ref c:=by
 unfold tabIn at t;rw[a]at t;simp only[l]at t;split at t
 ·rename_i c2 hc
  split at t
  ·split at t
   ·cases t;exact hc
   ·cases t
  ·cases t
 ·cases t
theorem aaQ{tabs:List (Addr×Addr)}{mb:Str→Option Value}{k:Nat}{fa:Addr}{sp:Sp}{s₁:Shared}{vs:List Value}{ns:List Int}
  (KX:K.In s₁.heap) (noT:PySem.W.noTabs K=true) (hT:PySem.W.TabsAt tabs s₁.heap) (y3:s₁.heap.Ns mainGlobals mg) (hb:s₁.heap.Ns builtinsNs mb) (pe:∀x:Str,x ≠ "__name__"→mb x=bootBuiltins x) (hbm:tm mg s₁.heap) (aaR:s₁.heap.NoLimit) (hg:s₁.gens=#[])
  (ha:s₁.heap.get? a=some { cls:=.type "list",data:=.seq vs.toArray }) (hi:IntsAre vs ns) (hl:ns.length≤sizeLine) (hr:dt k callerA)
  (F:∀base:Heap,K.In base→base.Ns mainGlobals mg→tm mg base→(∀q∈tabs,CodeHd base q.1 q.2)→br P w K mg base bp k fa fd [x] sp) (Ig:∀(s:Shared)(u:Value),BindsTo s fd ⟨[u],[]⟩ [(x,u)])
  (jR:∀H:Hp,dq K H a (ns.map V.int)→(∀q∈tabs,H q.2=some (.gj #[]))→sp [.ref a] H (λv _=>v=.bl true) λ_ _ _=>False) :
  codeAny (model P w) callerA (.call (.ref fa) ⟨[.ref a],[]⟩) (λr s'=>r=.ok (.ret (.bool true))∧OldK s₁.heap s'.heap∧s'.os=s₁.os∧AllBare s'.gens) s₁:=by
 have rv:=Nt hi;have aaS:=hi.length;have aaT:∀q∈tabs,K.lookup q.2=none:=λq hq=>by
  cases e:K.lookup q.2 with
  |none=>rfl
  |some o=>
   have e1:=KX _ _ e;rw[(hT q hq).2]at e1;cases e1;have h2:=jN.mp noT (q.2,PySem.W.tabObj #[]) (PySem.W.mem_of_lookupK e);exact(iz (show false=true from h2)).elim
 have aT:∀q∈tabs,q.2≠a:=λq hq z=>by
  have e:=(hT q hq).2;rw[z,ha]at e;cases e
 have core:∀H:Hp,dq K H a (ns.map V.int)→fE P w H s₁.heap→(∀q∈tabs,H q.2=some (.gj #[]))→(∀b u,H b=some u→(b=a∧K.lookup a=none∧∃o xs,u=.jO o (.lst xs))∨(∃q∈tabs,b=q.2))→
   codeAny (model P w) callerA (.call (.ref fa) ⟨[.ref a],[]⟩) (λr s'=>r=.ok (.ret (.bool true))∧OldK s₁.heap s'.heap∧s'.os=s₁.os∧AllBare s'.gens) s₁:=by
  intro H hS bK wu hA;have Co:∀{b:Addr}{o:Obj},s₁.heap.get? b=some o→H b=none→(oW s₁.heap H).get? b=some o:=λe n=>WR e n;have Ih:∀{b:Addr}{o:Obj},s₁.heap.get? b=some o→o≠{ cls:=.type "list",data:=.seq vs.toArray }→o≠PySem.W.tabObj #[]→H b=none:=λ{b o} e n1 n2=>by
   cases q:H b with
   |none=>rfl
   |some u=>
    rcases hA b u q with⟨rfl,_⟩|⟨r,hr,rfl⟩
    ·rw[ha]at e;cases e;exact absurd rfl n1
    ·rw[(hT r hr).2]at e;cases e;exact absurd rfl n2
  have Cp:∀{b:Addr}{m:Str→Option Value},s₁.heap.Ns b m→(oW s₁.heap H).Ns b m:=λ{b m} ⟨o,es,ep,e,d,r⟩=>⟨o,es,ep,Co e (Ih e (λz=>by rw[z]at d;cases d) (λz=>by rw[z]at d;cases d)),d,r⟩;have Pl:K.In (oW s₁.heap H):=λb o e=>Co (KX b o e) (by
   cases q:H b with
   |none=>rfl
   |some u=>
    rcases hA b u q with⟨rfl,hn,_⟩|⟨r,hr,rfl⟩
    ·rw[hn]at e;cases e
    ·rw[aaT r hr]at e;cases e)
  have hM:Mod K mg (oW s₁.heap H):=⟨Pl,Cp y3,⟨mb,Cp hb,pe⟩,let ⟨mc,h1,h2⟩:=aaR;⟨mc,Cp h1,h2⟩⟩;have hBB:tm mg (oW s₁.heap H):=by
   obtain⟨bm,ob,b1,b2,b3,b4,b5,b6⟩:=hbm;exact⟨bm,ob,b1,b2,Co b3 (Ih b3 (λz=>by rw[z]at b4;exact absurd (Value.type.inj b4) (by decide)) (λz=>by rw[z]at b4;cases b4)),b4,b5,b6⟩
  have hCC:∀q∈tabs,CodeHd (oW s₁.heap H) q.1 q.2:=λq hq=>by
   obtain⟨o,cvs,file,tf,aaU,tg,inF,text,tt,e1,e2,r⟩:=(hT q hq).1;exact⟨o,cvs,file,tf,aaU,tg,inF,text,tt,Co e1 (Ih e1 (λz=>by rw[z]at e2;exact absurd (Value.type.inj e2) (by decide)) (λz=>by rw[z]at e2;cases e2)),e2,r⟩
  have e0:vR P w K mg (oW s₁.heap H) callerA [] s₁ H:=⟨rfl,hM,λb o e=>WU e,Nat.le_of_eq (WQ _ _),trivial,λb hb=>absurd (show b∈([]:List Addr) from hb) (by simp),bK,.of_eq hg⟩
  refine codeAny_mono ((F _ Pl (Cp y3) hBB hCC).run callerA [] s₁ H ⟨[.ref a],[]⟩ [.ref a] [.ref a] _ _ hr e0 (Ig s₁ (.ref a)) (.cons rfl .nil) (jR H hS wu)) λr s' h=>?_;cases r with
  |error e=>exact False.elim h
  |ok fl=>
   cases fl with
   |next=>exact False.elim h
   |brk=>exact False.elim h
   |cont=>exact False.elim h
   |ret u=>
    obtain⟨v,H',os,bare,un,Pm,r',q⟩:=h;have q':v=.bl true:=q;subst q';obtain rfl:u=Value.bool true:=r';have keep:∀b o,s₁.heap.get? b=some o→s'.heap.get? b=some o∨∃q∈tabs,b=q.2∧o=PySem.W.tabObj #[]∧∃ps,s'.heap.get? b=some (PySem.W.tabObj ps):=λb o e=>by
     cases q:H b with
     |none=>exact .inl (un.keep b o e q (by intro z;exact absurd (show b∈([]:List Addr) from z) (by simp)) (by simp))
     |some u=>
      rcases hA b u q with⟨rfl,_,ob,xs,rfl⟩|⟨r,hr,rfl⟩
      ·have z2:=un.p8 _ ob _ q;obtain⟨e1,_⟩:=bK _ _ q;obtain⟨e2,_⟩:=Pm _ _ z2;rw[e]at e1;cases e1;exact .inl e2
      ·obtain⟨gY,hm⟩:=un.p9 _ _ (wu r hr);have e2:=(hT r hr).2;rw[e]at e2;exact .inr ⟨r,hr,rfl,c8 e2,_,Pm _ _ hm⟩
    refine⟨rfl,⟨λb o e=>?_,λb o e=>?_⟩,os,bare⟩
    ·rcases keep b o e with h|⟨q,hq,rfl,rfl,ps,hP⟩
     ·exact .inl h
     ·exact .inr (.inl ⟨((hT q hq).1.tab (hT q hq).2).isCodeTable,rfl,#[],ps,rfl,by rw[Array.empty_append];exact hP⟩)
    ·rcases keep b o e with h|⟨q,hq,rfl,rfl,ps,hP⟩
     ·exact⟨_,h⟩
     ·exact⟨_,hP⟩
 cases hk:K.lookup a with
 |some o=>
  have e:=KX a o hk;rw[ha]at e;cases e;refine core (λb=>if b∈tabs.map (·.2)then some (.gj #[])else none) (.inr ⟨_,vs.toArray,_,hk,rfl,rfl,rfl,by rw[dR,aaS];exact hl,by simpa using rv⟩) (λb u z=>?_) (λq hq=>ae (AL hq)) λb u z=>?_
  ·by_cases ni:b∈tabs.map (·.2)
   ·have z':=(ae ni).symm.trans z;cases z';obtain⟨q,hq,rfl⟩:=cP.mp ni;exact(hT q hq).2
   ·have z':=(af ni).symm.trans z;cases z'
  ·by_cases ni:b∈tabs.map (·.2)
   ·obtain⟨q,hq,rfl⟩:=cP.mp ni;exact .inr ⟨q,hq,rfl⟩
   ·have z':=(af ni).symm.trans z;cases z'
 |none=>
  have hif:∀b,b=a→(if b=a then some (HO.jO { cls:=.type "list",data:=.seq vs.toArray } (.lst (ns.map V.int)))else if b∈tabs.map (·.2)then some (.gj #[])else none)=some (HO.jO { cls:=.type "list",data:=.seq vs.toArray } (.lst (ns.map V.int))):=λb hb=>ae hb
  refine core (λb=>if b=a then some (.jO { cls:=.type "list",data:=.seq vs.toArray } (.lst (ns.map V.int)))else if b∈tabs.map (·.2)then some (.gj #[])else none) (.inl (.inr ⟨{ cls:=.type "list",data:=.seq vs.toArray },ae rfl⟩)) (λb u z=>?_) (λq hq=>(af (aT q hq)).trans (ae (AL hq))) λb u z=>?_
  ·by_cases hb:b=a
   ·have z':=(ae hb).symm.trans z;cases z';subst hb;exact⟨ha,by rw[aZ];exact hl,vs,_,rv,ha⟩
   ·have z:=(af hb).symm.trans z;by_cases ni:b∈tabs.map (·.2)
    ·have z':=(ae ni).symm.trans z;cases z';obtain⟨q,hq,rfl⟩:=cP.mp ni;exact(hT q hq).2
    ·have z':=(af ni).symm.trans z;cases z'
  ·by_cases hb:b=a
   ·have z':=(ae hb).symm.trans z;cases z';exact .inl ⟨hb,hk,_,_,rfl⟩
   ·have z:=(af hb).symm.trans z;by_cases ni:b∈tabs.map (·.2)
    ·obtain⟨q,hq,rfl⟩:=cP.mp ni;exact .inr ⟨q,hq,rfl⟩
    ·have z':=(af ni).symm.trans z;cases z'
end
theorem aaV{l:PySem.W.OpenLaw}{k:Nat}{q:Program}{vU:List Str}{XP:(Str→Option Value)→Heap→Prop}{YP:World→Heap→Prop}{d:DefRec}{K:Params→Frag}{sp:World→Sp}{tabs:World→List (Addr×Addr)}
  (hn:l.most=some n) (hn2:n≤sizeLine) (yB:d.params.defaults=[]) (hr:dt k callerA)
  (hY:∀(w:World)(h:Heap),YP w h→(K w.params).In h) (noT:∀w:World,PySem.W.noTabs (K w.params)=true)
  (hT:∀(w:World){y4:ExcName→Option Value}{lo:List Str}{mg mb:Str→Option Value}{h:Heap},Top q lo y4 mg mb h→(K w.params).In h→PySem.W.TabsAt (tabs w) h)
  (F:∀(w:World)(mg:Str→Option Value)(fa:Addr)(h:Heap),(K w.params).In h→h.Ns mainGlobals mg→mg d.name=some (.ref fa)→
   ∃fd:FuncData,(∀(s:Shared)(u:Value),BindsTo s fd ⟨[u],[]⟩ [(x,u)])∧
    ∀base:Heap,(K w.params).In base→base.Ns mainGlobals mg→tm mg base→(∀q∈tabs w,CodeHd base q.1 q.2)→br l.prog w (K w.params) mg base bp k fa fd [x] (sp w))
  (jR:∀(w:World)(H:Hp)(a:Addr)(ns:List Int),ns.length≤n→dq (K w.params) H a (ns.map V.int)→(∀q∈tabs w,H q.2=some (.gj #[]))→sp w [.ref a] H (λv _=>v=.bl true) λ_ _ _=>False) :
  PySem.W.WalkO q vU XP YP l.row.toRowW d [] (λf vs=>PySem.call f vs):=by
 refine Att.Ys hn yB λw s₀ s₁ mg mb fa o pm cd doc a vs ns G Y ho hd iQ hmg GV hints cF hg=>?_;have KX:=hY w _ Y;obtain⟨fd,hb,hF⟩:=F w mg fa _ KX G.T.g hmg;exact aaQ KX (noT w) (hT w G.T KX) G.T.g G.T.b G.T.builtins G.T.bmain G.T.nolimit hg GV hints (hU cF hn2) hr hF hb λH hS wu=>jR w H a ns cF hS wu
noncomputable def oj(K:Frag)(x:Str):Addr×Addr:=(tabIn K x).getD (0,0)
theorem Ii{K:Frag}(h:(tabIn K x).isSome=true):tabIn K x=some (oj K x):=by
 unfold oj;cases e:tabIn K x with
 |none=>rw[e]at h;cases h
 |some q=>rfl
theorem tabs_nil:PySem.W.TabsAt [] h:=λ_ hq=>(nomatch hq)
theorem tabs_cons{q:Program}{lo:List Str}{y4:ExcName→Option Value}{mg mb:Str→Option Value}{K:Frag}{d:DefRec}{l:List (Addr×Addr)}(T:Top q lo y4 mg mb h)(X:K.In h)(hr:(recsOf q).find? (λe=>e.name==x)=some d)
  (hs:(tabIn K x).isSome=true) (hl:PySem.W.TabsAt l h):PySem.W.TabsAt (oj K x::l) h:=List.forall_mem_cons.mpr ⟨PySem.W.tab_of (c:=(oj K x).1) (P:=(oj K x).2) T X hr (Ii hs),hl⟩
def ku(h:Heap)(a:Addr)(D:List (Str×V)):Prop:=KTD.TabOf (λ(v:V)(u:Value)=>RelV v u) h a D
noncomputable def Pn:V→Value→Bool
 | .ck,.none=>true
 | .bl b,.bool c=>b==c
 | .int i,.int j _=>i==j
 | .str x,.str y _=>x==y
 | .ref a,.ref b=>a==b
 |_,_=>false
theorem aaW(v:V)(u:Value)(h:Pn v u=true):RelV v u:=by
 cases v<;>cases u<;>first|exact Bool.noConfusion h|rfl|(have e:=beq_iff_eq.mp h;subst e;first|rfl|exact⟨_,rfl⟩)
noncomputable def vOf:Value→V
 | .bool b=>.bl b
 | .int i _=>.int i
 | .str x _=>.str x
 | .ref a=>.ref a
 |_=>.ck
noncomputable def iq(K:Frag)(a:Addr):List (Str×V):=match K.lookup a with
 |some ⟨_,_,.dict es _,_⟩=>es.toList.map λe=>((match e.key with | .str x _=>x|_ => ""),vOf e.val)
 |_=>[]
noncomputable def Cq(K:Frag)(a:Addr):Bool:=KTD.tabLook Pn (λb=>K.lookup b) a (iq K a)
theorem Ij{K:Frag}(X:K.In h)(e:Cq K a=true):ku h a (iq K a):=KTD.tab_of_look aaW (λb o q=>X b o q) e
theorem ku.typeIs{D:List (Str×V)}(T:ku s.heap a D):s.TypeIs (.ref a) "dict":=by
 obtain⟨_,o,_,_,ho,hc,_⟩:=T;exact⟨o,ho,hc.1⟩
theorem ku.noDict{D:List (Str×V)}(T:ku h a D):∀b,Value.ref a=.ref b→∃ob,h.get? b=some ob∧ob.dict=none:=λb e=>by
 cases e;obtain⟨_,o,_,_,ho,hc,_⟩:=T;exact⟨o,ho,hc.2.1⟩
section
variable{prog:Program}{w:World}{A:Around}{E:QV}{s:Shared}{a:Addr}{D:List (Str×V)}{x:Str}{tk:Tok}
theorem Ik{Q:Option Value→Shared→Prop}(T:ku s.heap a D)(h1:∀v u,KTD.datumAt x D=some v→RelV v u→Q (some u) { s with toks:=s.toks+1 })(h2:KTD.datumAt x D=none→Q none { s with toks:=s.toks+1 }) :
  wpAny (model prog w) A (dictGet a (.str x tk)) Q E s:=by
 obtain⟨_,o,es,ep,ho,hc,hd,hr⟩:=T;have hal:(es.all λe=>isExactStrKey e.key)=true:=by
  have z:=hr.exact;obtain⟨l⟩:=es;simpa using z
 have hf:findBy (λk v=>v.isStr k) es x=(es.toList.find? λe=>e.key.isStr x).map (·.val):=by obtain⟨l⟩:=es;simp[findBy]
 have hq:Q (findBy (λk v=>v.isStr k) es x) { s with toks:=s.toks+1 }:=by
  rw[hf];cases e:KTD.datumAt x D with
  |none=>rw[hr.find_none e];exact h2 e
  |some v=>obtain⟨u,z1,z2⟩:=hr.find_some e;rw[z1];exact h1 v u e z2
 rw[findBy_of_findIdx?]at hq;unfold dictGet;refine aj (wpAny_pyHash_str (aj (KTD.kt_dictFind_strs (s:={ s with toks:=s.toks+1 }) ho hd hal ?_)));cases e:es.findIdx? λe=>e.key.isStr x with
 |none=>rw[e]at hq;exact aq hq
 |some i=>rw[e]at hq;exact aj (wpAny_dictEntries (s:={ s with toks:=s.toks+1 }) ho hd (aq hq))
theorem kd_item{v:V}(T:ku s.heap a D)(hv:KTD.datumAt x D=some v)(h:∀u,RelV v u→Q u { s with toks:=s.toks+1 }):wpAny (model prog w) A (getItem (.ref a) (.str x tk)) Q E s:=by
 unfold getItem
 try (with_reducible refine ak ?_)
 refine aj (wpAny_sequenceKey (T.typeIs) (by decide) ?_);refine aj (ax (name:=Str.ofString "__getitem__") T.typeIs PySem.F.slot_dict_getitem (ay PySem.F.slot_dict_getitem T.typeIs PySem.F.entry_dict_getitem ?_ (PySem.F.args_dict_getitem_2 _ _)));show wpAny _ _ (dictGet a (.str x tk) >>= _) _ _ s;exact aj (Ik T (λv' u e r=>by rw[hv]at e;cases e;exact aq ⟨u,rfl,aq (h u r)⟩) λe=>by rw[hv]at e;cases e)
theorem aaX(T:ku s.heap a D)(h:Q (.bool (KTD.datumAt x D).isSome) { s with toks:=s.toks+1 }):wpAny (model prog w) A (compareOp .In (.str x tk) (.ref a)) Q E s:=by
 show wpAny _ _ (do return .bool (← contains (.ref a) (.str x tk))) Q E s
 refine aj ?_;unfold contains
 try (with_reducible refine ak ?_)
 refine aj (wpAny_specialOf T.typeIs PySem.F.slot_dict_contains.lookup ?_);show wpAny _ _ (if(some (Value.builtin "dict.__contains__")==some Value.none)=true then _ else _) _ _ s
 rw[af (by decide)];refine aj (wpAny_callSpecialUnlessNone?_slot (name:=Str.ofString "__contains__") T.typeIs PySem.F.slot_dict_contains (ay PySem.F.slot_dict_contains T.typeIs PySem.F.entry_dict_contains ?_ (PySem.F.args_dict_contains_2 _ _)));show wpAny _ _ (dictGet a (.str x tk) >>= _) _ _ s;refine aj (Ik T (λv u e _=>?_) λe=>?_)
 ·rw[e]at h;exact(aq ⟨_,rfl,ah (aq h)⟩)
 ·rw[e]at h;show wpAny _ _ (Builtin.Dict.pendingKey? a (.str x tk) >>= _) _ _ _;exact aj (wpAny_pendingKey_other T.1 (aq ⟨_,rfl,ah (aq h)⟩))
theorem aaY{dflt:Value}:MeetsIn prog w (Builtin.«dict.get» ⟨[.ref a,.str x tk,dflt],[]⟩) (λ_ R s=>ku s.heap a D∧(∀v u,KTD.datumAt x D=some v→RelV v u→R (.ok (.ret u)) { s with toks:=s.toks+1 })∧(KTD.datumAt x D=none→R (.ok (.ret dflt)) { s with toks:=s.toks+1 })):=
 .of_wp λA₁ R s ⟨T,h1,h2⟩=>by
  show wpAny _ _ (dictGet a (.str x tk) >>= _) _ _ s;refine aj (Ik T (λv u e r=>aq ⟨u,rfl,h1 v u e r⟩) λe=>?_);show wpAny _ _ (Builtin.Dict.missed a (.str x tk) >>= _) _ _ _;exact aj (wpAny_missed_other T.1 (aq ⟨dflt,rfl,h2 e⟩))
theorem aaZ{dflt:Value}(T:ku s.heap a D)(h1:∀v u,KTD.datumAt x D=some v→RelV v u→Q u { s with toks:=s.toks+1 })(h2:KTD.datumAt x D=none→Q dflt { s with toks:=s.toks+1 }) :
  wpAny (model prog w) A (call (.builtin "dict.get") [.ref a,.str x tk,dflt]) Q E s:=
 call_meetsIn PySem.F.slot_dict_get T.typeIs PySem.F.entry_dict_get (PySem.F.args_dict_get_3 _ _ _) (aaY (D:=D)) ⟨T,h1,h2⟩
end
section
variable{X:Cx}{o i e f:Expr}{pos lE iL:Pos}{td ty tx:TE}{a:Addr}{D:List (Str×V)}
def Cr(a:Addr)(D:List (Str×V))(td ty:TE):TE:=λσ H Q=>td σ H λu H1=>ty σ H1 λy H2=>∃x v,u=.ref a∧y=.str x∧KTD.datumAt x D=some v∧Q v H2
theorem Il(hT:∀h,X.K.In h→ku h a D)(ho:PE X o td)(hi:PE X i ty)(hs:HZ i):PE X (.Subscript o i pos) (Cr a D td ty):=by
 intro aI s σ H Q I h;refine O0 PySem.F.slot_dict_getitem.lookup hs (bc (ho aI s σ H _ I h) λu s1 ⟨x',H1,I1,rx,q1⟩=>bc (hi aI s1 σ H1 _ I1 q1) λiv s2 ⟨y,H2,I2,ry,x,v,ex,ey,g,q2⟩=>?_);subst ex ey;obtain rfl:u=Value.ref a:=rx;obtain⟨tk,rfl⟩:=ry;exact⟨(hT _ I2.gO).typeIs,kd_item (hT _ I2.gO) g λu r=>⟨v,H2,I2.tok _,r,q2⟩⟩
def Im(a:Addr)(D:List (Str×V))(ty td:TE):TE:=λσ H Q=>ty σ H λy H1=>td σ H1 λu H2=>∃x,u=.ref a∧y=.str x∧Q (.bl (KTD.datumAt x D).isSome) H2
theorem Po(hT:∀h,X.K.In h→ku h a D)(hi:PE X i ty)(ho:PE X o td):PC X .In i o (Im a D ty td):=by
 intro aI s σ H Q I h;refine bc (hi aI s σ H _ I h) λiv s1 ⟨y,H1,I1,ry,q1⟩=>bc (ho aI s1 σ H1 _ I1 q1) λu s2 ⟨x',H2,I2,rx,x,ex,ey,q2⟩=>?_;subst ex ey;obtain rfl:u=Value.ref a:=rx;obtain⟨tk,rfl⟩:=ry;exact aaX (hT _ I2.gO) ⟨.bl _,H2,I2.tok _,rfl,q2⟩
def aa0(a:Addr)(D:List (Str×V))(td ty tx:TE):TE:=λσ H Q=>td σ H λu H1=>u=.ref a∧ty σ H1 λy H2=>tx σ H2 λz H3=>∃x,y=.str x∧Q ((KTD.datumAt x D).getD z) H3
theorem aa1(hT:∀h,X.K.In h→ku h a D)(ho:PE X o td)(he:PE X e ty)(hf:PE X f tx)(m:M2 X o "get" lE e f iL):PE X (.Call (.Attribute o "get" lE) [e,f] [] iL) (aa0 a D td ty tx):=by
 intro aI s σ H Q I h;refine wpAny_Call_method m.base m.pd m.line PySem.F.plainAttrs_dict PySem.F.slot_dict_get PySem.F.type_dict_get (bc (ho aI s σ H _ I h) λu s1 ⟨x',H1,I1,rx,ex,q1⟩=>?_);subst ex;obtain rfl:u=Value.ref a:=rx;refine⟨(hT _ I1.gO).typeIs,(hT _ I1.gO).noDict,?_⟩;rw[m.trees];refine Calls.callWith_builtin rfl (Calls.evalArgs_plain (Calls.spliced_cons (bc (he aI s1 σ H1 _ I1 q1) λiv s2 ⟨y,H2,I2,ry,q2⟩=>Calls.spliced_cons (bc (hf aI s2 σ H2 _ I2 q2) λfv s3 ⟨z,H3,I3,rz,x,ey,q3⟩=>Calls.spliced_nil ?_))));subst ey;obtain⟨tk,rfl⟩:=ry;refine aaZ (hT _ I3.gO) (λv u e r=>⟨v,H3,I3.tok _,r,?_⟩) λe=>⟨z,H3,I3.tok _,rz,?_⟩
 ·rw[e]at q3;exact q3
 ·rw[e]at q3;exact q3
end
noncomputable def wx(hi:Int)(n:Nat):It:=⟨λi _=>i<n,λi H x H'=>H'=H∧x=.int (hi-i),λi _=>n≤i⟩
theorem aa2{P:Program}{w:World}{K:Frag}{tg:Expr}(it:Addr)(hi:Int)(n:Nat):Turn P w K tg (wx hi n) [it] it (λi h=>IsRangeIter h it (hi+(i:Nat)*(-1)) ((n:Int)-(i:Nat)) (-1)) where
 mem:=by simp
 obj:=λi h st b hb=>by
  have e:b=it:=by simpa using hb
  subst e;refine⟨_,st,λv z=>?_⟩;cases(show Data.fields _=Data.cell v from z)
 keep:=λi h h' st k=>k it (by simp) _ st
 item:=by
  intro X hP hw hK hc i aI s σ H E I hf st hg;subst hP hw hK;obtain⟨f0,f1,f2,f3,f4,f5⟩:=hf it (by simp);refine(Walks.range (prog:=X.prog) (w:=X.w) (I.ok.hd hc) it hi (-1) n).item i s _ _ hg st λv h' tk hv o5 kk=>?_;obtain⟨t,rfl⟩:=hv;have I1:Inv X aI σ H { s with heap:=h',toks:=tk }:=I.turned (λb o hb e=>kk b o (by simpa using hb) e) f0 f1 f3 f4 f5;refine⟨_,rfl,Be (s:={ s with heap:=h',toks:=tk }) (n := "range_iterator") o5 rfl rfl (by decide) ⟨.int (hi-i),H,I1,⟨t,?_⟩,⟨rfl,rfl⟩,o5,λb hb=>(hf b hb).1⟩⟩;rw[Int.mul_neg,Int.mul_one,Int.sub_eq_add_neg]
 done:=by
  intro X hP hw hK hc i aI s σ H E I hf st hg;subst hP hw hK;obtain⟨f0,f1,f2,f3,f4,f5⟩:=hf it (by simp);exact wpAny_pyNext_range_end (I.ok.hd hc) st (by have:n≤i:=hg;lia) λh' eb=>⟨rfl,I.turned (t':=s.toks) (λb o hb e=>eb b o hb e) f0 f1 f3 f4 f5⟩
 self:=λ_ _ _ _ _ st h=>wpAny_pyIter_rangeiter st h
theorem Pp(h:-1≤i):Builtin.Range.rangeSize i (-1) (-1)=i+1:=by
 (unfold Builtin.Range.rangeSize)
 rw[af (by decide)];split
 ·rw[show(-(-1):Int)=1 from rfl,Int.ediv_one];lia
 ·lia
theorem small_down(h:-1≤i)(h2:i<2^61):Builtin.Range.small i (-1) (-1)=true:=by
 unfold Builtin.Range.small;rw[Pp h];simp only[Builtin.Range.rangeFitsLong,eX,Bool.or_eq_true,aF,beq_iff_eq];exact⟨⟨⟨⟨⟨by lia,by lia⟩,by decide,by decide⟩,by decide,by decide⟩,by lia,by lia⟩,.inr (by decide)⟩
section
variable{X:Cx}{tg:Expr}
def aa3(ta:TA):TI:=λσ H R=>ta σ H λvs H1=>∃i:Int,vs=[.int i,.int (-1),.int (-1)]∧(-1≤i∧i<2^61)∧R (wx i (i+1).toNat) H1
theorem aa4{aI:List (Addr×Obj)}{σ:St}{R:It→Hp→Prop}{E:QV}{t u v:Tok}{tk:Nat}(I:Inv X aI σ H s)(h1:-1≤i)(h2:i<2^61)(q:R (wx i (i+1).toNat) H) :
  wpAny (model X.prog X.w) X.A (pyIter (.ref s.heap.objs.size)) (FV X aI σ tg R) E { s with heap:=s.heap.push { cls:=.type "range",data:=.fields #[.int i t,.int (-1) u,.int (-1) v] },toks:=tk }:=by
 refine wpAny_pyIter_range (IsRange.new ..) (small_down h1 h2) ?_;have I1:Inv X aI σ H { s with heap:=s.heap.push { cls:=.type "range",data:=.fields #[.int i t,.int (-1) u,.int (-1) v] },toks:=tk }:=I.kept λb o e=>dS _ e;generalize s.heap.push { cls:=.type "range",data:=.fields #[.int i t,.int (-1) u,.int (-1) v] }=h3 at I1 ⊢;refine⟨h3.objs.size,[h3.objs.size],_,_,H,rfl,I1.kept (t':=tk) λb o e=>dS _ e,aa2 _ i (i+1).toNat,?_,λb hb=>?_,q⟩
 ·show IsRangeIter _ _ (i+((0:Nat):Int)*(-1)) ((((i+1).toNat:Nat):Int)-((0:Nat):Int)) (-1);rw[show i+((0:Nat):Int)*(-1)=i by simp,show(((i+1).toNat:Nat):Int)-((0:Nat):Int)=Builtin.Range.rangeSize i (-1) (-1) by rw[Pp h1];lia];exact iA _ rfl
 ·have e:b=h3.objs.size:=by simpa using hb
  subst e;exact I1.o4 (cu _) (I1.bK.fresh (cu _))
theorem aa5{a b c:Expr}{ta:TA}{p pos:Pos}(hg:Gl X "range")(hm:X.mg "range"=none)(ha:PA X [a,b,c] ta)(hs:starEach [a,b,c] X.env=(false,eval a X.env)::starEach [b,c] X.env:=by rfl)(o8:(backTo pos (starEach [b,c] X.env)).any (·.1)=false:=by rfl) :
  PI X tg (.Call (.Name "range" p) [a,b,c] [] pos) (aa3 ta):=by
 intro aI s σ H R I h;refine Call_ (uw I hg hm boot_range (Fz (bc (ha pos aI s σ H _ I h) λus s1 ⟨vs,H1,I1,r1,q1⟩=>?_) hs o8));obtain⟨i,e,⟨q1,q2⟩,q⟩:=q1;subst e;cases r1 with
 |cons r rr=>
  cases rr with
  |cons r' rr=>
   cases rr with
   |cons r2 rr=>
    cases rr;obtain⟨t,rfl⟩:=r;obtain⟨t',rfl⟩:=r';obtain⟨t2,rfl⟩:=r2;exact call_range_3 (by decide) (aa4 I1 q1 q2 q) (Or.inl (PyProof.noPylong_small (by lia)))
end
theorem aa6{hi:Int}{g:TG}{tb:TS}{D:Ends}{σ:St}(Pv:Nat→St→Hp→Prop)(h0:Pv 0 σ H)
  (hs:∀i σ H,i<n→Pv i σ H→g (.int (hi-(i:Nat))) σ H λσ2 H2=>tb { D with nx:=Pv (i+1),ct:=Pv (i+1),bk:=D.nx } σ2 H2) (hd:∀σ H,Pv n σ H→D.nx σ H) :
  ∃W:Nat→Nat→St→Hp→Prop,(∃m,W 0 m σ H)∧∀i m σ H,W i m σ H→
   ((wx hi n).stop i H∧D.nx σ H)∨((wx hi n).go i H∧∃N:St→Hp→Prop,(∀σ' H',N σ' H'→∃m',m'<m∧W (i+1) m' σ' H')∧∀x H',(wx hi n).qW i H x H'→g x σ H' λσ2 H2=>tb { D with nx:=N,ct:=N,bk:=D.nx } σ2 H2):=by
 refine⟨λi m σ H=>m=n-i∧i≤n∧Pv i σ H,⟨n,by simp,j7 _,h0⟩,?_⟩;rintro i m σ H ⟨rfl,i5,p⟩;by_cases cR:i<n
 ·exact .inr ⟨cR,Pv (i+1),λσ' H' p'=>⟨n-(i+1),by lia,rfl,cR,p'⟩,λx H' ⟨z1,z2⟩=>by subst z1 z2;exact hs i σ _ cR p⟩
 ·have e:i=n:=by lia
  subst e;exact .inl ⟨cu _,hd σ H p⟩
def wy(cp:St)(P:Hp→List V→Prop):St→Hp→List V→Prop:=λσ H zs=>(∃o:St,o.length=1∧σ=o++cp)∧P H zs
theorem wy.mk{cp:St}{P:Hp→List V→Prop}{x:Option V}{zs:List V}(h:P H zs):wy cp P (x::cp) H zs:=⟨⟨[x],rfl,rfl⟩,h⟩
theorem aa7{cp:St}{te:TE}{Q:VK}{H1:Hp}{lo:Int}(Pv:Nat→Hp→List V→Prop)(hz:n≤sizeLine)(h0:Pv 0 H1 [])(cF:∀i H zs,Pv i H zs→zs.length≤i)
  (step:∀i H zs,i<n→Pv i H zs→te (some (.int (lo+(i:Nat)))::cp) H λv H5=>wy cp (Pv (i+1)) (some (.int (lo+(i:Nat)))::cp) H5 (zs++[v])) (done:∀H zs,Pv n H zs→∀p,H p=none→Q (.ref p) (upd H p (.lst zs))) :
  ∃W:Nat→Nat→St→Hp→List V→Prop,(∃m,W 0 m (List.replicate 1 none++cp) H1 [])∧jD (sx lo n) (bX 0) jC te Q W:=by
 refine⟨λi m σ H zs=>m=n-i∧i≤n∧wy cp (Pv i) σ H zs,⟨n,by simp,j7 _,⟨_,by simp,rfl⟩,h0⟩,?_⟩;rintro i m σ H zs ⟨rfl,hi,⟨o,ho,rfl⟩,pv⟩;have hl:=cF _ _ _ pv;by_cases cR:i<n
 ·refine .inr ⟨cR,by lia,wy cp (Pv (i+1)),λσ2 H2 uL q=>⟨n-(i+1),by lia,rfl,cR,q⟩,λx H2 y=>?_⟩;obtain⟨z,rfl⟩:=BP ho;obtain⟨rfl,rfl⟩:=y;exact step i _ zs cR pv
 ·have e:i=n:=by lia
  subst e;exact .inl ⟨cu _,by lia,done H zs pv⟩
def gQ(H H':Hp):Prop:=∀b o,H b=some o→((∃xs,o=.tup xs)∨∃ob u,o=.jO ob u)→H' b=some o
theorem gQ.trans{H1 H2:Hp}(a:gQ H H1)(b:gQ H1 H2):gQ H H2:=λc o h k=>b c o (a c o h k) k
theorem aK.tup(s:aK H H'):gQ H H':=λb o h _=>s b o h
theorem gQ.upd{H:Hp}{a:Addr}{o:HO}(h:∀u,H a=some u→(∃xs,u=.lst xs)∨∃aR,u=.dK aR):gQ H (upd H a o):=λb u e k=>by
 have ne:b≠a:=λz=>by
  subst z;rcases h u e with⟨xs,rfl⟩|⟨aR,rfl⟩<;>rcases k with⟨_,z⟩|⟨_,_,z⟩<;>cases z
 rw[cG ne];exact e
theorem gQ.lst{H:Hp}{a:Addr}{xs:List V}{o:HO}(h:H a=some (.lst xs)):gQ H (L2.upd H a o):=gQ.upd λu e=>.inl ⟨xs,by rw[h]at e;exact(c8 e).symm⟩
theorem gQ.dct{aR:List (Key×V)}{o:HO}(h:H a=some (.dK aR)):gQ H (L2.upd H a o):=gQ.upd λu e=>.inr ⟨aR,by rw[h]at e;exact(c8 e).symm⟩
theorem gQ.bh{K:Frag}{xs:List V}(e:gQ H H')(h:bf K H a xs):bf K H' a xs:=by
 rcases h with h|h
 ·refine .inl ?_;rcases h with h|⟨o,h⟩
  ·exact .inl (e _ _ h (.inl ⟨xs,rfl⟩))
  ·exact .inr ⟨o,e _ _ h (.inr ⟨o,_,rfl⟩)⟩
 ·exact .inr h
theorem aK.put{o:HO}(s:aK H H')(h:H a=none):aK H (L2.upd H' a o):=λb u e=>by
 rw[cG (gN e h)];exact s b u e
structure ph(P:Program)(w:World)(K:Frag)(mg:Str→Option Value)(base:Heap)(k:Nat)(s:Shared)(H:Hp)(f:Addr)(R:List V→Hp→VK→Prop):Prop where
 here:(∃φ:Heap→Prop,H f=some (.ext φ)∧∀h,φ h→PySem.W.FnAt f h)∨∀h,K.In h→PySem.W.FnAt f h
 run:∀(A:Around)(outer:List Env)(s':Shared)(H':Hp)(vs:List V)(us:List Value)(Q:VK),dt k A→vR P w K mg base A outer s' H'→aK H H'→
  (∀c o,s.heap.get? c=some o→H c=none→H' c=none∧∃sl,s'.heap.get? c=some { o with slots:=sl })→Vals vs us→R vs H' Q→codeAny (model P w) A (.call (.ref f) ⟨us,[]⟩) (CR bp outer P w H' s' Q E0) s'
theorem ph.Pq{P:Program}{w:World}{K:Frag}{mg:Str→Option Value}{base:Heap}{k:Nat}{sp:Sp}(F:br P w K mg base bp k f fd ps sp)(G:cA K x qual st f fd)(hb:Binds K fd ps []) :
  ph P w K mg base k s H f (λvs H' Q=>sp vs H' Q E0):=by
 refine⟨.inr λh X=>?_,λA outer s' H' vs us Q hr e0 _ _ r q=>?_⟩
 ·obtain⟨oc,od,kV,doc,pm,an,bE,ct,nU,rfl,lk,_⟩:=G.ex;exact⟨_,_,_,_,X _ _ lk⟩
 ·have KX:K.In s'.heap:=e0.mod.uq.keeps λb o e=>(e0.bs b o e).1;have hl:us.length=ps.length:=by rw[← r.length];exact F.len _ _ _ _ q
  have pe:=hb s' us KX (by rw[j8];exact hl);rw[j8]at pe;exact F.run A outer s' H' ⟨us,[]⟩ us vs Q E0 hr e0 pe r q
section
variable{X:Cx}{k:Nat}{f:Addr}{x:Str}{p pos:Pos}{e:Expr}{es:List Expr}{t:TA}{R:List V→Hp→VK→Prop}
theorem aa8{i:Nat}(L:ph X.prog X.w X.K X.mg X.base k X.s₀ X.H₀ f R)(hr:dt k X.A)(hex:X.ex=[])(hN:X.N[i]?=some x)(hv:x9 X.env.scope x)(ha:PA X (e::es) t)
  (hd:(x==("__debug__":Str))=false:=by decide) (iQ:(x==("__classdict__":Str))=false:=by decide) (he:starEach (e::es) X.env=(false,eval e X.env)::starEach es X.env:=by rfl) (kf:(backTo pos (starEach es X.env)).any (·.1)=false:=by rfl) :
  PE X (.Call (.Name x p) (e::es) [] pos) (λσ H Q=>σ[i]?=some (some (.ref f))∧aK X.H₀ H∧t σ H λvs H1=>aK X.H₀ H1∧R vs H1 Q):=by
 intro aI s σ H Q I ⟨hσ,sm,h⟩;have Pr:∀{σ:St}{H1:Hp}{s1:Shared},Inv X aI σ H1 s1→aK X.H₀ H1→PySem.W.FnAt f s1.heap:=λI1 ky=>by
  rcases L.here with⟨φ,hφ,yj⟩|z
  ·exact yj _ (I1.bK f _ (ky _ _ hφ)).1
  ·exact z _ I1.gO
 refine ar (bc (MC hN hv hd iQ aI s σ H (λv H1=>v=.ref f∧H1=H) I ⟨_,hσ,rfl,rfl⟩) λu s1 ⟨v,H1,I1,r,e1,e2⟩=>?_);subst e1 e2;cases r;refine PySem.W.callWith_F (Pr I1 sm) (bc (ha pos aI s1 σ H1 _ I1 h) λus s2 ⟨vs,H2,I2,rv,eh,hq⟩=>⟨Pr I2 eh,?_⟩) he kf;refine wpAny_call (codeAny_mono (L.run X.A X.stack s2 H2 vs us Q hr I2.Gk eh (λc o hc hn=>?_) rv hq) λr s' hq=>?_)
 ·have y6:c ∉ X.ex:=by rw[hex];simp
  exact⟨I2.base.free c o hc hn y6,I2.base.any hc hn y6⟩
 cases r with
 |error e=>exact False.elim hq
 |ok fl=>
  cases fl with
  |ret u=>exact I2.after hq
  |next=>exact False.elim hq
  |brk=>exact False.elim hq
  |cont=>exact False.elim hq
end
theorem wz(K:Frag)(hK:X.K=K){o:Expr}{to:TE}{lE iL:Pos}(ho:PE X o to)(yy:attributeBase o "pop" X.env (eval o X.env)=eval o X.env:=by rfl)(yz:(lE.endLine==iL.line)=true:=by rfl) :
  PE X (.Call (.Attribute o "pop" lE) [] [] iL) (Bt K "list" Gw to):=hK▸Nm p7 PySem.F.slot_list_pop PySem.F.type_list_pop Yi ho yy yz
end L2
namespace Bw
variable{p:Int}
noncomputable def comb(c:Nat→Int)(L:LL):Fn:=λj=>dot c (col L j) L.length
theorem Pu(c:Nat→Int)(L:LL):Sp p (RS L) (comb c L):=ON c L.length (cu _)
theorem aa9{a b:Int}(h:p∣a)(k:p∣a-b):p∣b:=by
 have:=Int.dvd_sub h k
 rwa[show a-(a-b)=b by lia]at this
theorem aba{L:LL}{ls:List Nat}{c:Nat→Int}(h1:∀(i:Nat)(r:List Int)(l:Nat),L[i]?=some r→ls[i]?=some l→r.getD l 0=1)(h2:∀(i j:Nat)(r:List Int)(l:Nat),i≠j→L[j]?=some r→ls[i]?=some l→r.getD l 0=0){i l:Nat}(hi:i<L.length)(hl:ls[i]?=some l):comb c L l=c i:=by
 unfold comb dot;rw[yV hi,wo λk hk=>?_]
 ·rw[HV (cf hi),h1 i _ l (cf hi) hl];lia
 ·by_cases Io:k=i
  ·rw[ae Io]
  ·rw[af Io,HV (cf hk),h2 i k _ l (λz=>Io z.symm) (cf hk) hl,Int.mul_zero]
theorem abb{n:Nat}{L:LL}{r:List Int}(hp:p∈cq)(hL:bo p n L)(hr:Rw p n r)(h:¬Sp p (RS L) (fn r)):(cD p (L++[r])).length=(cD p L).length+1:=by
 have hLr:bo p n (L++[r]):=λq hq=>by
  rcases(dI.mp hq)with(h|h)
  ·exact hL q h
  ·rw[dP.mp h];exact hr
 have RL:=gZ hp hL;have RM:=gZ hp hLr;obtain⟨ls,E⟩:=RL.ig;obtain⟨ms,EM⟩:=RM.ig;have t:∀{P Q:LL},(∀r∈P,Sp p (RS Q) (fn r))→∀{v:Fn},Sp p (RS P) v→Sp p (RS Q) v:=λh v hv=>hv.trans λf hf=>by
  obtain⟨r,hr,rfl⟩:=hf;exact h r hr
 have up:(cD p (L++[r])).length≤(cD p L).length+1:=by
  have:=Ca hp ((cD p L++[r]).map fn) _ (EM.OR hp) λx hx=>by
   obtain⟨q,hq,e⟩:=cP.mp (qI hx).1;rw[← e];refine OP.mp (t (λs hs=>?_) (RM.sub q hq));rcases(dI.mp hs)with(h|h)
   ·exact(RL.sup s h).trans λf ⟨d,hd,e⟩=>.mem ⟨d,by simp[hd],e⟩
   ·exact .mem ⟨s,by simp[dP.mp h],rfl⟩
  have e:((cD p (L++[r])).map fn |>.zip ms).length=(cD p (L++[r])).length:=by simp[EM.len]
  rw[e]at this;simpa using this
 have w1:∃j,¬p∣fn r j-comb (λi=>fn r (ls.getD i 0)) (cD p L) j:=by
  apply FF;intro hn;refine h (t RL.sub (.e8 (Pu (λi=>fn r (ls.getD i 0)) (cD p L)) λj=>?_))
  have:=FF λz=>hn ⟨j,z⟩
  have:=Int.dvd_neg.mpr this
  rwa[Int.neg_sub]at this
 obtain⟨l,hl⟩:=w1;have tw:rE p (((cD p L).map fn).zip ls++[(λj=>fn r j-comb (λi=>fn r (ls.getD i 0)) (cD p L) j,l)]):=by
  refine OS hl (E.OR hp) λq hq=>?_;obtain⟨i,hi,e⟩:=my.mp (qI hq).2;have uR:=cf hi;rw[e]at uR;show p∣fn r q.2-comb (λi=>fn r (ls.getD i 0)) (cD p L) q.2;rw[aba (λi r l a b=>(E.one i r l a b).1) (λi j r l cS a b=>E.alone i j r l cS a b) (by rw[← E.len];exact hi) uR,cO,uR];exact⟨0,by simp⟩
 have dn:(cD p L).length+1≤(cD p (L++[r])).length:=by
  have:=Ca hp ((cD p (L++[r])).map fn) _ tw λx hx=>by
   refine OP.mp ?_;have sL:∀q∈cD p L,Sp p (RS (cD p (L++[r]))) (fn q):=λq hq=>t RM.sup ((RL.sub q hq).trans λf ⟨d,hd,e⟩=>.mem ⟨d,by simp[hd],e⟩);rcases(dI.mp hx)with(h|h)
   ·obtain⟨q,hq,e⟩:=cP.mp (qI h).1;rw[← e];exact sL q hq
   ·rw[dP.mp h]
    have:=(RM.sup r (by simp)).plus (-1) (t sL (Pu (p:=p) (λi=>fn r (ls.getD i 0)) (cD p L)))
    exact this.of_eq λj=>by rw[Int.neg_mul,qN];rfl
  simpa[E.len]using this
 lia
structure tu(p:Int)(L L':LL):Prop where
 to:∀r∈L,Sp p (RS L') (fn r)
 fro:∀r∈L',Sp p (RS L) (fn r)
section
variable{p:Int}{n:Nat}{L L' L'':LL}
theorem pj(h:∀r∈L,Sp p (RS L') (fn r)){v:Fn}(hv:Sp p (RS L) v):Sp p (RS L') v:=hv.trans λf hf=>by
 obtain⟨r,hr,rfl⟩:=hf;exact h r hr
theorem md{r:List Int}(h:r∈L):Sp p (RS L) (fn r):=.mem ⟨r,h,rfl⟩
theorem tu.red(hp:p∈cq)(hL:bo p n L)(uR:bo p n L')(h:tu p L L'):cD p L=cD p L':=aai hp hL uR h.to h.fro
end
end Bw
namespace S21
open PySem L2 Bw
variable{A B:Prop}{H:Hp}{d e:Dat}
noncomputable def top(i:Nat):Stmt:=PySem.Challenge.pw_bentwires_k43_whole_drawn_and_alike.main.body.getD i (.Pass ⟨0,0,0,0⟩)
noncomputable abbrev y8:Stmt:=top 5
noncomputable abbrev rG:Stmt:=top 6
noncomputable abbrev y9:Stmt:=top 7
noncomputable abbrev Ct:Stmt:=top 8
noncomputable abbrev wC:Stmt:=top 9
noncomputable abbrev Cu:Stmt:=top 10
noncomputable abbrev Cv:Stmt:=top 11
noncomputable abbrev Cw:Stmt:=top 12
noncomputable abbrev za:Stmt:=top 13
noncomputable abbrev Cy:Stmt:=top 17
noncomputable abbrev Ip:Stmt:=top 18
noncomputable abbrev Cz:Stmt:=top 19
noncomputable abbrev CA:Stmt:=top 20
noncomputable abbrev wD:Stmt:=top 21
noncomputable abbrev Iq:Stmt:=top 22
noncomputable abbrev CB:Stmt:=top 23
noncomputable abbrev Ir:Stmt:=top 26
noncomputable abbrev kz:Stmt:=top 27
noncomputable abbrev Iu:Stmt:=top 28
noncomputable abbrev Iv:Stmt:=top 29
noncomputable abbrev CC:Stmt:=top 30
noncomputable abbrev zb:Stmt:=top 31
noncomputable abbrev CF:Stmt:=top 32
noncomputable abbrev zd:Stmt:=top 33
noncomputable abbrev Iw:Stmt:=top 35
noncomputable abbrev Iy:Stmt:=top 36
noncomputable abbrev Iz:Stmt:=top 37
noncomputable abbrev IA:Stmt:=top 39
noncomputable abbrev uW:Stmt:=top 40
noncomputable abbrev IC:Stmt:=top 41
noncomputable abbrev ID:Stmt:=top 42
noncomputable abbrev ze:Stmt:=top 43
noncomputable abbrev IF:Stmt:=top 44
noncomputable abbrev IG:Stmt:=top 45
noncomputable abbrev IH:Stmt:=top 46
noncomputable abbrev II:Stmt:=top 47
noncomputable abbrev IJ:Stmt:=top 48
noncomputable abbrev IK:Stmt:=top 50
noncomputable abbrev IM:Stmt:=top 51
noncomputable abbrev rH:Stmt:=top 52
noncomputable abbrev CG:Stmt:=top 53
noncomputable abbrev CH:Stmt:=top 54
noncomputable abbrev IP:Stmt:=top 55
noncomputable abbrev wF:Stmt:=top 56
noncomputable abbrev IQ:Stmt:=top 57
noncomputable abbrev CI:Stmt:=top 58
noncomputable abbrev IS:Stmt:=top 59
noncomputable abbrev IT:Stmt:=top 60
noncomputable abbrev IU:Stmt:=top 61
noncomputable abbrev IV:Stmt:=top 62
noncomputable abbrev IW:Stmt:=top 63
noncomputable abbrev IX:Stmt:=top 64
noncomputable abbrev IY:Stmt:=top 65
noncomputable abbrev rJ:Stmt:=top 66
structure Txt(mg:Str→Option Value):Prop where
 range:mg "range"=none
 zip:mg "zip"=none
 tuple:mg "tuple"=none
 list:mg "list"=none
 int:mg "int"=none
 bool:mg "bool"=none
 isinstance:mg "isinstance"=none
 len:mg "len"=none
 sum:mg "sum"=none
 max:mg "max"=none
 min:mg "min"=none
 enumerate:mg "enumerate"=none
 any:mg "any"=none
 all:mg "all"=none
theorem zf{r:List Int}{j:Nat}(h:j<r.length):r[j]?=some (r.getD j 0):=by
 rw[cf h,cO,cf h];rfl
theorem jF{r:List Int}{j:Nat}(h:j<r.length):(r.map V.int)[j]?=some (.int (r.getD j 0)):=by
 rw[dU,zf h];rfl
theorem om{c:Prop} [Decidable c] (h1:¬c→A) (h2:c→B):if(!decide c)=true then A else B:=by
 by_cases h:c
 ·exact Yt h (h2 h)
 ·rw[ab h];exact dZ (h1 h)
section
variable{K:Frag}
theorem jd{RS:List V}{rs:LL}{i:Nat}{x:V}(hA:bj K H RS (rs.map cj))(hx:RS[i]?=some x):∃r a,rs[i]?=some r∧x=.ref a∧bf K H a (r.map V.int):=by
 obtain⟨d,hd,gF⟩:=hA.get hx;rw[dU]at hd;cases e:rs[i]? with
 |none=>rw[e]at hd;cases hd
 |some r=>
  rw[e]at hd;cases hd;obtain⟨a,rfl,ha⟩:=Hz gF;exact⟨r,a,rfl,rfl,ha⟩
theorem fg{RS:List V}{rs:LL}(hA:bj K H RS (rs.map cj)):RS.length=rs.length:=by rw[hA.length,aZ]
end
theorem bf.wr{K:Frag}{a l:Addr}{ys xs:List V}{o:HO}(h:bf K H a ys)(hl:H l=some (.lst xs)):bf K (upd H l o) a ys:=by
 have ne:∀{u:HO},H a=some u→(∀zs,u≠.lst zs)→a≠l:=λe hu z=>by
  rw[z,hl]at e;exact hu xs (c8 e).symm
 rcases h with(h|⟨o',h⟩)|h
 ·refine .inl (.inl ?_);rw[cG (ne h λ_ z=>nomatch z)];exact h
 ·refine .inl (.inr ⟨o',?_⟩);rw[cG (ne h λ_ z=>nomatch z)];exact h
 ·exact .inr h
theorem bj.wr{K:Frag}{H:Hp}{l:Addr}{xs:List V}{o:HO}(hl:H l=some (.lst xs)):∀{RS:List V}{rs:LL},bj K H RS (rs.map cj)→bj K (upd H l o) RS (rs.map cj)
 |_,[],h=>by cases h;exact .nil
 |_,r::rs,h=>by
  cases h with
  |cons h t=>
   obtain⟨a,rfl,ha⟩:=Hz h;exact .cons (kj (bf.wr ha hl)) (bj.wr hl t)
theorem bo.snoc{p:Int}{n:Nat}{L:LL}{r:List Int}(h:bo p n L)(hr:Rw p n r):bo p n (L++[r]):=λx hx=>by
 refine(dI.mp hx).elim (h x) λz=>?_;rw[dP.mp z];exact hr
theorem IZ:∀n:Nat,(List.replicate n [V.int 0]).flatten=List.replicate n (V.int 0)
 |0=>rfl
 |n+1=>by rw[qJ,vD,IZ n];rfl
open Classical in
theorem abc(h:d≠e)(b:A):if(if true=true then !decide (d=e)else decide (d=e))=true then A else B:=by
 simp only[if_true,ab h,Bool.not_false];exact b
open Classical in
theorem I0(h:d≠e)(b:B):if(if false=true then !decide (d=e)else decide (d=e))=true then A else B:=by
 simp only[Bool.false_eq_true,if_false,ab h];exact b
theorem abd{s1 s2:TS}{D:Ends}{σ:St}(J:St→Hp→Prop)(h:∀N:St→Hp→Prop,(∀σ H,J σ H→N σ H)→s1 { D with nx:=N } σ H)(hr:∀σ H,J σ H→s2 D σ H):cI s1 s2 D σ H:=h _ hr
theorem gp{H':Hp}{l:Addr}(e:aK H H')(h:H' l=none):H l=none:=by
 cases q:H l with
 |none=>rfl
 |some o=>rw[e _ _ q]at h;cases h
open Classical in
theorem Ja(h:d=e)(b:A):if(if false=true then !decide (d=e)else decide (d=e))=true then A else B:=by
 rw[Z2 h];exact dZ b
theorem tD(rs:LL):kqdOk 8 (.tuple (rs.map cj))=true:=by
 show(rs.map cj).all (kqdOk 7)=true;exact Z4 6 rs
theorem Jb{p:Int}{n:Nat}{L:LL}:∀k,(i0 p n L k).1.length≤k∧(i0 p n L k).2.length=L.length
 |0=>⟨cu _,rfl⟩
 |k+1=>by
  obtain⟨h1,h2⟩:=Jb (p:=p) (n:=n) (L:=L) k;rw[i0];unfold uP;split
  ·exact⟨by lia,h2⟩
  ·constructor
   ·show(_++[_]).length≤_;rw[bY,aZ,xX];lia
   ·show(List.map _ _).length=_;rw[aZ];exact h2
theorem zg{p:Int}{n:Nat}{L:LL}(h:bo p n L):(cD p L).length≤n:=by
 by_cases cS:L=[]
 ·subst cS;exact j7 _
 ·have:=(Jb (p:=p) (n:=rA L) (L:=L) (rA L)).1
  rw[B6 h cS]at this;unfold cD;rw[B6 h cS];exact this
theorem bj.drop{K:Frag}{H:Hp}:∀{vs:List V}{ds:List Dat}(k:Nat),bj K H vs ds→bj K H (vs.drop k) (ds.drop k)
 |_,_,0,h=>h
 |_,_,_+1,.nil=>.nil
 |_,_,k+1,.cons _ r=>bj.drop k r
theorem bj.take{K:Frag}{H:Hp}:∀{vs:List V}{ds:List Dat}(k:Nat),bj K H vs ds→bj K H (vs.take k) (ds.take k)
 |_,_,0,_=>.nil
 |_,_,_+1,.nil=>.nil
 |_,_,k+1,.cons h r=>.cons h (bj.take k r)
theorem bj.at{K:Frag}{H:Hp}{XS:List V}{rs:LL}{i:Nat}(hA:bj K H XS (rs.map cj))(h:i<rs.length):∃ra,XS[i]?=some (.ref ra)∧bf K H ra ((rs[i]).map V.int):=by
 have hl:i<XS.length:=by rw[fg hA];exact h
 obtain⟨r,ra,h1,h2,h3⟩:=jd hA (cf hl);rw[cf h]at h1;cases h1;exact⟨ra,by rw[cf hl,h2],h3⟩
theorem CJ{XS:List V}{k:Nat}(h:k≤XS.length):fV XS none (some (k:Int))=XS.take k:=by
 unfold fV;rw[HT.qi,HT.uF,vE,Nat.sub_zero,ug h]
theorem CK{XS:List V}{k:Nat}(h:k≤XS.length):fV XS (some (k:Int)) none=XS.drop k:=by
 unfold fV;rw[HT.qi,HT.uF,ug h,jM (by simp)]
end S21
namespace L2
open PySem PySem.Spec PyProof.Rows
section
variable{P:Program}{w:World}{K:Frag}{mg:Str→Option Value}{base:Heap}
theorem abe{x qual:Str}{st:Stmt}{f:Addr}{fd:FuncData}{N ps:List Str}{sp:Sp}(F:cA K x qual st f fd)(S:cT N ps (bu st))(len:∀vs H Q E,sp vs H Q E→vs.length=ps.length)
  (o6:∀(bE:Value)(A:Around)(outer:List Env)(s:Shared)(H:Hp)(vs:List V)(Q:VK)(E:XK),sp vs H Q E→
   ∃t,jP (mX bp P w K mg base N qual (bu st) f bE A outer s H E).lW (lZ st) t∧t { nx:=λ_ H'=>Q .ck H',rt:=Q } (start N vs) H):br P w K mg base bp 0 f fd ps sp:=by
 obtain⟨oc,od,kV,doc,pm,an,bE,ct,nU,rfl,lk,iQ⟩:=F.ex;refine⟨len,λA outer s H args us vs Q E hr e0 hb r jR=>?_⟩;have hl:=len _ _ _ _ jR;have KX:K.In s.heap:=e0.mod.uq.keeps λb o e=>(e0.bs b o e).1;have uE:s.heap.NoLimit:=e0.mod.nolimit.keeps λb o e=>(e0.bs b o e).1;have yr:∀y∈ps.zip us,(bu st).names.lookup y.1=some .local∨((bu st).names.lookup y.1=some .cell∧((cellsFrom (s.heap.objs.size+1) (bu st).names []).lookup y.1).isSome=true):=λ⟨n,v⟩ hy=>by
  rcases S.par n (qI hy).1 with q|q
  ·exact .inl q
  ·exact .inr ⟨q,FD _ _ _ (.inl q)⟩
 refine codeAny_call_function hr.depth (KX _ _ lk) rfl S.co S.gen rfl (PySem.W.codeRec_of KX iQ) (hb _ _ _ _ ?_);refine au S.kind yr λenv he s1 x=>?_;subst he;refine⟨uE.keeps x.toInCall.keep,codeAny_func ?_⟩;obtain⟨t,ht,hq⟩:=o6 bE A outer s H vs Q E jR;have I:Inv (mX bp P w K mg base N qual (bu st) f bE A outer s H E) [] (start N vs) H s1:=Gn S hr.hd e0 hl r x;refine ag (ht.lW [] s1 (start N vs) H _ I hq) (λfl s' hs=>?_) λe s' hs=>hs;have fin:∀{σ':St}{H':Hp}{v:V}{u:Value},Inv (mX bp P w K mg base N qual (bu st) f bE A outer s H E) [] σ' H' s'→RelV v u→Q v H'→CE outer P w H s Q u s':=
  λ{σ' H' v u} J rv q=>⟨v,H',J.os,J.bare,J.base,J.bK,rv,q⟩
 cases fl with
 |ret u=>
  obtain⟨v,σ',H',J,rv,q⟩:=hs;exact fin J rv q
 |next=>
  obtain⟨σ',H',J,q⟩:=hs;exact fin (v:=V.ck) (u:=Value.none) J rfl q
 |brk=>
  obtain⟨_,_,_,q⟩:=hs;exact False.elim q
 |cont=>
  obtain⟨_,_,_,q⟩:=hs;exact False.elim q
end
end L2
namespace Bw
variable{D L T:LL}{h:List Int}{n:Nat}{p:Int}
noncomputable def gW(p:Int)(k:Nat)(h row:List Int):List Int:=gP p row (-(row.getD k 0)) h
theorem abf{k:Nat}{row:List Int}(p0:0<p)(hh:Rw p n h)(hr:Rw p n row):gW p k h row=eI p h k row:=by
 unfold gW eI;split
 ·rfl
 ·rename_i h0
  have h0:row.getD k 0=0:=by simpa using h0
  refine(yQ _ p0 hr.1 hh.1).ext p0 hr λj=>?_;rw[yO _ hr.1 hh.1,h0];split
  ·have:=l7 p (row.getD j 0 + -0*h.getD j 0)
   rwa[show row.getD j 0 + -0*h.getD j 0=row.getD j 0 by simp]at this ⊢
  ·rw[hr.out (by lia)];exact⟨0,by simp⟩
theorem Pw{a b x:Int}(p0:0<p)(ha:a*x%p=1)(hb:b*x%p=1)(a0:0≤a)(a1:a<p)(b0:0≤b)(b1:b<p):a=b:=by
 refine Ov ?_ a0 a1 b0 b1;obtain⟨u,hu⟩:=l7 p (a*x);obtain⟨v,hv⟩:=l7 p (b*x);rw[ha]at hu;rw[hb]at hv;exact⟨a*v-b*u,by grind⟩
theorem abg{c:Int}{k:Nat}(hp:p∈cq)(hh:Rw p n h)(h0:h.getD k 0≠0)(c0:1≤c)(c1:c<p)(hc:c*h.getD k 0%p=1):(h.map λx=>x*c%p)=ee p n h k:=by
 have p0:0<p:=by have:=fe p hp;lia
 have b:=hh.at p0 k;obtain⟨t1,t2,t3⟩:=wk hp (show 1≤h.getD k 0 by lia) b.2;have e:=Pw p0 hc t3 (by lia) c1 (by lia) t2;have r1:Rw p n (h.map λx=>x*c%p):=⟨by simp[hh.1],λx hx=>by
  obtain⟨y,_,rfl⟩:=cP.mp hx;exact⟨lR _ (by lia),lS _ p0⟩⟩
 refine r1.ext p0 (yS p0 hh) λj=>?_;rw[yR hh,← e];by_cases hj:j<n
 ·rw[ae hj,OH hh.1 hj];exact⟨0,by lia⟩
 ·rw[af hj,r1.out (by lia)];exact⟨0,by simp⟩
theorem drop_zero{k:Nat}{A B:LL}{z:List Int}(I:js p n L k (D,A++z::B))(hz:∀j,z.getD j 0=0):js p n L k (D,A++B):=by
 have sub:∀r,r∈A++B→r∈A++z::B:=λr hr=>by
  rcases dI.mp hr with h|h<;>simp[h]
 refine⟨I.d,λr hr=>I.r r (sub r hr),λr hr=>I.z r (sub r hr),I.ig,λr hr=>I.sub r ?_,λr hr=>(I.sup r hr).trans λf hf=>?_⟩
 ·rcases(dI.mp hr)with(h|h)
  ·exact nR _ h
  ·exact jb _ (sub r h)
 ·obtain⟨q,hq,rfl⟩:=hf;rcases(dI.mp hq)with(h|h)
  ·exact .mem ⟨q,nR _ h,rfl⟩
  ·rcases(dI.mp h)with(h|h)
   ·exact .mem ⟨q,jb _ (nR _ h),rfl⟩
   ·rcases(eW.mp h)with(rfl|h)
    ·exact Sp.zero.of_eq λj=>(hz j).symm
    ·exact .mem ⟨q,jb _ (jb _ h),rfl⟩
theorem js.skip{k:Nat}(I:js p n L k (D,T))(h:∀r∈T,r.getD k 0=0):js p n L (k+1) (D,T):=by
 obtain⟨ls,E⟩:=I.ig;exact⟨I.d,I.r,λr hr j hj=>by
  by_cases e:j=k
  ·subst e;exact h r hr
  ·exact I.z r hr j (by lia),⟨ls,E.len,E.up,λl hl=>Nat.lt_succ_of_lt (E.lt l hl),E.one,E.alone⟩,I.sub,I.sup⟩
theorem js.head{k i:Nat}(hp:p∈cq)(hk:k<n)(I:js p n L k (D,T))(hi:T[i]?=some h)(h0:h.getD k 0≠0)(hf:∀j q,j<i→T[j]?=some q→q.getD k 0=0) :
  js p n L (k+1) (D.map (eI p (ee p n h k) k)++[ee p n h k],(T.eraseIdx i).map (eI p (ee p n h k) k)):=by
 have p0:0<p:=by have:=fe p hp;lia
 have il:=(dB.mp hi).1;have hT:T=T.take i++h::T.drop (i+1):=by
  have hd:T.drop i=h::T.drop (i+1):=by rw[List.drop_eq_getElem_cons il,(dB.mp hi).2]
  rw[← hd,x4]
 have CL:Rw p n h:=I.r h (cZ hi);have Jc:T.filter (λr=>r.getD k 0≠0)=h::(T.drop (i+1)).filter λr=>r.getD k 0≠0:=by
  rw(occs:=.pos [1]) [hT];rw[AM,FG (by simpa using h0),List.filter_eq_nil_iff.mpr]
  ·rfl
  ·intro q hq;obtain⟨j,hj,rfl⟩:=my.mp hq;have rC:j<i:=by rw[cB]at hj;lia
   have:=hf j _ rC (by rw[cf (by lia)])
   rw[List.getElem_take];simpa using this
 have S:=OB hp (show k+1≤n by lia) I;unfold uP at S;dsimp only at S;rw[Jc]at S;dsimp only at S;have kn:=yS (place:=k) p0 CL;have b:=CL.at p0 k;obtain⟨t1,t2,t3⟩:=wk hp (show 1≤h.getD k 0 by lia) b.2;have zc:∀j,(eI p (ee p n h k) k h).getD j 0=0:=λj=>by
  unfold eI;rw[ae h0,yO _ CL.1 kn.1];split
  ·rename_i hj
   apply Int.emod_eq_zero_of_dvd;rw[yR CL,ae hj];obtain⟨u,hu⟩:=l7 p (h.getD j 0*dO p (h.getD k 0));obtain⟨v,hv⟩:=l7 p (dO p (h.getD k 0)*h.getD k 0);rw[t3]at hv;exact⟨h.getD j 0*v-h.getD k 0*u,by grind⟩
  ·rfl
 have e1:(T.eraseIdx i).map (eI p (ee p n h k) k)=(T.take i).map (eI p (ee p n h k) k)++(T.drop (i+1)).map (eI p (ee p n h k) k):=by
  rw[List.eraseIdx_eq_take_drop_succ,dC]
 have e2:T.map (eI p (ee p n h k) k)=(T.take i).map (eI p (ee p n h k) k)++eI p (ee p n h k) k h::(T.drop (i+1)).map (eI p (ee p n h k) k):=by
  rw(occs:=.pos [1]) [hT];rw[dC,mx]
 rw[e2]at S;rw[e1];exact drop_zero S zc
theorem js.start(hL:bo p n L):js p n L 0 ([],L):=
 ⟨λr hr=>(nomatch hr),hL,λr _ j hj=>absurd hj (by lia),⟨[],rfl,.nil,by simp,by simp,by simp⟩,λr hr=>.mem ⟨r,hr,rfl⟩,λr hr=>.mem ⟨r,hr,rfl⟩⟩
theorem js.done(hp:p∈cq)(hL:bo p n L)(I:js p n L n (D,T)):D=cD p L:=by
 have sup:∀r∈L,Sp p (RS D) (fn r):=λr hr=>(I.sup r hr).trans λf hf=>by
  obtain⟨r0,h0,rfl⟩:=hf;rcases(dI.mp h0)with(h0|h0)
  ·exact .mem ⟨r0,h0,rfl⟩
  ·exact(Sp.zero).of_eq λj=>(OE (I.r r0 h0) (I.z r0 h0) j).symm
 have R:=gZ hp hL;obtain⟨ls,E⟩:=I.ig;obtain⟨ms,EM⟩:=R.ig;exact E.unique hp EM I.d R.rws (λr hr=>pj R.sup (I.sub r (nR _ hr))) (λr hr=>pj sup (R.sub r hr))
theorem js.len{p:Int}{n k:Nat}{L D T:LL}(I:js p n L k (D,T))(hk:k≤n):D.length≤k:=by
 obtain⟨ls,E⟩:=I.ig
 have:=aat (n:=k) E.up E.lt
 have e:ls.length=D.length:=E.len;lia
section
variable{p:Int}{n:Nat}
end
end Bw
namespace S21
open PySem L2 Bw
variable{f fA:Addr}{fd jt:FuncData}
theorem Px:(["number","more","factor","p"]:List Str).Nodup:=by decide +kernel
def Py:Sp:=λvs H Q _=>∃p n:Int,vs=[.int p,.int n]∧2≤p∧p≤97∧Q (.int (dO p n)) H
def CM(K:Frag):Sp:=λvs H Q _=>∃(p f:Int)(a b:Addr)(r o:List Int),vs=[.int p,.ref a,.int f,.ref b]∧2≤p∧p≤97∧-1000≤f∧f≤1000∧bf K H a (r.map V.int)∧bf K H b (o.map V.int)∧r.length=o.length∧r.length≤1000∧
 iY K H ((gP p r f o).map V.int) Q
def Pz(K:Frag):Sp:=λvs H Q _=>∃(p n:Int)(a b:Addr)(b1 b2:Bool)(RS:List V)(rs:LL)(fs:List Int),vs=[.int p,.ref a,.ref b,.int n]∧2≤p∧p≤97∧0≤n∧n≤1000∧
 Sq b1 K H a RS∧bj K H RS (rs.map cj)∧Sq b2 K H b (fs.map V.int)∧rs.length=fs.length∧rs.length≤1000∧(∀r∈rs,r.length=n.toNat)∧(∀f∈fs,0≤f∧f<p)∧
 iY K H ((km p (rs.zip fs) (List.replicate n.toNat 0)).map V.int) Q
theorem CN:cT ["p","number","power","step"] ["p","number"] (bu y8):=de rfl rfl rfl (by decide +kernel) rfl
theorem abh(F:cA K "turned" "turned" y8 f fd)(T:Txt mg):br P w K mg base bp 1 f fd ["p","number"] Py:=by
 refine F.ok CN (λvs H Q E h=>?_) (λbE A outer s H vs Q E hr h=>?_)
 ·obtain⟨p,n,rfl,_⟩:=h;rfl
 ·obtain⟨p,n,rfl,p2,je,k⟩:=h;refine⟨_,ba (bH (i:=2) CN.nd rfl (.inl rfl) aW) (ba (kc lD rfl (qX rfl T.range (aJ (aX iS (pv 0) aW) aO)) (cx (i:=3) CN.nd rfl (.inl rfl)) (bq (bH (i:=2) CN.nd rfl (.inl rfl) (aX iC (aX sE (pv 2) (pv 1)) (pv 0))))) (bq (bV (pv 2)))),?_⟩;refine⟨_,rfl,_,_,rfl,rfl,p-2,rfl,by lia,by lia,uB (n:=(p-2).toNat) (λi σ H'=>H'=H∧∃st,σ=[some (.int p),some (.int n),some (.int (uN p n i)),st]) ⟨rfl,none,rfl⟩ ?_ ?_⟩
  ·rintro i σ H' hi ⟨rfl,st,rfl⟩;have hb:=aaf (n:=n) p2 i;exact⟨_,rfl,_,rfl,_,_,rfl,rfl,.inl ⟨by lia,by lia⟩,_,rfl,_,_,rfl,rfl,by lia,rfl,_,rfl⟩
  ·rintro σ H' ⟨rfl,st,rfl⟩;exact⟨_,rfl,k⟩
theorem scA:cT ["p","row","factor","other"] ["p","row","factor","other"] (bu rG):=de rfl rfl rfl (by decide +kernel) rfl
theorem PB(F:cA K "added" "added" rG f fd)(T:Txt mg):br P w K mg base bp 0 f fd ["p","row","factor","other"] (CM K):=by
 refine abe F scA (λvs H Q E h=>?_) (λbE A outer s H vs Q E h=>?_)
 ·obtain⟨p,f,a,b,r,o,rfl,_⟩:=h;rfl
 ·obtain⟨p,fc,a,b,r,o,rfl,p2,je,f0,f1,ha,hb,hl,hz,k⟩:=h;refine⟨_,bq (bV (gz (l6 K rfl) rfl T.tuple lJ (aJ (iV (N:=["number","more","factor","p"]) (own:=2) (caps:=[2,0]) rfl (Og K rfl false false rfl T.zip (aJ (pv 1) (aJ (pv 3) aO))) (show dJ ["p","row","factor","other"] (bu rG) ["number","more","factor","p"] 2 [2,0] _ from .mk' (by decide +kernel)) (λ_ _ _ _ _=>yN (n:=2) K rfl rfl (eF (cx (i:=0) Px rfl (.inl rfl)) (eF (cx (i:=1) Px rfl (.inl rfl)) lX))) (λ_ _ _ _ _=>fq) (λ_ _ _ _ _=>aX iC (aX eU (pv 0) (aX sE (pv 2) (pv 1))) (pv 3))) aO))),?_⟩
  have ext:(gP p r fc o).length=r.length:=by simp[gP,hl]
  refine⟨_,rfl,_,rfl,a,b,rfl,⟨_,ha⟩,⟨_,hb⟩,ZW (b1:=false) (b2:=false) (cp:=[some (.int fc),some (.int p)]) (λi H' zs=>zs=((gP p r fc o).take i).map V.int) ha hb (by simp[hl]) (by rw[aZ];exact Nat.le_of_lt (GZ hz)) rfl (λi H' zs e=>by subst e;rw[aZ,cB];lia) (λi H1 H2 zs _ e=>e) ?_ ?_⟩
  ·rintro i x y H' zs hx hy sm rfl;rw[dU]at hx hy;cases e1:r[i]? with
   |none=>rw[e1]at hx;cases hx
   |some u=>
    cases e2:o[i]? with
    |none=>rw[e2]at hy;cases hy
    |some v=>
     rw[e1]at hx;rw[e2]at hy;cases hx;cases hy;refine jc ?_;refine⟨_,rfl,_,rfl,_,rfl,_,_,rfl,rfl,.inl ⟨by lia,by lia⟩,_,_,rfl,rfl,_,rfl,_,_,rfl,rfl,by lia,⟨[_,_],rfl,rfl⟩,sm,?_⟩;have e3:(gP p r fc o)[i]?=some ((u+fc*v)%p):=by
      unfold gP;rw[List.getElem?_zipWith,e1,e2]
     rw[gK,e3];simp
  ·rintro H' zs sm rfl q hq;rw[aZ,jM (by lia)];refine⟨q,_,rfl,.inl ⟨.of aV,λl hl=>?_⟩⟩;exact k _ _ ((sm.trans (.upd hq)).trans (.upd hl)) (.of aV)
theorem abi(F:cA K "added" "added" rG f fd)(T:Txt mg):br P w K mg base bp 1 f fd ["p","row","factor","other"] (CM K):=(PB F T).mono (by decide)
theorem PD(p:Int)(r:List Int)(f:Int):∀(L:List (List Int×Int))(t:List Int),km p (L++[(r,f)]) t=gP p (km p L t) f r
 | [],t=>rfl
 |(r',f')::L,t=>by
  rw[qK,km,km];exact PD p r f L _
theorem PF{p:Int}{n:Nat}:∀(L:List (List Int×Int))(t:List Int),(∀q∈L,q.1.length=n)→t.length=n→(km p L t).length=n
 | [],t,_,h=>h
 |(r,f)::L,t,h,ht=>by
  rw[km];refine PF L _ (λq hq=>h q (iy _ hq)) ?_
  have:=h (r,f) ek
  simp only at this;simp[gP,ht,this]
theorem zh:cT ["p","rows","factors","length","total","row","factor"] ["p","rows","factors","length"] (bu y9):=de rfl rfl rfl (by decide +kernel) rfl
theorem abj(F:cA K "summed" "summed" y9 f fd)(T:Txt mg)(FA:cA K "added" "added" rG fA jt)(bA:Binds K jt ["p","row","factor","other"] [])(mA:Mg mg "added" fA) :
  br P w K mg base bp 1 f fd ["p","rows","factors","length"] (Pz K):=by
 have GA:br P w K mg base bp 0 fA jt ["p","row","factor","other"] (CM K):=PB FA T;refine F.ok zh (λvs H Q E h=>?_) (λbE A outer s H vs Q E hr h=>?_)
 ·obtain⟨p,n,a,b,b1,b2,RS,rs,fs,rfl,_⟩:=h;rfl
 ·obtain⟨p,n,a,b,b1,b2,RS,rs,fs,rfl,p2,je,n0,n1,gG,hA,gH,hl,hz,pk,Jc,k⟩:=h;refine⟨_,ba (bH (i:=4) zh.nd rfl (.inl rfl) (aX (rn K rfl) (c7 (aJ aW aO)) (pv 3))) (ba (kc lD rfl (Og K rfl b1 b2 rfl T.zip (aJ (pv 1) (aJ (pv 2) aO))) (yN (n:=2) K rfl rfl (eF (cx (i:=5) zh.nd rfl (.inl rfl)) (eF (cx (i:=6) zh.nd rfl (.inl rfl)) lX))) (bq (bH (i:=4) zh.nd rfl (.inl rfl) (bZ GA hr rfl mA FA.kp bA .nil cb (aJ (pv 0) (aJ (pv 4) (aJ (pv 6) (aJ (pv 5) aO)))))))) (bq (bV (pv 4)))),?_⟩;refine⟨by decide,λq hq=>⟨_,rfl,q,n,_,rfl,rfl,.of aV,by simp,by lia,by lia,?_,λt H1 ky ht=>?_⟩⟩
  ·have:(1000:Nat)≤sizeLine:=by decide
   show 1*n.toNat≤sizeLine;lia
  have Jd:aK H H1:=(aK.upd hq).trans ky;have pq:RS.length=(fs.map V.int).length:=by rw[hA.length,aZ,aZ];exact hl
  have e0:(List.replicate n.toNat [V.int 0]).flatten=(List.replicate n.toNat (0:Int)).map V.int:=by
   rw[AN];induction n.toNat with
   |zero=>rfl
   |succ m ih=>rw[qJ,vD,ih,qJ];rfl
  refine⟨_,rfl,_,rfl,a,b,rfl,⟨_,Jd.sq gG⟩,⟨_,Jd.sq gH⟩,ZX (b1:=b1) (b2:=b2) (λi σ H'=>aK H H'∧∃t zi lY,σ=[some (.int p),some (.ref a),some (.ref b),some (.int n),some (.ref t),zi,lY]∧bf K H' t ((km p ((rs.zip fs).take i) (List.replicate n.toNat 0)).map V.int)) pq ⟨Jd,t,none,none,rfl,by rw[e0]at ht;exact ht⟩ (λi σ H' ⟨sm,_⟩=>⟨sm.sq gG,sm.sq gH⟩) (λi σ H1 H2 s12 ⟨sm,t,zi,lY,e,ht⟩=>⟨sm.trans s12,t,zi,lY,e,s12.bh ht⟩) ?_ ?_⟩
  ·rintro i x y σ H' hx hy ⟨sm,t,zi,lY,rfl,ht⟩;obtain⟨d,hd,gF⟩:=hA.get hx;rw[dU]at hd hy;cases e1:rs[i]? with
   |none=>rw[e1]at hd;cases hd
   |some r=>
    cases e2:fs[i]? with
    |none=>rw[e2]at hy;cases hy
    |some fc=>
     rw[e1]at hd;rw[e2]at hy;cases hd;cases hy;obtain⟨ra,rfl,cV⟩:=Hz gF;have iM:=pk r (cZ e1);have Je:=Jc fc (cZ e2);have CO:(km p ((rs.zip fs).take i) (List.replicate n.toNat 0)).length=n.toNat:=PF _ _ (λq hq=>pk q.1 (qI (gy hq)).1) (by simp);refine⟨_,rfl,_,rfl,_,rfl,_,rfl,p,fc,t,ra,_,r,rfl,p2,je,by lia,by lia,ht,sm.bh cV,by rw[CO,iM],by rw[CO];lia,λt' H2 eh zj=>?_⟩;refine⟨sm.trans eh,t',_,_,rfl,?_⟩;have e3:(rs.zip fs)[i]?=some (r,fc):=by rw[List.getElem?_zip_eq_some];exact⟨e1,e2⟩
     rw[gK,e3];show bf K H2 t' ((km p ((rs.zip fs).take i++[(r,fc)]) _).map V.int);rw[PD];exact zj
  ·rintro σ H' ⟨sm,t,zi,lY,rfl,ht⟩;have e4:(rs.zip fs).length≤RS.length:=by rw[List.length_zip,hA.length,aZ];lia
   rw[jM e4]at ht;exact⟨_,rfl,k _ _ sm ht⟩
theorem nd1:(["row","place"]:List Str).Nodup:=by decide +kernel
theorem PH:(["row","lead","p","place"]:List Str).Nodup:=by decide +kernel
def Jf(K:Frag):Sp:=λvs H Q _=>∃(p:Int)(a b:Addr)(r o:List Int)(i:Int)(j:Nat),vs=[.int p,.ref a,.ref b,.int i]∧i=j∧2≤p∧p≤97∧bf K H a (r.map V.int)∧bf K H b (o.map V.int)∧r.length=o.length∧j<r.length∧r.length≤1000∧
 (∀x∈r,0≤x∧x<p)∧iY K H ((eI p o j r).map V.int) Q
def tE(K:Frag):Sp:=λvs H Q _=>∃(p:Int)(a:Addr)(b:Bool)(RS:List V)(rs:LL)(n:Nat),vs=[.int p,.ref a]∧p∈cq∧Sq b K H a RS∧bj K H RS (rs.map cj)∧rs.length≤1000∧n≤1000∧bo p n rs∧
 ∀t H' DS,aK H H'→bf K H' t DS→bj K H' DS ((cD p rs).map cj)→Q (.ref t) H'
theorem scC:cT ["p","row","lead","place"] ["p","row","lead","place"] (bu Cv):=de rfl rfl rfl (by decide +kernel) rfl
theorem abk(F:cA K "cleared" "cleared" Cv f fd)(T:Txt mg)(FA:cA K "added" "added" rG fA jt)(bA:Binds K jt ["p","row","factor","other"] [])(mA:Mg mg "added" fA) :
  br P w K mg base bp 2 f fd ["p","row","lead","place"] (Jf K):=by
 have GA:br P w K mg base bp 1 fA jt ["p","row","factor","other"] (CM K):=abi FA T;refine F.ok scC (λvs H Q E h=>?_) (λbE A outer s H vs Q E hr h=>?_)
 ·obtain⟨p,a,b,r,o,i,j,rfl,_⟩:=h;rfl
 ·obtain⟨p,a,b,r,o,i,j,rfl,rfl,p2,je,ha,hb,hl,hj,hz,Jg,k⟩:=h;refine⟨_,bq (bV (ym (cM qg (bt (cH K rfl) (pv 1) (pv 3) (λ_ _=>rfl)) aW (cJ _)) (bZ GA hr rfl mA FA.kp bA .nil cb (aJ (pv 0) (aJ (pv 1) (aJ (vO vP (bt (cH K rfl) (pv 1) (pv 3) (λ_ _=>rfl))) (aJ (pv 2) aO))))) (pv 1))),?_⟩;have hx:=Jg _ (cZ (zf hj));refine⟨_,rfl,_,rfl,a,_,(j:Int),_,rfl,rfl,ha,bw (jF hj),rfl,_,rfl,om (λcS=>?_) (λheq=>?_)⟩
  ·have Jh:r.getD j 0≠0:=λz=>cS (ai V.int z);refine⟨_,rfl,_,rfl,_,rfl,_,rfl,a,_,(j:Int),_,rfl,rfl,ha,bw (jF hj),_,rfl,_,rfl,p,-(r.getD j 0),a,b,r,o,rfl,p2,je,by lia,by lia,ha,hb,hl,hz,?_⟩;unfold eI at k;rw[ae Jh]at k;exact k
  ·have abl:r.getD j 0=0:=V.int.inj heq;unfold eI at k;rw[af (λz=>z abl)]at k;exact⟨_,rfl,k.old ha⟩
noncomputable abbrev nD:List Str:=["p","rows","done","rest","length","place","heads","lead"]
theorem rK:cT ["p","rows","done","rest","length","place","heads","lead"] ["p","rows"] (bu wC):=de rfl rfl rfl (by decide +kernel) rfl
theorem PJ{H:Hp}{l la:Addr}{XS:List V}{xs:LL}{p:Int}{n place:Nat}{lead:List Int}{Q:VK}{te:TE}(p2:2≤p)(je:p≤97)(hl:dq K H l XS)(hA:bj K H XS (xs.map cj))(hx:bo p n xs)(hz:xs.length≤1000)(hn:n≤1000)(hp:place<n)(me:lead.length=n)(jW:bf K H la (lead.map V.int))
  (zk:∀(x:Addr)(H1:Hp)(R:VK),Jf K [.int p,.ref x,.ref la,.int (0+(place:Int))] H1 R (λ_ _ _=>False)→te [some (.ref x),some (.ref la),some (.int p),some (.int (0+(place:Int)))] H1 R)
  (done:∀H' zs,aK H H'→bj K H' zs ((xs.map (eI p lead place)).map cj)→∀q,H' q=none→Q (.ref q) (upd H' q (.lst zs))) :
  ∃W:Nat→Nat→St→Hp→List V→Prop,(∃m,W 0 m (List.replicate 1 none++[some (.ref la),some (.int p),some (.int (0+(place:Int)))]) H [])∧jD (qe K l) (bX 0) jC te Q W:=by
 refine n9 (cp:=[some (.ref la),some (.int p),some (.int (0+(place:Int)))]) (λi H' zs=>bj K H' zs (((xs.take i).map (eI p lead place)).map cj)) hl (by rw[fg hA];exact Nat.le_of_lt (GZ hz)) .nil
  (λi H' zs h=>by rw[fg h,aZ,cB];lia) ?_ ?_
 ·rintro i x H' zs gF sm h;obtain⟨r,a,hr,rfl,ha⟩:=jd hA gF;have hR:=hx r (cZ hr);refine jc (zk a H' _ ⟨p,a,la,r,lead,0+(place:Int),place,rfl,by lia,p2,je,sm.bh ha,sm.bh jW,by rw[hR.1,me],by rw[hR.1];exact hp,by rw[hR.1];exact hn,hR.2,λt H2 s2 ht=>?_⟩);refine⟨⟨[_],rfl,rfl⟩,sm.trans s2,?_⟩;rw[gK,hr];show bj K H2 _ (((xs.take i++[r]).map (eI p lead place)).map cj);rw[dC,dC];exact(h.mono s2).append (.cons (kj ht) .nil)
 ·rintro H' zs sm h q hq;rw[fg hA,lT]at h;exact done H' zs sm h q hq
def PK(K:Frag):Sp:=λvs H Q _=>∃(p:Int)(a:Addr)(r:List Int)(i:Int)(j:Nat),vs=[.int p,.ref a,.int i]∧i=j∧p∈cq∧bf K H a (r.map V.int)∧j<r.length∧r.length≤1000∧(∀x∈r,0≤x∧x<p)∧r.getD j 0≠0∧
 iY K H ((ee p r.length r j).map V.int) Q
theorem abm:cT ["p","row","place"] ["p","row","place"] (bu Cu):=de rfl rfl rfl (by decide +kernel) rfl
theorem abn{fT fS:Addr}{oo eS:FuncData}(F:cA K "led" "led" Cu f fd)(T:Txt mg)(FA:cA K "added" "added" rG fA jt)(bA:Binds K jt ["p","row","factor","other"] [])(mA:Mg mg "added" fA)
  (FT:cA K "turned" "turned" y8 fT oo) (bT:Binds K oo ["p","number"] []) (mT:Mg mg "turned" fT) (FS:cA K "summed" "summed" y9 fS eS) (bS:Binds K eS ["p","rows","factors","length"] []) (mS:Mg mg "summed" fS) :
  br P w K mg base bp 2 f fd ["p","row","place"] (PK K):=by
 have GT:br P w K mg base bp 1 fT oo ["p","number"] Py:=abh FT T;have GS:br P w K mg base bp 1 fS eS ["p","rows","factors","length"] (Pz K):=abj FS T FA bA mA;refine F.ok abm (λvs H Q E h=>?_) (λbE A outer s H vs Q E hr h=>?_)
 ·obtain⟨p,a,r,i,j,rfl,_⟩:=h;rfl
 ·obtain⟨p,a,r,i,j,rfl,rfl,pp,ha,hj,hz,Jg,cS,k⟩:=h;obtain⟨p2,je⟩:=fe p pp;refine⟨_,bq (bV (bZ GS hr rfl mS FS.kp bS .nil cb (aJ (pv 0) (aJ (cE (aJ (pv 1) aO)) (aJ (cE (aJ (bZ GT hr rfl mT FT.kp bT .nil cb (aJ (pv 0) (aJ (bt (cH K rfl) (pv 1) (pv 2) (λ_ _=>rfl)) aO))) aO)) (aJ (eG (gk K rfl) rfl T.len gm (aJ (pv 1) aO)) aO)))))),?_⟩;have hx:=Jg _ (cZ (zf hj));have sF:=wk (n:=r.getD j 0) pp (by lia) hx.2;refine⟨_,rfl,_,rfl,(by show 1≤sizeLine;decide),λl1 h1=>?_⟩;refine⟨_,rfl,_,rfl,_,rfl,a,_,(j:Int),_,rfl,rfl,(aK.upd h1).bh ha,bw (jF hj),p,r.getD j 0,rfl,p2,je,(by show 1≤sizeLine;decide),λl2 h2=>?_⟩;have fZ:aK H (upd (upd H l1 (.lst [.ref a])) l2 (.lst [.int (dO p (r.getD j 0))])):=(aK.upd h1).trans (.upd h2);refine⟨_,rfl,a,_,rfl,.inr (fZ.bh ha),?_⟩;rw[aZ];refine⟨p,(r.length:Int),l1,l2,true,true,[.ref a],[r],[dO p (r.getD j 0)],rfl,p2,je,by lia,by lia,.of (by rw[cG (gN aV h2)];exact aV),.cons (kj (fZ.bh ha)) .nil,.of aV,rfl,(by show 1≤1000;decide),λq hq=>by rw[dP.mp hq];rfl,λf hf=>by rw[dP.mp hf];lia,λt H6 i6 ht=>?_⟩;exact k t H6 (fZ.trans i6) ht
theorem tF{fT fS fC fL:Addr}{oo eS fH oq:FuncData}(F:cA K "reduced" "reduced" wC f fd)(T:Txt mg)(FA:cA K "added" "added" rG fA jt)(bA:Binds K jt ["p","row","factor","other"] [])(mA:Mg mg "added" fA)
  (FT:cA K "turned" "turned" y8 fT oo) (bT:Binds K oo ["p","number"] []) (mT:Mg mg "turned" fT) (FS:cA K "summed" "summed" y9 fS eS) (bS:Binds K eS ["p","rows","factors","length"] []) (mS:Mg mg "summed" fS)
  (FC:cA K "cleared" "cleared" Cv fC fH) (bC:Binds K fH ["p","row","lead","place"] []) (mC:Mg mg "cleared" fC)
  (FL:cA K "led" "led" Cu fL oq) (bL:Binds K oq ["p","row","place"] []) (mL:Mg mg "led" fL) :
  br P w K mg base bp 3 f fd ["p","rows"] (tE K):=by
 have GL:br P w K mg base bp 2 fL oq ["p","row","place"] (PK K):=abn FL T FA bA mA FT bT mT FS bS mS;have GC:br P w K mg base bp 2 fC fH ["p","row","lead","place"] (Jf K):=abk FC T FA bA mA;refine F.ok rK (λvs H Q E h=>?_) (λbE A outer s H vs Q E hr h=>?_)
 ·obtain⟨p,a,b,RS,rs,n,rfl,_⟩:=h;rfl
 ·obtain⟨p,a,b,RS,rs,n,rfl,pp,hq,hA,hz,hn,hR,k⟩:=h;obtain⟨p2,je⟩:=fe p pp;refine⟨_,ba (bH (i:=2) rK.nd rfl (.inl rfl) (cE aO)) (ba (bH (i:=3) rK.nd rfl (.inl rfl) (gz (yM K rfl) rfl T.list rp (aJ (pv 1) aO))) (ba (bH (i:=4) rK.nd rfl (.inl rfl) (ym (Bj (pv 3) (λ_=>rfl)) (eG (gk K rfl) rfl T.len gm (aJ (bt (cU K rfl) (pv 3) aW (λ_ _=>rfl)) aO)) aW)) (ba (kc lD rfl (qX rfl T.range (aJ (pv 4) aO)) (cx (i:=5) rK.nd rfl (Or.inr rfl)) (ba (kh (i:=6) (N:=["row","place"]) (own:=1) (caps:=[5]) rfl rK.nd rfl rfl (iZ K rfl (pv 3)) (show dJ nD (bu wC) ["row","place"] 1 [5] _ from .mk' (by decide +kernel)) (λ_ _ _ _ _=>cx (i:=0) nd1 rfl (.inl rfl)) (λ_ _ _ _ _=>yE (cM qg (bt (cH K rfl) (pv 0) (pv 1) (λ_ _=>rfl)) aW (cJ _))) (λ_ _ _ _ _=>pv 0)) (bq (cX (Bj (pv 6) (λ_=>rfl)) (ba (bH (i:=7) rK.nd rfl (Or.inr rfl) (bZ GL hr rfl mL FL.kp bL .nil cb (aJ (pv 0) (aJ (bt (cU K rfl) (pv 6) aW (λ_ _=>rfl)) (aJ (pv 5) aO))))) (ba (bH (i:=2) rK.nd rfl (.inl rfl) (aX eQ (iV (N:=["row","lead","p","place"]) (own:=1) (caps:=[7,0,5]) rfl (iZ K rfl (pv 2)) (show dJ nD (bu wC) ["row","lead","p","place"] 1 [7,0,5] _ from .mk' (by decide +kernel)) (λ_ _ _ _ _=>cx (i:=0) PH rfl (.inl rfl)) (λ_ _ _ _ _=>fq) (λ_ _ _ _ _=>bZ GC hr rfl mC FC.kp bC .nil cb (aJ (pv 2) (aJ (pv 0) (aJ (pv 1) (aJ (pv 3) aO)))))) (cE (aJ (pv 7) aO)))) (bq (kh (i:=3) (N:=["row","lead","p","place"]) (own:=1) (caps:=[7,0,5]) rfl rK.nd rfl rfl (iZ K rfl (pv 3)) (show dJ nD (bu wC) ["row","lead","p","place"] 1 [7,0,5] _ from .mk' (by decide +kernel)) (λ_ _ _ _ _=>cx (i:=0) PH rfl (.inl rfl)) (λ_ _ _ _ _=>fq) (λ_ _ _ _ _=>bZ GC hr rfl mC FC.kp bC .nil cb (aJ (pv 2) (aJ (pv 0) (aJ (pv 1) (aJ (pv 3) aO)))))))))
     dy)))) (bq (bV (gz (l6 K rfl) rfl T.tuple lJ (aJ (pv 2) aO))))))),?_⟩
  refine⟨by decide,λld hd=>⟨_,rfl,a,RS,rfl,?_,λlr ot=>?_⟩⟩
  ·cases b with
   |true=>exact .inl ((aK.upd hd).sq (b:=true) hq)
   |false=>exact .inr ((aK.upd hd).sq (b:=false) hq)
  have ky:aK H (upd (upd H ld (.lst [])) lr (.lst RS)):=(aK.upd hd).trans (.upd ot);have g1:(upd (upd H ld (.lst [])) lr (.lst RS)) ld=some (.lst []):=by rw[cG (gN aV ot)];exact aV
  have g2:(upd (upd H ld (.lst [])) lr (.lst RS)) lr=some (.lst RS):=aV;generalize upd (upd H ld (.lst [])) lr (.lst RS)=H1 at ky g1 g2 ⊢;have qo:=hA.mono ky;have cF:RS.length=rs.length:=fg hA;refine⟨_,rfl,!RS.isEmpty,.inl ⟨RS,.of g2,rfl⟩,?_⟩;by_cases cS:rs=[]
  ·subst cS;have e0:RS=[]:=List.length_eq_zero_iff.mp cF;subst e0;refine dW ?_;refine⟨_,rfl,0,rfl,by decide,by decide,uB (n:=0) (λi σ H'=>H'=H1∧σ=[some (.int p),some (.ref a),some (.ref ld),some (.ref lr),some (.int 0),none,none,none]) ⟨rfl,rfl⟩ (λi σ H' hi=>absurd hi (by lia)) ?_⟩;rintro σ H' ⟨rfl,rfl⟩;exact⟨_,rfl,ld,_,rfl,.inl ⟨.of g1,λt ht=>k t _ [] (ky.trans (.upd ht)) (.of aV) .nil⟩⟩
  ·have e1:rA rs=n:=B6 hR cS;have Ji:0<rs.length:=List.length_pos_iff.mpr cS;have hb:(!RS.isEmpty)=true:=by
    cases RS with
    |nil=>rw[so]at cF;lia
    |cons _ _=>rfl
   rw[hb];refine dZ ?_;have PL:RS[0]?=some (RS[0]'(by lia)):=cf _;obtain⟨r0,a0,rL,ea0,ha0⟩:=jd qo PL;have wG:(r0.map V.int).length=n:=by rw[aZ];exact(hR r0 (cZ rL)).1
   refine⟨_,rfl,lr,RS,0,_,rfl,rfl,.of g2,bw (j:=0) (PL.trans (ai some ea0)),a0,_,rfl,.inr ha0,?_⟩;rw[wG];refine⟨_,rfl,(n:Int),rfl,by lia,by lia,uB (n:=n) (λi σ H'=>aK H H'∧∃dn uX DS XS s5 s6 s7,σ=[some (.int p),some (.ref a),some (.ref dn),some (.ref uX),some (.int (n:Int)),s5,s6,s7]∧H' dn=some (.lst DS)∧bj K H' DS ((i0 p n rs i).1.map cj)∧H' uX=some (.lst XS)∧bj K H' XS ((i0 p n rs i).2.map cj)) ⟨ky,ld,lr,[],RS,none,none,none,rfl,g1,.nil,g2,qo⟩ ?_ ?_⟩
   ·rintro i σ H2 hi ⟨sm,dn,uX,DS,XS,s5,s6,s7,rfl,gd,hD,gr,hX⟩;have IO:=HI pp hR i (Nat.le_of_lt hi);have IL:=Jb (p:=p) (n:=n) (L:=rs) i;have abo:i0 p n rs (i+1)=uP p n (i0 p n rs i) i:=rfl;rw[abo];generalize i0 p n rs i=st at hD hX IO IL ⊢;refine⟨_,rfl,uX,rfl,⟨_,.of gr⟩,n9 (cp:=[some (.int (0+(i:Int)))]) (λj H' zs=>bj K H' zs (((st.2.take j).filter λr=>r.getD i 0≠0).map cj)) (.of gr) (by rw[fg hX,IL.2];exact Nat.le_of_lt (GZ hz)) .nil (λj H' zs h=>by rw[fg h];exact hU (List.length_filter_le _ _) (by rw[cB];lia)) ?_ ?_⟩
    ·rintro j x H' zs gF iE h;obtain⟨r,ra,Jj,rfl,cV⟩:=jd hX gF;have CP:=IO.r r (cZ Jj);have jU:i<r.length:=by rw[CP.1];exact hi
     refine⟨_,rfl,_,rfl,ra,_,(i:Int),_,rfl,ai V.int (jy _),iE.bh cV,bw (jF jU),rfl,_,rfl,om (λJh=>?_) (λheq=>?_)⟩
     ·have Jk:r.getD i 0≠0:=λz=>Jh (ai V.int z);refine⟨_,rfl,⟨[_],rfl,rfl⟩,iE,?_⟩;rw[gK,Jj];show bj K H' _ (((st.2.take j++[r]).filter _).map cj);rw[AM,FG (by simpa using Jk),List.filter_nil,dC];exact h.append (.cons (kj (iE.bh cV)) .nil)
     ·have Jl:r.getD i 0=0:=V.int.inj heq;refine⟨⟨[_],rfl,rfl⟩,iE,?_⟩;rw[gK,Jj];show bj K H' _ (((st.2.take j++[r]).filter _).map cj);rw[AM,List.filter_cons_of_neg (by simpa using Jl),List.filter_nil,j8];exact h
    rintro H3 zs iF h3 lh tG;rw[fg hX,lT]at h3;have jG:aK H2 (upd H3 lh (.lst zs)):=iF.trans (.upd tG);have g4:(upd H3 lh (.lst zs)) lh=some (.lst zs):=aV;have h4:=h3.mono (aK.upd tG (o:=.lst zs));generalize upd H3 lh (.lst zs)=H4 at jG g4 h4 ⊢;refine⟨_,rfl,!zs.isEmpty,.inl ⟨zs,.of g4,rfl⟩,?_⟩;unfold uP;generalize hf:(st.2.filter λr=>r.getD i 0≠0)=hs at h4 ⊢;cases hs with
    |nil=>
     have:zs=[]:=List.length_eq_zero_iff.mp (fg h4)
     subst this;refine dW ?_;exact⟨sm.trans jG,dn,uX,DS,XS,_,_,_,rfl,jG _ _ gd,hD.mono jG,jG _ _ gr,hX.mono jG⟩
    |cons hd tl=>
     cases zs with
     |nil=>exact absurd (fg h4) (by simp)
     |cons z zs'=>
      obtain⟨r',ha,fY,rfl,hha⟩:=jd (i:=0) (x:=z) h4 rfl;have er:hd=r':=c8 fY;subst er;refine dZ ?_;have PM:hd∈st.2∧hd.getD i 0≠0:=by
       have:hd∈st.2.filter λr=>r.getD i 0≠0:=by rw[hf];exact ek
       simpa using pW.mp this
      have pw:=IO.r hd PM.1;have jU:i<hd.length:=by rw[pw.1];exact hi
      refine⟨_,rfl,_,rfl,lh,_,0,.ref ha,rfl,rfl,.of g4,bw (j:=0) rfl,_,rfl,p,ha,hd,0+(i:Int),i,rfl,jy _,pp,hha,jU,by rw[pw.1];exact hn,pw.2,PM.2,λt H6 i6 ht=>?_⟩;have CQ:aK H2 H6:=jG.trans i6;rw[pw.1]at ht;have zj:bf K H6 t ((ee p n hd i).map V.int):=ht;have Jm:=yS (place:=i) (show 0<p by lia) pw;dsimp only;generalize ee p n hd i=PN at zj Jm ⊢;refine⟨_,rfl,dn,rfl,⟨_,.of (CQ _ _ gd)⟩,PJ p2 je (.of (CQ _ _ gd)) (hD.mono CQ) IO.d (by lia) hn hi Jm.1 zj (λx H1 R h=>⟨_,rfl,_,rfl,_,rfl,_,rfl,h⟩) λH8 tH PQ h8 q8 hq8=>?_⟩;refine⟨_,rfl,(by show 1≤sizeLine;decide),λl9 h9=>⟨q8,l9,_,_,rfl,rfl,by rw[cG (gN aV h9)];exact aV,aV,?_,λq9 hq9=>?_⟩⟩
      ·show tH.length+1≤sizeLine;rw[fg h8,aZ]
       have:(1000:Nat)<sizeLine:=by decide
       lia
      have CS:aK H8 (upd (upd (upd H8 q8 (.lst tH)) l9 (.lst [.ref t])) q9 (.lst (tH++[.ref t]))):=((aK.upd hq8).trans (.upd h9)).trans (.upd hq9);have g9:(upd (upd (upd H8 q8 (.lst tH)) l9 (.lst [.ref t])) q9 (.lst (tH++[.ref t]))) q9=some (.lst (tH++[.ref t])):=aV;generalize upd (upd (upd H8 q8 (.lst tH)) l9 (.lst [.ref t])) q9 (.lst (tH++[.ref t]))=H9 at CS g9 ⊢;have ou:aK H2 H9:=(CQ.trans PQ).trans CS;have PR:=(PQ.trans CS).bh zj;refine⟨_,rfl,uX,rfl,⟨_,.of (ou _ _ gr)⟩,PJ p2 je (.of (ou _ _ gr)) (hX.mono ou) IO.r (by lia) hn hi Jm.1 PR (λx H1 R h=>⟨_,rfl,_,rfl,_,rfl,_,rfl,h⟩) λHb PU smb hb qb PV=>?_⟩;have ow:=smb.trans (aK.upd PV (o:=.lst PU));refine⟨(sm.trans ou).trans ow,q9,qb,_,PU,_,_,_,rfl,ow _ _ g9,?_,aV,hb.mono (.upd PV)⟩;show bj K _ _ ((st.1.map (eI p PN i)++[PN]).map cj);rw[dC];exact(h8.mono (CS.trans ow)).append (.cons (kj (ow.bh PR)) .nil)
   ·rintro σ H' ⟨sm,dn,uX,DS,XS,s5,s6,s7,rfl,gd,hD,gr,hX⟩;refine⟨_,rfl,dn,_,rfl,.inl ⟨.of gd,λt ht=>k t _ DS (sm.trans (.upd ht)) (.of aV) ?_⟩⟩;unfold cD;rw[e1];exact hD.mono (.upd ht)
theorem PX:(["place","number"]:List Str).Nodup:=by decide +kernel
def PY(K:Frag):Sp:=λvs H Q _=>∃(a:Addr)(r:List Int)(l:Nat)(tl:List Nat),vs=[.ref a]∧bf K H a (r.map V.int)∧r.length≤2000∧qm r=l::tl∧∀H',aK H H'→Q (.int (l:Int)) H'
theorem abp:cT ["row"] ["row"] (bu Cw):=de rfl rfl rfl (by decide +kernel) rfl
theorem PZ(F:cA K "first_place" "first_place" Cw f fd)(T:Txt mg):br P w K mg base bp 1 f fd ["row"] (PY K):=by
 refine F.ok abp (λvs H Q E h=>?_) (λbE A outer s H vs Q E hr h=>?_)
 ·obtain⟨a,r,l,tl,rfl,_⟩:=h;rfl
 ·obtain⟨a,r,l,tl,rfl,hq,hz,kf,k⟩:=h;refine⟨_,bq (bV (bt (cU K rfl) (iV (N:=["place","number"]) (own:=2) (caps:=[]) rfl (HB K rfl false rfl T.enumerate (aJ (pv 0) aO)) (show dJ ["row"] (bu Cw) ["place","number"] 2 [] _ from .mk' (by decide +kernel)) (λ_ _ _ _ _=>yN (n:=2) K rfl rfl (eF (cx (i:=0) PX rfl (.inl rfl)) (eF (cx (i:=1) PX rfl (.inl rfl)) lX))) (λ_ _ _ _ _=>yE (cM qg (pv 1) aW (cJ _))) (λ_ _ _ _ _=>pv 0)) aW (λ_ _=>rfl))),?_⟩
  have ex:(r.map V.int).length=r.length:=aZ _;have z2:(2000:Nat)≤sizeLine:=by decide
  refine⟨_,rfl,a,rfl,⟨_,hq⟩,Hv (b:=false) (cp:=[]) (λi H' zs=>zs=((List.range i).filter λu=>r.getD u 0≠0).map λ(u:Nat)=>V.int u) hq (by rw[ex];lia) rfl (λj H' zs e=>by rw[e,aZ];exact hU (List.length_filter_le _ _) (by rw[qL];exact cu _)) (λi H1 H2 zs _ e=>e) ?_ ?_⟩
  ·rintro j x H1 zs hx sm rfl;have hj:j<r.length:=by rw[← ex];exact(dB.mp hx).1
   have gF:x=.int (r.getD j 0):=by
    rw[jF hj]at hx;exact(c8 hx).symm
   subst gF;refine⟨_,rfl,rfl,_,rfl,om (λcS=>?_) (λheq=>?_)⟩
   ·have Jk:r.getD j 0≠0:=λz=>cS (ai V.int z);refine⟨_,rfl,⟨[_,_],rfl,rfl⟩,sm,?_⟩;rw[List.range_succ,AM,FG (by simpa using Jk),List.filter_nil,dC];rfl
   ·have Jl:r.getD j 0=0:=V.int.inj heq;refine⟨⟨[_,_],rfl,rfl⟩,sm,?_⟩;rw[List.range_succ,AM,List.filter_cons_of_neg (by simpa using Jl),List.filter_nil,j8]
  ·rintro H1 zs sm ez lp uY;rw[ex]at ez;have ez:zs=(qm r).map λ(u:Nat)=>V.int u:=ez;rw[kf]at ez;subst ez;exact⟨lp,_,0,.int (l:Int),rfl,rfl,.of aV,bw (j:=0) rfl,k _ (sm.trans (.upd uY))⟩
noncomputable def CT:List (Str×V):=[("times",.int 1),("back",.int 1),("beside",.int 2),("then",.int 2)]
noncomputable def nj(x:Str):Nat:=if x="times"∨x="back" then 1 else if x="beside"∨x="then" then 2 else 0
theorem abq(x:Str):(PyProof.Rows.KTD.datumAt x CT).getD (.int 0)=.int (nj x):=by
 unfold CT nj;simp only[PyProof.Rows.KTD.datumAt,aF];by_cases h1:x="times"
 ·simp[h1]
 ·by_cases h2:x="back"
  ·simp[h2]
  ·by_cases h3:x="beside"
   ·subst h3;rfl
   ·by_cases h4:x="then"
    ·subst h4;rfl
    ·simp[h1,h2,h3,h4]
theorem ME(x:Str):nj x≤2:=by
 unfold nj;split
 ·lia
 ·split<;>lia
structure Parts(K:Frag)(mg:Str→Option Value)(aP:Addr):Prop where
 nm:mg "PARTS"=some (.ref aP)
 tab:∀h,K.In h→ku h aP CT
theorem npt:(["part","values"]:List Str).Nodup:=by decide +kernel
structure wH(k:Nat)(P:Program)(w:World)(K:Frag)(mg:Str→Option Value)(base:Heap)(s:Shared)(H:Hp)(Q:VK)(aw f:Addr)(ws:List V)(R:List V→Hp→VK→Prop)(G:Nat→List V→Hp→Prop):Prop where
 CU:bf K H aw ws
 len:ws.length≤900000
 fn:ph P w K mg base k s H f R
 g0:G ws.length [] H
 mono:∀i vs H1 H2,G i vs H1→gQ H1 H2→G i vs H2
 pd:∀i vs H1,G i vs H1→vs.length≤900000
 kind:∀i,i<ws.length→(∃x,ws[i]?=some (.str x))∨∃n,ws[i]?=some (.int n)
 num:∀i n vs H1,ws[i]?=some (.int n)→G (i+1) vs H1→G i (vs++[.int n]) H1
 word:∀i x vs H1,ws[i]?=some (.str x)→G (i+1) vs H1→∃dM ps,vs=dM++ps.reverse∧ps.length=nj x∧
  ∀pa H2 Q',gQ H1 H2→H2 pa=some (.lst ps)→(∀v H3,aK H2 H3→G i (dM++[v]) H3→Q' v H3)→R [.int i,.str x,.ref pa] H2 Q'
 first:∃x,ws[0]?=some (.str x)
 fin:∀td aR vs v H',aK H H'→H' td=some (.dK aR)→eJ aR (Sum.inl 0)=some v→G 0 (vs++[v]) H'→Q (.ref td) H'
def Jn(k:Nat)(P:Program)(w:World)(K:Frag)(mg:Str→Option Value)(base:Heap)(s:Shared):Sp:=λvs H Q _=>∃(aw f:Addr)(ws:List V)(R:List V→Hp→VK→Prop)(G:Nat→List V→Hp→Prop),vs=[.ref aw,.ref f]∧wH k P w K mg base s H Q aw f ws R G
noncomputable abbrev nAf:List Str:=["words","made","told","values","place","word","parts"]
theorem wI:cT ["words","made","told","values","place","word","parts"] ["words","made"] (bu Cz):=de rfl rfl rfl (by decide +kernel) rfl
def WAf(K:Frag)(aw f td vl:Addr)(ws:List V)(G:Nat→List V→Hp→Prop)(H:Hp)(j:Nat)(σ:St)(H':Hp):Prop:=aK H H'∧∃(s4 s5 s6:Option V)(aR:List (Key×V))(vs:List V),
 σ=[some (.ref aw),some (.ref f),some (.ref td),some (.ref vl),s4,s5,s6]∧H' td=some (.dK aR)∧H' vl=some (.lst vs)∧aR.length≤j∧G (ws.length-j) vs H'∧
 (∀x,ws[ws.length-j]?=some (.str x)→∃dM v,vs=dM++[v]∧eJ aR (Sum.inl ((ws.length-j:Nat):Int))=some v)
theorem wJ{k:Nat}{aP:Addr}(F:cA K "all_folded" "all_folded" Cz f fd)(T:Txt mg)(PT:Parts K mg aP):tq P w K mg base (k+1) f fd ["words","made"] (Jn k P w K mg base):=by
 refine F.ma wI (λs vs H Q E h=>?_) (λbE A outer s H vs Q E hr h=>?_)
 ·obtain⟨aw,f,ws,R,G,rfl,_⟩:=h;rfl
 ·obtain⟨aw,fm,ws,R,G,rfl,D⟩:=h;have hu:=hr.units;have nk:=GY hr;refine⟨_,ba (bH (i:=2) wI.nd rfl (.inl rfl) aaE) (ba (bH (i:=3) wI.nd rfl (Or.inr rfl) (cE aO)) (ba (kc lD rfl (aa5 rfl T.range (aJ (aX iS (eG (gk K rfl) rfl T.len gm (aJ (pv 0) aO)) aW) (aJ (vO vP aW) (aJ (vO vP aW) aO)))) (cx (i:=4) wI.nd rfl (.inl rfl)) (ba (bH (i:=5) wI.nd rfl (.inl rfl) (bt (cH K rfl) (pv 0) (pv 4) (λ_ _=>rfl))) (bq (cX (ux (eG (Hr (T := "int")) rfl T.isinstance BZ (aJ (pv 5) (aJ (BR rfl T.int BX) aO)))) (bq (mH (qk p7 uh ui rf (pv 3) (aJ (pv 5) aO)))) (ba (kh (N:=["part","values"]) (own:=1) (caps:=[3]) (i:=6) rfl wI.nd rfl rfl (qX rfl T.range (aJ (aa1 PT.tab (su (v:=.ref _) rfl PT.nm rfl) (pv 5) aW ⟨rfl,rfl,rfl,rfl⟩) aO)) (show dJ nAf (bu Cz) ["part","values"] 1 [3] _ from .mk' (by decide +kernel)) (λ_ _ _ _ _=>cx (i:=0) npt rfl (.inl rfl)) (λ_ _ _ _ _=>fq) (λ_ _ _ _ _=>wz K rfl (pv 1))) (ba (O4 nk (pv 2) (pv 4) (by exact aa8 (i:=1) D.fn hr rfl rfl (.inl rfl) (aJ (pv 4) (aJ (pv 5) (aJ (pv 6) aO)))) rfl) (bq (mH (qk p7 uh ui rf (pv 3) (aJ (Cg nk (pv 2) (pv 4) (λ_ _=>rfl)) aO)))))))))) (bq (bV (pv 2))))),?_⟩
  have hz:(1000000:Nat)≤sizeLine:=by decide
  have hl:=D.len;intro td CV;refine⟨(by show 0≤sizeLine;lia),λvl zl=>?_⟩;have zm:vl≠td:=λz=>by rw[z,aV]at zl;cases zl
  have Jo:H vl=none:=by rw[cG zm]at zl;exact zl
  have s2:aK H (upd (upd H td (.dK [])) vl (.lst [])):=(aK.upd CV).trans (.upd zl);refine⟨_,rfl,aw,ws,rfl,.inr (s2.bh D.CU),_,_,rfl,rfl,_,rfl,_,rfl,_,rfl,⟨by lia,by lia⟩,?_⟩;have en:((ws.length:Int)-1+1).toNat=ws.length:=by lia
  rw[en];refine aa6 (WAf K aw fm td vl ws G H) ⟨s2,none,none,none,[],[],rfl,?_,aV,j7 _,D.mono _ _ _ _ D.g0 s2.tup,λx hx=>?_⟩ ?_ ?_
  ·rw[cG (Ne.symm zm)];exact aV
  ·rw[Nat.sub_zero,lC (cu _)]at hx;cases hx
  ·rintro j σ H' hj ⟨sm,s4,s5,s6,aR,vs,rfl,CW,wK,hk,hG,_⟩;obtain⟨i,hi⟩:∃i,ws.length=i+1+j:=⟨ws.length-1-j,by lia⟩;have e1:(ws.length:Int)-1-(j:Nat)=((i:Nat):Int):=by lia
   have e2:ws.length-j=i+1:=by lia
   have e3:ws.length-(j+1)=i:=by lia
   rw[e1];rw[e2]at hG;have Gu:=D.pd _ _ _ hG;rcases D.kind i (by lia)with⟨x,hx⟩|⟨n,hx⟩
   ·obtain⟨dM,ps,rfl,wL,abr⟩:=D.word i x vs H' hx hG;refine⟨_,rfl,_,rfl,aw,_,((i:Nat):Int),_,rfl,rfl,sm.bh D.CU,bw (j:=i) hx,?_⟩;refine⟨_,rfl,.str x,.type "str",false,rfl,.str x,Hy K,false,rfl,dW ?_⟩;have hpc:=ME x;refine⟨rfl,_,rfl,x,rfl,((nj x:Nat):Int),by rw[abq],by lia,by lia,?_⟩;refine aa7 (cp:=[some (.ref vl)]) (n:=nj x) (lo:=0) (λk Hx zs=>zs=ps.take k∧Hx vl=some (.lst (dM++(ps.drop k).reverse))∧∀b,b≠vl→Hx b=H' b) (by lia) ⟨rfl,wK,λ_ _=>rfl⟩ (λk Hx zs h=>by rw[h.1];exact uj _ _) ?_ ?_
    ·rintro k Hx zs iT ⟨rfl,h1,h2⟩;have cR:k<ps.length:=by lia
     have ex:dM++(ps.drop k).reverse=(dM++(ps.drop (k+1)).reverse)++[ps[k]]:=by rw[List.drop_eq_getElem_cons cR,List.reverse_cons,jr]
     rw[ex]at h1;refine⟨_,rfl,.inl ⟨rfl,_,.of h1⟩,vl,_,ps[k],rfl,rfl,h1,by simp,wy.mk ⟨?_,?_,λb hb=>?_⟩⟩
     ·rw[gK,cf cR];rfl
     ·rw[aV,List.dropLast_concat]
     ·rw[cG hb];exact h2 b hb
    ·rintro Hx zs ⟨rfl,h1,h2⟩ pa nq;rw[jM (by lia)];rw[List.drop_eq_nil_of_le (by lia),List.reverse_nil,j8]at h1;have CY:td≠vl:=Ne.symm zm;have keep:∀b o,b≠vl→H' b=some o→(upd Hx pa (.lst ps)) b=some o:=λb o nb e=>by
      have h3:Hx b=some o:=by rw[h2 b nb];exact e
      rw[cG (gN h3 nq)];exact h3
     have CZ:aK H (upd Hx pa (.lst ps)):=λb o e=>keep b o (gN e Jo) (sm b o e);have tp:gQ H' (upd Hx pa (.lst ps)):=λb o e k=>keep b o (λz=>by
      subst z;rw[wK]at e;cases e;rcases k with⟨_,z⟩|⟨_,_,z⟩<;>cases z) e
     have g1:(upd Hx pa (.lst ps)) pa=some (.lst ps):=aV;have g2:(upd Hx pa (.lst ps)) vl=some (.lst dM):=by rw[cG (gN h1 nq)];exact h1
     have g3:(upd Hx pa (.lst ps)) td=some (.dK aR):=keep _ _ CY CW;generalize upd Hx pa (.lst ps)=H2 at CZ tp g1 g2 g3;refine⟨rfl,CZ,_,rfl,_,rfl,_,rfl,CZ,abr pa H2 _ tp g1 λv H3 s3 hG3=>?_⟩;have pk:dM.length≤900000:=by rw[bY]at Gu;lia
     refine⟨_,rfl,_,rfl,td,_,rfl,wt.k (k:=Sum.inl ((i:Nat):Int)) (s3 _ _ g3) (by lia),?_⟩;have Jp:(upd H3 td (.dK (ij aR (Sum.inl ((i:Nat):Int)) v))) vl=some (.lst dM):=by rw[cG zm];exact s3 _ _ g2
     have P0:(upd H3 td (.dK (ij aR (Sum.inl ((i:Nat):Int)) v))) td=some (.dK (ij aR (Sum.inl ((i:Nat):Int)) v)):=aV;have P4:eJ (ij aR (Sum.inl ((i:Nat):Int)) v) (Sum.inl ((i:Nat):Int))=some v:=by rw[aaw,ae rfl]
     refine⟨_,rfl,.inl ⟨rfl,_,.of Jp⟩,_,rfl,_,rfl,td,v,rfl,P4▸oi.k (k:=Sum.inl ((i:Nat):Int)) P0,vl,dM,_,rfl,rfl,Jp,by lia,?_⟩;refine⟨((CZ.trans s3).put CV).put Jo,_,_,_,_,_,rfl,by rw[cG CY];exact P0,aV,?_,?_,λx' _=>⟨dM,v,rfl,by rw[e3];exact P4⟩⟩
     ·have:=Cc aR (Sum.inl ((i:Nat):Int)) v
      lia
     ·rw[e3];exact D.mono _ _ _ _ hG3 ((gQ.dct (s3 _ _ g3)).trans (gQ.lst Jp))
   ·refine⟨_,rfl,_,rfl,aw,_,((i:Nat):Int),_,rfl,rfl,sm.bh D.CU,bw (j:=i) hx,?_⟩;refine⟨_,rfl,.int n,.type "int",true,rfl,.int n,Hw K,true,rfl,dZ ?_⟩;refine⟨_,rfl,.inl ⟨rfl,_,.of wK⟩,_,rfl,vl,vs,_,rfl,rfl,wK,by lia,?_⟩;have CY:td≠vl:=Ne.symm zm;refine⟨sm.put Jo,_,_,_,aR,_,rfl,by rw[cG CY];exact CW,aV,Nat.le_succ_of_le hk,?_,λx' gF=>?_⟩
    ·rw[e3];exact D.mono _ _ _ _ (D.num i n vs H' hx hG) (gQ.lst wK)
    ·rw[e3,hx]at gF;cases gF
  ·rintro σ H' ⟨sm,s4,s5,s6,aR,vs,rfl,CW,wK,hk,hG,hf⟩;obtain⟨x,hx⟩:=D.first;rw[Nat.sub_self]at hG hf;obtain⟨dM,v,rfl,hv⟩:=hf x hx;exact⟨_,rfl,D.fin td aR dM v H' sm CW hv hG⟩
end S21
namespace L2
open PySem PySem.Spec PyProof.Rows
theorem P5:∀{l:List (Str×Value)}{y:Str}{u:Value},(l.map (·.1)).Nodup→(y,u)∈l→l.lookup y=some u
 | [],_,_,_,h=>(by cases h)
 |(k,v)::r,y,u,nd,h=>by
  have P6:=List.nodup_cons.mp nd;rcases(eW.mp h)with(e|h)
  ·cases e;simp[List.lookup]
  ·have ne:y≠k:=λz=>P6.1 (cP.mpr ⟨(y,u),h,z⟩);have e0:(y==k)=false:=beq_eq_false_iff_ne.mpr ne;rw[ud,e0];exact P5 P6.2 h
theorem abt{xs:List Str}{us:List Value}{i:Nat}{y:Str}{u:Value}(nd:xs.Nodup)(hl:us.length=xs.length)(h1:xs[i]?=some y)(h2:us[i]?=some u):(xs.zip us).reverse.lookup y=some u:=by
 have em:(xs.zip us).map (·.1)=xs:=by rw[List.map_fst_zip (by lia)]
 refine P5 ?_ (List.mem_reverse.mpr ?_)
 ·rw[List.map_reverse,em];exact List.pairwise_reverse.mpr (nd.imp λh=>Ne.symm h)
 ·exact cZ (i:=i) (by rw[List.getElem?_zip_eq_some];exact⟨h1,h2⟩)
structure P7(xs names:List Str)(scope:Scope)(params:Arguments)(cl:List (Str×Addr)):Prop where
 kind:scope.kind=.function
 co:scope.isCoroutine=false
 gen:scope.isGenerator=false
 nd:xs.Nodup
 cell:∀y∈scope.names,y.2≠.cell
 loc:∀x∈xs,scope.names.lookup x=some .local
 fr:∀y∈names,scope.names.lookup y=some .free
 has:∀y,scope.names.lookup y=some .free→∃c,cl.lookup y=some c
 inj:∀y z c,cl.lookup y=some c→cl.lookup z=some c→y=z
 only:∀y c,cl.lookup y=some c→y∈names
section
variable{P:Program}{w:World}{K:Frag}{mg:Str→Option Value}{base:Heap}
theorem abu{xs names:List Str}{caps:List V}{qual:Str}{params:Arguments}{body:Expr}{scope:Scope}{cl:List (Str×Addr)}{k:Nat}{s:Shared}{H:Hp}{f:Addr}{R:List V→Hp→VK→Prop}(S:P7 xs names scope params cl)
  (F:O9 H f qual params body scope cl) (Ig:∀(pm bE ct:Value)(us:List Value),us.length=xs.length→bindArgs (PySem.W.kla_fn "<lambda>" qual params body scope cl pm bE ct) ⟨us,[]⟩=pure (xs.zip us))
  (abv:∀(j:Nat)(y:Str),names[j]?=some y→∃c v u,cl.lookup y=some c∧caps[j]?=some v∧RelV v u∧s.heap.IsCell c (some u)∧H c=none) (cF:caps.length=names.length) (len:∀vs H' Q,R vs H' Q→vs.length=xs.length)
  (o6:∀(c:Addr)(A:Around)(outer:List Env)(s':Shared)(H':Hp)(vs:List V)(Q:VK),dt k (A.deeper (PySem.W.envX qual scope s'.heap.objs.size f (.ref c) cl))→aK H H'→R vs H' Q→
   ∃t,PE (Ie P w K mg base (xs++names) qual scope f c cl A outer s' H').lW body t∧t (vs.map some++caps.map some) H' Q):ph P w K mg base (k+1) s H f R:=by
 obtain⟨c,hf,hc⟩:=F;refine⟨.inl ⟨_,hf,λh ⟨pm,gU,e⟩=>⟨_,_,_,_,e⟩⟩,λA outer s' H' vs us Q hr e0 sm hk rv hQ=>?_⟩;obtain⟨⟨pm,gU,ho⟩,_⟩:=e0.bK f _ (sm _ _ hf);have hcr:s'.heap.CodeRec (.ref c) qual:=(e0.bK c _ (sm _ _ hc)).1;have uE:s'.heap.NoLimit:=e0.mod.nolimit.keeps λb o e=>(e0.bs b o e).1;have hl:=len _ _ _ hQ;have P8:us.length=xs.length:=by rw[← rv.length];exact hl
 refine PySem.W.kla_callFunE hr.depth ho rfl S.co S.gen rfl hcr ?_;rw[Ig _ _ _ us P8];refine aq (wpAny_newFunctionEnv S.cell (λz hz=>S.loc _ (qI hz).1) (λh₁ y3 P9=>⟨uE.fresh _ P9,?_⟩) S.kind);show codeAny _ _ (.expr body (PySem.W.envX qual scope s'.heap.objs.size f (.ref c) cl)) _ _;have up:∀b o,s'.heap.get? b=some o→h₁.get? b=some o:=λb o e=>P9.extBut b o (iw (dX e)) (dS _ e);obtain⟨t,ht,hq⟩:=o6 c A outer s' H' vs Q (hr.deeper _) sm hQ;have cells:∀(j:Nat)(y:Str),names[j]?=some y→∃c v u,cl.lookup y=some c∧caps[j]?=some v∧RelV v u∧h₁.IsCell c (some u)∧H' c=none:=λj y hj=>by
  obtain⟨c0,v,u,h1,h2,h3,⟨o,ho,hd⟩,h5⟩:=abv j y hj;obtain⟨h6,sl,h7⟩:=hk c0 o ho h5;exact⟨c0,v,u,h1,h2,h3,⟨_,up _ _ h7,hd⟩,h6⟩
 have Qa:∀y c,cl.lookup y=some c→∃v,h₁.IsCell c (some v)∧H' c=none:=λy c0 h=>by
  obtain⟨j,hj⟩:=List.getElem?_of_mem (S.only y c0 h);obtain⟨c1,v,u,h1,_,_,h4,h5⟩:=cells j y hj;rw[h]at h1;cases h1;exact⟨u,h4,h5⟩
 have I:Inv (Ie P w K mg base (xs++names) qual scope f c cl A outer s' H') [] (vs.map some++caps.map some) H' { s' with heap:=h₁,toks:=s'.toks+(xs.zip us).length }:=by
  have uD:∀b:Addr,b ∉ (Ie P w K mg base (xs++names) qual scope f c cl A outer s' H').ex:=λb z=>absurd (show b∈([]:List Addr) from z) (by simp)
  refine⟨⟨e0.mod,S.kind,rfl,rfl,cu _,λy z c h1 h2=>S.inj y z c h1 h2,λy hy=>?_,λy c h=>(nomatch h),λ_=>hr.hd,Around.frames_deeper e0.frames,.inr ⟨rfl,rfl⟩,λb z=>absurd z (uD b),e0.bs,e0.qS,λb _ _=>uD b,λb z=>absurd z (uD b),e0.nT,e0.ur⟩,
   rfl,e0.bare,Un.kept up,⟨_,y3,λi y v h1 h2 h3=>?_⟩,λy c h=>?_,e0.bK.fresh (cu _),λy c h=>?_,λp hp=>absurd (show p∈([]:List (Addr×Obj)) from hp) (by simp),e0.bK.kept up,by show(vs.map some++caps.map some).length=(xs++names).length;simp[cF,hl]⟩
  ·rcases hy with hy|hy
   ·exact absurd rfl (S.cell _ (pY hy))
   ·exact S.has y hy
  ·have h1:(xs++names)[i]?=some y:=h1;by_cases hi:i<xs.length
   ·rw[ia hi]at h1;rw[ia (by simp only[aZ];lia),dU]at h2;cases ev:vs[i]? with
    |none=>rw[ev]at h2;cases h2
    |some v'=>
     rw[ev]at h2;cases h2;obtain⟨u,hu,ru⟩:=rv.get ev;exact⟨u,ru,.inl ⟨S.loc y (cZ h1),abt S.nd P8 h1 hu⟩⟩
   ·rw[iI (by lia)]at h1;rw[iI (by simp only[aZ];lia),aZ,hl,dU]at h2;obtain⟨c1,v',u,g1,g2,g3,g4,_⟩:=cells _ y h1;rw[g2]at h2;cases h2;exact⟨u,g3,.inr ⟨.inr (S.fr y (cZ h1)),c1,g1,g4⟩⟩
  ·obtain⟨v,h4,_⟩:=Qa y c h;exact⟨_,h4⟩
  ·obtain⟨v,_,h5⟩:=Qa y c h;exact h5
 refine PySem.W.kla_codeExpr (ag (ht.lW [] _ _ H' Q I hq) (λu qh hs=>?_) λe qh z=>ag z (λ_ _ z=>False.elim z) λ_ _ z=>False.elim z);obtain⟨v,eT,J,rv,q⟩:=hs;exact⟨v,eT,J.os,J.bare,J.base,J.bK,rv,q⟩
end
end L2
namespace S21
open PySem L2 Bw
variable{A B:Prop}{aB aS f:Addr}{fd:FuncData}
noncomputable def zo:List Value→List Int→Bool
 | [],[]=>true
 | .int i _::vs,n::ns=>i==n&&zo vs ns
 |_,_=>false
theorem Jq:∀(vs:List Value)(ns:List Int),zo vs ns=true→Vals (ns.map V.int) vs
 | [],[],_=>.nil
 | .int i t::vs,n::ns,h=>by
  have h':(i==n&&zo vs ns)=true:=h;rw[eX]at h';have e:i=n:=beq_iff_eq.mp h'.1;exact .cons ⟨t,by rw[e]⟩ (Jq vs ns h'.2)
 | [],_::_,h=>nomatch h
 | .none::_,[],h=>nomatch h
 |v::vs,[],h=>by cases v<;>exact nomatch h
 |v::vs,n::ns,h=>by
  cases v with
  |int i t=>
   have h':(i==n&&zo vs ns)=true:=h;rw[eX]at h';have e:i=n:=beq_iff_eq.mp h'.1;exact .cons ⟨t,by rw[e]⟩ (Jq vs ns h'.2)
  |_=>exact nomatch h
noncomputable def wM(K:Frag)(t:Addr)(ns:List Int):Bool:=match K.lookup t with
 |some ⟨.type "tuple",_,.seq its _,_⟩=>decide (its.size≤1000)&&zo its.toList ns
 |_=>false
theorem Jr{K:Frag}{t:Addr}{ns:List Int}(h:wM K t ns=true)(H:Hp):bf K H t (ns.map V.int):=by
 unfold wM at h;split at h
 case h_2=>exact nomatch h
 case h_1 d its n sl ho=>
  rw[eX]at h;exact .inr ⟨_,its,n,ho,rfl,rfl,hU (aG h.1) (by decide),Jq _ _ h.2⟩
noncomputable def C0(K:Frag):List Value→LL→Bool
 | [],[]=>true
 | .ref t::vs,r::rs=>wM K t r&&C0 K vs rs
 |_,_=>false
theorem Qb{K:Frag}(H:Hp):∀(vs:List Value)(rs:LL),C0 K vs rs=true→∃RS,Vals RS vs∧bj K H RS (rs.map cj)
 | [],[],_=>⟨[],.nil,.nil⟩
 | [],_::_,h=>nomatch h
 |v::vs,[],h=>by cases v<;>exact nomatch h
 |v::vs,r::rs,h=>by
  cases v with
  |ref t=>
   have h':(wM K t r&&C0 K vs rs)=true:=h;rw[eX]at h';obtain⟨RS,h1,h2⟩:=Qb H vs rs h'.2;exact⟨.ref t::RS,.cons rfl h1,.cons (kj (Jr h'.1 H)) h2⟩
  |_=>exact nomatch h
noncomputable def Js(K:Frag)(t:Addr)(rs:LL):Bool:=match K.lookup t with
 |some ⟨.type "tuple",_,.seq its _,_⟩=>decide (its.size≤1000)&&C0 K its.toList rs
 |_=>false
theorem abw{K:Frag}{t:Addr}{rs:LL}(h:Js K t rs=true)(H:Hp):∃RS,bf K H t RS∧bj K H RS (rs.map cj):=by
 unfold Js at h;split at h
 case h_2=>exact nomatch h
 case h_1 d its n sl ho=>
  rw[eX]at h;obtain⟨RS,h1,h2⟩:=Qb H _ _ h.2;exact⟨RS,.inr ⟨_,its,n,ho,rfl,rfl,hU (aG h.1) (by decide),h1⟩,h2⟩
noncomputable def iN:List (Str×Nat×Nat×LL):=[("id",1,1,[[1,1]]),("swap",2,2,[[1,0,0,1],[0,1,1,0]]),("copy",1,2,[[1,1,1]]),("end",1,0,[[1]]),("add",2,1,[[1,0,1],[0,1,1]]),("none",0,1,[]),("cup",0,2,[[1,1]]),("empty",0,0,[])]
noncomputable def zp(K:Frag)(aS aB:Addr):Bool:=Cq K aS&&Cq K aB&&iN.all λe=>
 (match PyProof.Rows.KTD.datumAt e.1 (iq K aS)with|some (.ref t)=>wM K t [(e.2.1:Int),(e.2.2.1:Int)] | _=>false) &&
 (match PyProof.Rows.KTD.datumAt e.1 (iq K aB)with|some (.ref t)=>Js K t e.2.2.2|_=>false)
structure px(K:Frag)(mg:Str→Option Value)(aS aB:Addr):Prop where
 C1:mg "SIDES"=some (.ref aS)
 nmB:mg "BOX_ROWS"=some (.ref aB)
 ok:zp K aS aB=true
theorem px.tabS{K:Frag}{mg:Str→Option Value}(B:px K mg aS aB):∀h,K.In h→ku h aS (iq K aS):=λh X=>by
 have z:=B.ok;unfold zp at z;rw[eX,eX]at z;exact Ij X z.1.1
theorem px.abx{K:Frag}{mg:Str→Option Value}(B:px K mg aS aB):∀h,K.In h→ku h aB (iq K aB):=λh X=>by
 have z:=B.ok;unfold zp at z;rw[eX,eX]at z;exact Ij X z.1.2
theorem px.at_{K:Frag}{mg:Str→Option Value}(B:px K mg aS aB){x:Str}{l r:Nat}{aN:LL}(h:(x,l,r,aN)∈iN) :
  (∃t,PyProof.Rows.KTD.datumAt x (iq K aS)=some (.ref t)∧∀H,bf K H t [.int (l:Int),.int (r:Int)])∧∃t,PyProof.Rows.KTD.datumAt x (iq K aB)=some (.ref t)∧∀H,∃RS,bf K H t RS∧bj K H RS (aN.map cj):=by
 have z:=B.ok;unfold zp at z;rw[eX]at z;have z2:=jN.mp z.2 _ h;rw[eX]at z2;obtain⟨z3,z4⟩:=z2;constructor
 ·split at z3
  ·rename_i t e
   exact⟨t,e,λH=>Jr z3 H⟩
  ·exact nomatch z3
 ·split at z4
  ·rename_i t e
   exact⟨t,e,λH=>abw z4 H⟩
  ·exact nomatch z4
def Jt(K:Frag):Sp:=λvs H Q _=>∃(i:Int)(x:Str)(pa:Addr)(l r:Nat)(aN:LL),vs=[.int i,.str x,.ref pa]∧(x,l,r,aN)∈iN∧iY K H [.int (l:Int),.int (r:Int),.ck] Q
theorem C2:cT ["place","word","parts","unmet"] ["place","word","parts"] (bu wD):=de rfl rfl rfl (by decide +kernel) rfl
theorem Qc(F:cA K "measure" "measure" wD f fd)(B:px K mg aS aB):br P w K mg base bp 1 f fd ["place","word","parts"] (Jt K):=by
 refine F.ok C2 (λvs H Q E h=>?_) (λbE A outer s H vs Q E hr h=>?_)
 ·obtain⟨i,x,pa,l,r,aN,rfl,_⟩:=h;rfl
 ·obtain⟨i,x,pa,l,r,aN,rfl,hx,q⟩:=h;obtain⟨⟨t,e,ht⟩,_⟩:=B.at_ hx;refine⟨_,ba (cX (AX (Po B.tabS (pv 1) (su (v:=.ref _) rfl B.C1 rfl)) rfl) (bq (bV (aX (dh K rfl) (Il B.tabS (su (v:=.ref _) rfl B.C1 rfl) (pv 1) (λ_ _=>rfl)) (c7 (aJ oY aO))))) dy) MK,?_⟩;refine⟨_,rfl,x,rfl,rfl,_,rfl,?_⟩;rw[e];refine dZ ⟨_,rfl,x,_,rfl,rfl,e,(by show 1≤sizeLine;decide),λt1 g1=>?_⟩;exact⟨t,t1,_,_,rfl,rfl,ht _,.of aV,(by show 2+1≤sizeLine;decide),λa' H' s' h'=>q a' H' ((aK.upd g1).trans s') h'⟩
theorem ph.on{X:Cx}{aI:List (Addr×Obj)}{σ:St}{H1:Hp}{s1:Shared}{k:Nat}{R:List V→Hp→VK→Prop}(I:Inv X aI σ H1 s1)(hex:X.ex=[])(sm:aK X.H₀ H1)(L:ph P w K mg base k X.s₀ X.H₀ f R):ph P w K mg base k s1 H1 f R:=by
 refine⟨?_,λA outer s' H' vs us Q hr e0 iE hk rv hQ=>L.run A outer s' H' vs us Q hr e0 (sm.trans iE) (λc o hc hn=>?_) rv hQ⟩
 ·rcases L.here with⟨φ,h1,h2⟩|h
  ·exact .inl ⟨φ,sm _ _ h1,h2⟩
  ·exact .inr h
 ·have y6:c ∉ X.ex:=by rw[hex];simp
  obtain⟨sl,h3⟩:=I.base.any hc hn y6;obtain⟨h4,FK,h5⟩:=hk c _ h3 (I.base.free c o hc hn y6);exact⟨h4,FK,h5⟩
theorem wH.on{k:Nat}{X:Cx}{aI:List (Addr×Obj)}{σ:St}{H1:Hp}{s1:Shared}{Q Q1:VK}{aw f:Addr}{ws:List V}{R:List V→Hp→VK→Prop}{G:Nat→List V→Hp→Prop}(I:Inv X aI σ H1 s1)(hex:X.ex=[])(sm:aK X.H₀ H1)
  (D:wH k P w K mg base X.s₀ X.H₀ Q aw f ws R G) (q:∀u H',aK H1 H'→Q u H'→Q1 u H'):wH k P w K mg base s1 H1 Q1 aw f ws R G:=
 ⟨sm.bh D.CU,D.len,ph.on I hex sm D.fn,D.mono _ _ _ _ D.g0 sm.tup,D.mono,D.pd,D.kind,D.num,D.word,D.first,λtd aR vs v H' s' h1 h2 h3=>q _ _ s' (D.fin td aR vs v H' (sm.trans s') h1 h2 h3)⟩
def aby(Q:VK):VK:=λu H'=>∃td aR v,u=.ref td∧H' td=some (.dK aR)∧eJ aR (Sum.inl 0)=some v∧Q v H'
def Ju(k:Nat)(P:Program)(w:World)(K:Frag)(mg:Str→Option Value)(base:Heap)(s:Shared):Sp:=λvs H Q _=>∃(aw f:Addr)(ws:List V)(R:List V→Hp→VK→Prop)(G:Nat→List V→Hp→Prop),vs=[.ref aw,.ref f]∧wH k P w K mg base s H (aby Q) aw f ws R G
theorem abz:cT ["words","made"] ["words","made"] (bu Ip):=de rfl rfl rfl (by decide +kernel) rfl
theorem C3{k:Nat}{fA:Addr}{jt:FuncData}(F:cA K "folded" "folded" Ip f fd)
  (GA:tq P w K mg base (k+1) fA jt ["words","made"] (Jn k P w K mg base)) (kA:Kp K fA) (bA:Binds K jt ["words","made"] []) (mA:Mg mg "all_folded" fA):tq P w K mg base (k+2) f fd ["words","made"] (Ju k P w K mg base):=by
 refine F.ma abz (λs vs H Q E h=>?_) (λbE A outer s H vs Q E hr h=>?_)
 ·obtain⟨aw,f,ws,R,G,rfl,_⟩:=h;rfl
 ·obtain⟨aw,fm,ws,R,G,rfl,D⟩:=h;refine⟨_,bq (bV (Cg (GY hr) (Cn GA hr rfl mA kA bA (aJ (pv 0) (aJ (pv 1) aO))) aW (λ_ _=>rfl))),?_⟩;refine⟨_,rfl,_,rfl,λaI s1 I=>⟨aw,fm,ws,R,G,rfl,wH.on I rfl (.refl _) D λu H' _ ⟨td,aR,v,e,h1,h2,h3⟩=>?_⟩⟩;exact⟨td,v,e,h2▸oi.k (k:=Sum.inl 0) h1,h3⟩
def Qd(K:Frag):Sp:=λvs H Q _=>∃(aw:Addr)(x:Str)(l r:Nat)(aN:LL),vs=[.ref aw]∧bf K H aw [.str x]∧(x,l,r,aN)∈iN∧∀v H',aK H H'→bf K H' v [.int (l:Int),.int (r:Int),.ck]→Q (.ref v) H'
theorem Qe:∀e∈iN,nj e.1=0:=by decide +kernel
theorem Qf:cT ["words"] ["words"] (bu CA):=de rfl rfl rfl (by decide +kernel) rfl
theorem Qg{fF fM:Addr}{ox jf:FuncData}(F:cA K "measured" "measured" CA f fd)
  (GF:tq P w K mg base 3 fF ox ["words","made"] (Ju 1 P w K mg base)) (kF:Kp K fF) (bF:Binds K ox ["words","made"] []) (mF:Mg mg "folded" fF)
  (GM:br P w K mg base bp 1 fM jf ["place","word","parts"] (Jt K)) (FM:cA K "measure" "measure" wD fM jf) (bM:Binds K jf ["place","word","parts"] []) (mM:Mg mg "measure" fM):br P w K mg base bp 4 f fd ["words"] (Qd K):=by
 refine F.ok Qf (λvs H Q E h=>?_) (λbE A outer s H vs Q E hr h=>?_)
 ·obtain⟨aw,x,l,r,aN,rfl,_⟩:=h;rfl
 ·obtain⟨aw,x,l,r,aN,rfl,hw,hx,q⟩:=h;refine⟨_,bq (bV (Cn GF hr rfl mF kF bF (aJ (pv 0) (aJ (su (v:=.ref _) rfl mM rfl) aO)))),?_⟩;refine⟨_,rfl,λaI s1 I=>⟨aw,fM,[.str x],λvs H' Q=>Jt K vs H' Q E0,λi vs H'=>(i=1∧vs=[])∨(i=0∧∃v,vs=[.ref v]∧bf K H' v [.int (l:Int),.int (r:Int),.ck]),rfl,?_⟩⟩;refine⟨hw,by simp,ph.Pq GM FM bM,.inl ⟨rfl,rfl⟩,λi vs H1 H2 h tp=>?_,λi vs H1 h=>?_,λi hi=>?_,λi n vs H1 h=>?_,λi y vs H1 h g=>?_,⟨x,rfl⟩,λtd aR vs v H' s' h1 h2 h3=>?_⟩
  ·rcases h with h|⟨h1,v,h2,h3⟩
   ·exact .inl h
   ·exact .inr ⟨h1,v,h2,tp.bh h3⟩
  ·rcases h with⟨_,h⟩|⟨_,v,h,_⟩<;>(rw[h];simp)
  ·have:i=0:=by simpa using hi
   subst this;exact .inl ⟨x,rfl⟩
  ·match i,h with
   |0,h=>cases h
   |_+1,h=>cases h
  ·match i,h with
   |0,h=>
    cases h;rcases g with⟨_,g⟩|⟨g,_⟩
    ·refine⟨[],[],by rw[g];rfl,(Qe _ hx).symm,λpa H2 Q' tp hp hq=>⟨_,x,pa,l,r,aN,rfl,hx,λv H3 s3 hv=>hq (.ref v) H3 s3 (.inr ⟨rfl,v,rfl,hv⟩)⟩⟩
    ·exact absurd g (by decide)
   |_+1,h=>cases h
  ·rcases h3 with⟨z,_⟩|⟨_,v',z,hv⟩
   ·exact absurd z (by decide)
   ·have e:vs=[]∧v=.ref v':=by
     cases vs with
     |nil=>exact⟨rfl,by simpa using z⟩
     |cons a vs=>simp at z
    obtain⟨rfl,rfl⟩:=e;exact⟨td,aR,_,rfl,h1,h2,q v' H' s' hv⟩
def Jv(K:Frag):Sp:=λvs H Q _=>∃(aw:Addr)(x:Str)(l r:Nat)(aN:LL),vs=[.ref aw]∧bf K H aw [.str x]∧(x,l,r,aN)∈iN∧∀v H',aK H H'→bf K H' v [.int (l:Int),.int (r:Int)]→Q (.ref v) H'
theorem Qh:cT ["words"] ["words"] (bu Cy):=de rfl rfl rfl (by decide +kernel) rfl
theorem Qi{fM:Addr}{jf:FuncData}(F:cA K "wires" "wires" Cy f fd)
  (GM:br P w K mg base bp 4 fM jf ["words"] (Qd K)) (kM:Kp K fM) (bM:Binds K jf ["words"] []) (mM:Mg mg "measured" fM):br P w K mg base bp 5 f fd ["words"] (Jv K):=by
 refine F.ok Qh (λvs H Q E h=>?_) (λbE A outer s H vs Q E hr h=>?_)
 ·obtain⟨aw,x,l,r,aN,rfl,_⟩:=h;rfl
 ·obtain⟨aw,x,l,r,aN,rfl,hw,hx,q⟩:=h;refine⟨_,bq (bV (dD (ip K rfl) (bZ GM hr rfl mM kM bM .nil cb (aJ (pv 0) aO)) dQ (dj aW))),?_⟩;refine⟨_,rfl,aw,x,l,r,aN,rfl,hw,hx,λv H1 s1 hv=>?_⟩;exact⟨_,rfl,v,_,rfl,hv,λt H2 s2 ht=>q t H2 (s1.trans s2) ht⟩
def fh(K:Frag)(H:Hp)(a:Addr)(l r:Nat)(aN:LL):Prop:=∃(t:Addr)(RS:List V),bf K H a [.int (l:Int),.int (r:Int),.ref t]∧bf K H t RS∧bj K H RS (aN.map cj)
theorem bj.Qj{K:Frag}{H H':Hp}(s:gQ H H'):∀{RS:List V}{aN:LL},bj K H RS (aN.map cj)→bj K H' RS (aN.map cj)
 | [],[],_=>.nil
 |_::_,[],h=>nomatch h
 | [],_::_,h=>nomatch h
 |v::RS,r::aN,.cons h q=>by
  refine .cons ?_ (bj.Qj s q);have h:ic K H v (.tuple (r.map .int)):=h;cases h with
  |tuple h1 h2=>
   have e:=bj.Hs h2;subst e;exact kj (s.bh h1)
theorem fh.tup{K:Frag}{H H':Hp}{a:Addr}{l r:Nat}{aN:LL}(h:fh K H a l r aN)(s:gQ H H'):fh K H' a l r aN:=by
 obtain⟨t,RS,h1,h2,h3⟩:=h;exact⟨t,RS,s.bh h1,s.bh h2,bj.Qj s h3⟩
noncomputable def jX(l r:Nat)(row:List Int):List Int:=(row.drop l).take r++(row.take l++row.drop (l+r))
theorem wN{r:List Int}{k:Nat}(h:k≤r.length):fV (r.map V.int) none (some (k:Int))=(r.take k).map V.int:=by
 unfold fV;rw[HT.qi,HT.uF,vE,Nat.sub_zero,aZ,ug h,List.map_take]
theorem wO{r:List Int}{k:Nat}(h:k≤r.length):fV (r.map V.int) (some (k:Int)) none=(r.drop k).map V.int:=by
 unfold fV;rw[HT.qi,HT.uF,aZ,ug h,jM (by simp),List.map_drop]
theorem Jw{r:List Int}{j k:Nat}(h:j+k≤r.length):fV (r.map V.int) (some (j:Int)) (some ((j+k:Nat):Int))=((r.drop j).take k).map V.int:=by
 unfold fV;rw[HT.qi,HT.qi,aZ,ug h,ug (by lia),List.map_take,List.map_drop,Nat.add_sub_cancel_left]
theorem abA{l r x:Nat}{row:List Int}(h:row.length=l+r+x):(jX l r row).length=r+l+x:=by
 unfold jX;simp only[bY,cB,da];lia
theorem C4{p:Int}{l r x:Nat}{row:List Int}(h:Rw p (l+r+x) row):Rw p (r+l+x) (jX l r row):=by
 refine⟨abA h.1,λx hx=>h.2 x ?_⟩;unfold jX at hx;rcases(dI.mp hx)with z|z
 ·exact gM (gy z)
 ·rcases(dI.mp z)with z|z
  ·exact gy z
  ·exact gM z
theorem nbk:(["row","behind","left"]:List Str).Nodup:=by decide +kernel
def Jx(K:Frag):Sp:=λvs H Q _=>∃(p:Int)(a:Addr)(l r x:Nat)(aN:LL),vs=[.int p,.ref a]∧p∈cq∧fh K H a l r aN∧l≤100∧r≤100∧x≤200∧aN.length≤500∧bo p (l+r+x) aN∧∀v H',aK H H'→fh K H' v r l (cD p (aN.map (jX l r)))→Q (.ref v) H'
noncomputable abbrev nBk:List Str:=["p","one","left","behind"]
theorem Jy:cT ["p","one","left","behind"] ["p","one"] (bu CC):=de rfl rfl rfl (by decide +kernel) rfl
theorem Qk{fD:Addr}{mf:FuncData}(F:cA K "form_of_back" "form_of_back" CC f fd)
  (GD:br P w K mg base bp 3 fD mf ["p","rows"] (tE K)) (kD:Kp K fD) (bD:Binds K mf ["p","rows"] []) (mD:Mg mg "reduced" fD):br P w K mg base bp 4 f fd ["p","one"] (Jx K):=by
 refine F.ok Jy (λvs H Q E h=>?_) (λbE A outer s H vs Q E hr h=>?_)
 ·obtain⟨p,a,l,r,x,aN,rfl,_⟩:=h;rfl
 ·obtain⟨p,a,l,r,x,aN,rfl,pp,⟨t,RS,h1,h2,h3⟩,hl,fY,afe,hz,hR,q⟩:=h;have i7:(1000:Nat)≤sizeLine:=by decide
  refine⟨_,ba (bH (i:=2) Jy.nd rfl (Or.inr rfl) (bt (cH K rfl) (pv 1) aW (λ_ _=>rfl))) (ba (bH (i:=3) Jy.nd rfl (Or.inr rfl) (aX eU (pv 2) (bt (cH K rfl) (pv 1) aW (λ_ _=>rfl)))) (bq (bV (c7 (aJ (bt (cH K rfl) (pv 1) aW (λ_ _=>rfl)) (aJ (pv 2) (aJ (bZ GD hr rfl mD kD bD .nil cb (aJ (pv 0) (aJ (iV (N:=["row","behind","left"]) (own:=1) (caps:=[3,2]) rfl (oa K rfl (bt (cH K rfl) (pv 1) aW (λ_ _=>rfl))) (show dJ nBk (bu CC) ["row","behind","left"] 1 [3,2] _ from .mk' (by decide +kernel)) (λ_ _ _ _ _=>cx (i:=0) nbk rfl (.inl rfl)) (λ_ _ _ _ _=>fq) (λ_ _ _ _ _=>aX (dh K rfl) (aX (dh K rfl) (dD (ip K rfl) (pv 0) (dj (pv 2)) (dj (pv 1))) (dD (ip K rfl) (pv 0) dQ (dj (pv 2)))) (dD (ip K rfl) (pv 0) (dj (pv 1)) dQ))) aO))) aO))))))),?_⟩
  have pq:=fg h3;refine⟨_,rfl,a,_,0,_,rfl,rfl,h1,bw (j:=0) rfl,?_⟩;refine⟨_,rfl,_,rfl,a,_,1,_,rfl,rfl,h1,bw (j:=1) rfl,_,_,rfl,rfl,?_⟩;refine⟨_,rfl,a,_,1,_,rfl,rfl,h1,bw (j:=1) rfl,_,rfl,_,rfl,_,rfl,a,_,2,_,rfl,rfl,h1,bw (j:=2) rfl,t,rfl,⟨_,h2⟩,?_⟩;refine we (xs:=RS) (cp:=[some (.int ((l:Int)+(r:Int))),some (.int (l:Int))]) (λi H' zs=>bj K H' zs (((aN.map (jX l r)).take i).map cj)) h2 (by lia) .nil (λi H' zs h=>by rw[fg h,cB];exact Nat.min_le_left _ _) ?_ ?_
  ·rintro i v H2 zs hv sm h;obtain⟨Ql,ra,fi,rfl,cV⟩:=jd h3 hv;have cF:=(hR Ql (cZ fi)).1;have elr:(l:Int)+(r:Int)=((l+r:Nat):Int):=by lia
   rw[elr];refine jc ⟨_,rfl,_,rfl,_,rfl,_,rfl,_,rfl,ra,_,rfl,sm.bh cV,λt1 H3 s3 Jz=>?_⟩;rw[Jw (by lia)]at Jz;refine⟨_,rfl,_,rfl,_,rfl,ra,_,rfl,(sm.trans s3).bh cV,λt2 H4 s4 nu=>?_⟩;rw[wN (by lia)]at nu;refine⟨t1,t2,_,_,rfl,rfl,s4.bh Jz,nu,by simp only[aZ,cB,da];lia,λt3 H5 s5 oy=>?_⟩;have Qm:=s3.trans (s4.trans s5);refine⟨_,rfl,_,rfl,_,rfl,ra,_,rfl,(sm.trans Qm).bh cV,λt4 H6 s6 Qn=>?_⟩;rw[wO (by lia)]at Qn;refine⟨t3,t4,_,_,rfl,rfl,s6.bh oy,Qn,by simp only[aZ,bY,cB,da];lia,λt5 H7 s7 tI=>?_⟩;have zq:=Qm.trans (s6.trans s7);refine⟨⟨[_],rfl,rfl⟩,sm.trans zq,?_⟩;rw[← dC,← dC,jr]at tI;have e:(aN.map (jX l r))[i]?=some (jX l r Ql):=by rw[dU,fi];rfl
   rw[gK,e];show bj K H7 _ (((aN.map (jX l r)).take i++[_]).map cj);rw[dC];exact(h.mono zq).append (.cons (kj tI) .nil)
  rintro H1 ZS sm hZ lz tJ;rw[jM (by rw[aZ];lia)]at hZ;have s1:aK H (upd H1 lz (.lst ZS)):=sm.trans (.upd tJ);refine⟨p,lz,true,ZS,aN.map (jX l r),r+l+x,rfl,pp,.of aV,hZ.mono (.upd tJ),by rw[aZ];lia,by lia,λx hx=>?_,λt2 H2 DS s2 nu zr=>?_⟩
  ·obtain⟨y,hy,rfl⟩:=cP.mp hx;exact C4 (hR y hy)
  ·refine⟨(by show 3≤sizeLine;lia),λv hv=>q v _ (s1.trans (s2.trans (.upd hv))) ⟨t2,DS,.of aV,(aK.upd hv).bh nu,zr.mono (.upd hv)⟩⟩
theorem abB:∀e∈iN,e.1 ≠ "back"∧e.1 ≠ "beside"∧e.1 ≠ "then"∧e.1 ≠ "times":=by decide +kernel
theorem qp{x y:Str}(h:x≠y)(b:B):if decide (V.str x=V.str y)=true then A else B:=by
 rw[ab (λz=>h (V.str.inj z))];exact dW b
theorem C5{x:V}(a:A):if decide (x=x)=true then A else B:=by
 rw[aC rfl];exact dZ a
theorem abC{b:Bool}(h:b=false)(q:B):if(if false=true then !b else b)=true then A else B:=by
 subst h;simpa using q
theorem Qo{ts es:List Expr}{k:Nat}{pos:Pos}{env:Env}:starEach (.Tuple ts k pos::es) env=(false,eval (.Tuple ts k pos) env)::starEach es env:=by rfl
theorem JA{c:Const}{k:Nat}{es:List Expr}{pos:Pos}{env:Env}:starEach (.Constant c k pos::es) env=(false,eval (.Constant c k pos) env)::starEach es env:=by rfl
theorem ts1:("times":Str) ≠ "back":=by decide +kernel
theorem ts2:("times":Str) ≠ "beside":=by decide +kernel
theorem ts3:("times":Str) ≠ "then":=by decide +kernel
inductive C6(K:Frag)(p:Int)(x:Str)(ps:List V)(H:Hp)(Q:VK):Prop where
 |back (a:Addr) (l r e:Nat) (aN:LL) (hx:x="back") (hp:ps=[.ref a]) (hf:fh K H a l r aN) (hl:l≤100) (hr:r≤100) (he:e≤200) (hz:aN.length≤500) (hR:bo p (l+r+e) aN) (q:∀v H',aK H H'→fh K H' v r l (cD p (aN.map (jX l r)))→Q (.ref v) H'):C6 K p x ps H Q
 |times (n:Int) (hx:x="times") (hp:ps=[.int n]) (q:∀v H',aK H H'→fh K H' v 1 1 [[1,n]]→Q (.ref v) H'):C6 K p x ps H Q
 |box (l r:Nat) (aN:LL) (hx:(x,l,r,aN)∈iN) (q:∀v H',aK H H'→fh K H' v l r aN→Q (.ref v) H'):C6 K p x ps H Q
theorem abD:cT ["p","word","parts"] ["p","word","parts"] (bu Iv):=de rfl rfl rfl (by decide +kernel) rfl
def Qp(K:Frag):Sp:=λvs H Q _=>∃(aw:Addr)(ws:List V),vs=[.ref aw]∧bf K H aw ws∧ws.all qj=true∧Br (.str "late") ws=false∧Q .ck H
theorem abE:cT ["words"] ["words"] (bu Iu):=de rfl rfl rfl (by decide +kernel) rfl
theorem Qq(F:cA K "refuse_late" "refuse_late" Iu f fd):br P w K mg base bp 1 f fd ["words"] (Qp K):=by
 refine F.ok abE (λvs H Q E h=>?_) (λbE A outer s H vs Q E hr h=>?_)
 ·obtain⟨aw,ws,rfl,_⟩:=h;rfl
 ·obtain⟨aw,ws,rfl,hw,hf,hn,q⟩:=h;refine⟨_,bq (cX (cM (Z7 K rfl) cz (pv 0) rfl) (bq Xh) dy),?_⟩;exact⟨_,rfl,aw,ws,rfl,.inr hw,rfl,hf,_,rfl,abC hn q⟩
noncomputable def del(Pt:Addr)(H:Hp):Hp:=λb=>if b=Pt then none else H b
section
variable{K:Frag}{H H':Hp}{Pt a b:Addr}{ps:Array Value}{xs:List V}{o:HO}
theorem C7(h:b≠Pt):del Pt H b=H b:=af h
theorem C8(e:del Pt H b=some o):b≠Pt∧H b=some o:=by
 by_cases hb:b=Pt
 ·rw[del,ae hb]at e;cases e
 ·exact⟨hb,(C7 hb).symm.trans e⟩
theorem Ck.same(h:Ck Pt H H'):aK (del Pt H) H':=λb o e=>h b o (C8 e).2 (C8 e).1
theorem abF(hP:H Pt=some (.gj ps))(e:H b=some o)(hn:∀ps,o≠.gj ps):b≠Pt:=λz=>by
 rw[z,hP]at e;exact hn _ (c8 e).symm
theorem C9(hP:H Pt=some (.gj ps))(e:H b=some o)(hn:∀ps,o≠.gj ps):del Pt H b=some o:=by rw[C7 (abF hP e hn)];exact e
theorem bf.del(hP:H Pt=some (.gj ps))(h:bf K H a xs):bf K (del Pt H) a xs:=by
 rcases h with(h|⟨o,h⟩)|h
 ·exact .inl (.inl (C9 hP h λ_ z=>nomatch z))
 ·exact .inl (.inr ⟨o,C9 hP h λ_ z=>nomatch z⟩)
 ·exact .inr h
theorem dq.del(hP:H Pt=some (.gj ps))(h:dq K H a xs):dq K (del Pt H) a xs:=by
 rcases h with(h|⟨o,h⟩)|h
 ·exact .inl (.inl (C9 hP h λ_ z=>nomatch z))
 ·exact .inl (.inr ⟨o,C9 hP h λ_ z=>nomatch z⟩)
 ·exact .inr h
mutual
theorem ic.del(hP:H Pt=some (.gj ps)):∀{v:V}{d:Dat},ic K H v d→ic K (S21.del Pt H) v d
 |_,_,.none=>.none
 |_,_,.bool b=>.bool b
 |_,_,.int i=>.int i
 |_,_,.str x=>.str x
 |_,_,.tuple h r=>.tuple (bf.del hP h) (bj.del hP r)
 |_,_,.list h r=>.list (dq.del hP h) (bj.del hP r)
theorem bj.del(hP:H Pt=some (.gj ps)):∀{vs:List V}{ds:List Dat},bj K H vs ds→bj K (S21.del Pt H) vs ds
 |_,_,.nil=>.nil
 |_,_,.cons h r=>.cons (ic.del hP h) (bj.del hP r)
end
end
theorem _root_.L2.jV.tab{H:Hp}{Pt:Addr}{pos:Pos}{qual:Str}(h:jV H Pt pos qual):∃ps,H Pt=some (.gj ps):=by
 rcases h with h|⟨c,h,_⟩
 ·exact⟨_,h⟩
 ·exact⟨_,h⟩
theorem _root_.L2.jV.mono{H H':Hp}{Pt:Addr}{pos:Pos}{qual:Str}(h:jV H Pt pos qual)(e:aK H H'):jV H' Pt pos qual:=by
 rcases h with h|⟨c,h,h2⟩
 ·exact .inl (e _ _ h)
 ·exact .inr ⟨c,e _ _ h,e _ _ h2⟩
noncomputable def qq(e:Expr):Pos:=match e with
 | .Lambda _ _ _ q=>q
 |_=>⟨0,0,0,0⟩
noncomputable def abG(e:Expr):Arguments:=match e with
 | .Lambda a _ _ _=>a
 |_=>{ posonlyargs:=[],args:=[],vararg:=none,kwonlyargs:=[],kw_defaults:=[],kwarg:=none,defaults:=[] }
noncomputable def Dc(e:Expr):Scope:=match e with
 | .Lambda _ _ s _=>s
 |_=>{ kind:=.function,names:=[],isGenerator:=false,isCoroutine:=false }
theorem aK.abH{H H':Hp}{Pt:Addr}(h:aK H H'):aK (S21.del Pt H) H':=λb o e=>h b o (C8 e).2
noncomputable def abI(st:Stmt)(i:Nat):Expr:=match(lZ st).getD i (.Pass ⟨0,0,0,0⟩) with
 | .Return (some (.Call _ [_,e] _ _)) _=>e
 |_=>.Constant .none 0 ⟨0,0,0,0⟩
noncomputable abbrev lL:Expr:=abI kz 1
noncomputable abbrev qr:Str := "forms"++".<locals>."++"<lambda>"
noncomputable def zt(L:Nat):Addr:=((cellsFrom (L+1) (bu kz).names []).lookup ("p":Str)).getD 0
noncomputable abbrev zu(L:Nat):List (Str×Addr):=[("p",zt L)]
theorem abJ{L f:Addr}{bE:Value}:closureFor (Dc lL) (PyProof.Rows.envOfC "forms" (bu kz) L f bE)=pure (zu L):=rfl
theorem Qr{L:Nat}:(cellsFrom (L+1) (bu kz).names []).lookup ("p":Str)=some (zt L):=by
 obtain⟨c,hc⟩:=Gm (n:=L+1) (sc:=bu kz) (x := "p") rfl;unfold zt;rw[hc];rfl
theorem Qs{L:Nat}{y:Str}{c:Addr}(h:(zu L).lookup y=some c):y="p":=by
 rcases(eW.mp (pY h))with e|e
 ·cases e;rfl
 ·cases e
theorem Qt{L:Nat}{y:Str}{c:Addr}(h:(zu L).lookup y=some c):(cellsFrom (L+1) (bu kz).names []).lookup y=some c:=by
 have e:=Qs h;subst e;rw[Qr];exact h
theorem abK{L:Nat}(abL:∀y z c,(cellsFrom (L+1) (bu kz).names []).lookup y=some c→(cellsFrom (L+1) (bu kz).names []).lookup z=some c→y=z):P7 ["place","word","parts"] ["p"] (Dc lL) (abG lL) (zu L):=by
 have fr:∀y∈(["p"]:List Str),(Dc lL).names.lookup y=some .free:=by decide +kernel
 have only:∀z∈(Dc lL).names,z.2=.free→z.1∈(["p"]:List Str):=by decide +kernel
 refine⟨rfl,rfl,rfl,by decide +kernel,by decide +kernel,by decide +kernel,fr,λy hy=>?_,λy z c h1 h2=>abL y z c (Qt h1) (Qt h2),λy c h=>by rw[Qs h];exact ek⟩;have e:y="p":=dP.mp (only _ (pY hy) rfl);exact⟨_,by rw[e];rfl⟩
theorem Qu:nj "back"=1:=by decide +kernel
theorem Qv:nj "times"=1:=by decide +kernel
section
variable{P:Program}{w:World}{K:Frag}{mg:Str→Option Value}{base:Heap}
theorem abM:cT ["p","words"] ["p","words"] (bu kz):=de rfl rfl rfl (by decide +kernel) rfl
theorem abN:cT ["p","words"] ["p","words"] (bu Ir):=de rfl rfl rfl (by decide +kernel) rfl
end
def tK(te:TE)(σ:St)(H:Hp)(k:Int):Prop:=∀H',aK H H'→∀R:VK,R (.int k) H'→te σ H' R
def mh(K:Frag)(te:TE)(σ:St)(H:Hp)(ns:List Int):Prop:=∀H',aK H H'→∀R:VK,(∀v eT,aK H' eT→bf K eT v (ns.map V.int)→R (.ref v) eT)→te σ H' R
def Dd(to:TO)(σ:St)(H:Hp)(k:Option Int):Prop:=∀H',aK H H'→∀R:Option Int→Hp→Prop,R k H'→to σ H' R
section
variable{K:Frag}{σ:St}{H:Hp}
theorem nv{i:Nat}{k:Int}(h:σ[i]?=some (some (.int k))):tK (aY i) σ H k:=λ_ _ _ q=>⟨_,h,q⟩
theorem jg{i:Nat}{a:Addr}{xs:List V}{j:Nat}{k:Int}(h:σ[i]?=some (some (.ref a)))(ha:bf K H a xs)(hj:xs[j]?=some (.int k)):tK (bz (uH K) (aY i) (tC (.int (j:Int)))) σ H k:=
 λ_ s _ q=>⟨_,h,a,xs,(j:Int),_,rfl,rfl,s.bh ha,bw hj,q⟩
theorem De{ta tb:TE}{i j:Int}(h1:tK ta σ H i)(h2:tK tb σ H j):tK (bz (e7 λi j=>.int (i+j)) ta tb) σ H (i+j):=λH' s _ q=>h1 H' s _ (h2 H' s _ ⟨i,j,rfl,rfl,q⟩)
theorem oz{i:Nat}{a:Addr}{ns:List Int}(h:σ[i]?=some (some (.ref a)))(ha:bf K H a (ns.map V.int)):mh K (aY i) σ H ns:=λ_ s _ q=>⟨_,h,q a _ (.refl _) (s.bh ha)⟩
theorem qt:Dd iK σ H none:=λ_ _ _ q=>q
theorem mi{te:TE}{k:Int}(h:tK te σ H k):Dd (gS te) σ H (some k):=λH' s _ q=>h H' s _ ⟨k,rfl,q⟩
theorem oC{ta tb:TE}{ns ms:List Int}(h1:mh K ta σ H ns)(h2:mh K tb σ H ms)(hl:ns.length+ms.length≤10000):mh K (bz (uM K) ta tb) σ H (ns++ms):=λH' s R q=>by
 have z:(10000:Nat)≤sizeLine:=by decide
 refine h1 H' s _ λa H1 s1 ha=>h2 H1 (s.trans s1) _ λb H2 s2 hb=>?_;refine⟨a,b,_,_,rfl,rfl,s2.bh ha,hb,by simp only[aZ];lia,λc H3 s3 hc=>q c H3 (s1.trans (s2.trans s3)) ?_⟩;rw[dC];exact hc
theorem Qw{α:Type}(v:α):∀n:Nat,(List.replicate n [v]).flatten=List.replicate n v
 |0=>rfl
 |n+1=>by rw[qJ,vD,Qw v n];rfl
theorem wQ{tk:TE}{k:Nat}(h:tK tk σ H (k:Int))(hk:k≤10000):mh K (bz (yI K) (jQ (bg (tC (.int 0)) cm)) tk) σ H (List.replicate k 0):=λH' s R q=>by
 have z:(10000:Nat)≤sizeLine:=by decide
 refine⟨by show 1≤sizeLine;decide,λa ha=>?_⟩;have sa:=aK.upd (o:=.tup [.int 0]) ha;refine h _ (s.trans sa) _ ⟨a,(k:Int),[.int 0],rfl,rfl,.of aV,by simp,by lia,by lia,by show 1*(k:Int).toNat≤sizeLine;lia,λc H3 s3 hc=>q c H3 (sa.trans s3) ?_⟩;rw[show(k:Int).toNat=k by lia,Qw]at hc;rw[AN];exact hc
theorem oD{te:TE}{tl th:TO}{ns:List Int}{lo hi:Option Int}{ms:List Int}(h:mh K te σ H ns)(h1:Dd tl σ H lo)(h2:Dd th σ H hi)(e:fV (ns.map V.int) lo hi=ms.map V.int):mh K (ib (kr K) te tl th) σ H ms:=λH' s R q=>
 h H' s _ λa H1 s1 ha=>h1 H1 (s.trans s1) _ (h2 H1 (s.trans s1) _ ⟨a,_,rfl,ha,λc H3 s3 hc=>q c H3 (s1.trans s3) (by rw[e]at hc;exact hc)⟩)
end
theorem Df{K:Frag}{H1:Hp}{t:Addr}{RS:List V}{aN:LL}{f:List Int→List Int}{cp:St}{te:TE}{Q:VK}(h2:bf K H1 t RS)(h3:bj K H1 RS (aN.map cj))(hz:aN.length≤1000)
  (step:∀row ra H,row∈aN→aK H1 H→bf K H ra (row.map V.int)→mh K te (some (.ref ra)::cp) H (f row))
  (done:∀H ZS,aK H1 H→bj K H ZS ((aN.map f).map cj)→∀p,H p=none→Q (.ref p) (upd H p (.lst ZS))) :
  ∃W:Nat→Nat→St→Hp→List V→Prop,(∃m,W 0 m (List.replicate 1 none++cp) H1 [])∧jD (qf K t) (bX 0) jC te Q W:=by
 have i7:(1000:Nat)≤sizeLine:=by decide
 have pq:=fg h3;refine we (xs:=RS) (cp:=cp) (λi H' zs=>bj K H' zs (((aN.map f).take i).map cj)) h2 (by lia) .nil (λi H' zs h=>by rw[fg h,cB];exact Nat.min_le_left _ _) ?_ ?_
 ·rintro i v H2 zs hv sm h;obtain⟨row,ra,fi,rfl,cV⟩:=jd h3 hv;refine jc (step row ra H2 (cZ fi) sm (sm.bh cV) H2 (.refl _) _ λu H3 s3 hu=>⟨⟨[_],rfl,rfl⟩,sm.trans s3,?_⟩);have e:(aN.map f)[i]?=some (f row):=by rw[dU,fi];rfl
  rw[gK,e];show bj K H3 _ (((aN.map f).take i++[_]).map cj);rw[dC];exact(h.mono s3).append (.cons (kj hu) .nil)
 ·rintro H2 ZS sm hZ lz tJ;rw[jM (by rw[aZ];lia)]at hZ;exact done H2 ZS sm hZ lz tJ
noncomputable def uZ(l r l' r':Nat)(row:List Int):List Int:=row.take l++List.replicate l' 0++(row.drop l).take r++List.replicate r' 0++row.drop (l+r)
noncomputable def wR(l r l':Nat)(row:List Int):List Int:=List.replicate l 0++row.take l'++List.replicate r 0++row.drop l'
noncomputable def pA(l r l' r':Nat)(aN cy:LL):LL:=aN.map (uZ l r l' r')++cy.map (wR l r l')
theorem abO{p:Int}{l r l' r' x:Nat}{row:List Int}(p0:0<p)(h:Rw p (l+r+x) row):Rw p (l+l'+(r+r')+x) (uZ l r l' r' row):=by
 refine⟨?_,λy hx=>?_⟩
 ·unfold uZ
  have:=h.1
  simp only[bY,cB,da,dY];lia
 ·unfold uZ at hx;simp only[dI,qM]at hx;rcases hx with(((z|⟨_,rfl⟩)|z)|⟨_,rfl⟩)|z
  ·exact h.2 y (gy z)
  ·lia
  ·exact h.2 y (gM (gy z))
  ·lia
  ·exact h.2 y (gM z)
theorem abP{p:Int}{l r l' r' x:Nat}{row:List Int}(p0:0<p)(h:Rw p (l'+r'+x) row):Rw p (l+l'+(r+r')+x) (wR l r l' row):=by
 refine⟨?_,λy hx=>?_⟩
 ·unfold wR
  have:=h.1
  simp only[bY,cB,da,dY];lia
 ·unfold wR at hx;simp only[dI,qM]at hx;rcases hx with((⟨_,rfl⟩|z)|⟨_,rfl⟩)|z
  ·lia
  ·exact h.2 y (gy z)
  ·lia
  ·exact h.2 y (gM z)
theorem Dg{p:Int}{l r l' r' x:Nat}{aN cy:LL}(p0:0<p)(h:bo p (l+r+x) aN)(h':bo p (l'+r'+x) cy):bo p (l+l'+(r+r')+x) (pA l r l' r' aN cy):=λw hx=>by
 rcases(dI.mp hx)with z|z
 ·obtain⟨y,hy,e⟩:=cP.mp z;rw[← e];exact abO p0 (h y hy)
 ·obtain⟨y,hy,e⟩:=cP.mp z;rw[← e];exact abP p0 (h' y hy)
theorem abQ:(["row","behind","one","other"]:List Str).Nodup:=by decide +kernel
theorem abR:(["row","one","other"]:List Str).Nodup:=by decide +kernel
section
variable{P:Program}{w:World}{K:Frag}{mg:Str→Option Value}{base:Heap}
def JB(K:Frag):Sp:=λvs H Q _=>∃(p:Int)(a b:Addr)(l r:Nat)(aN:LL)(l' r':Nat)(cy:LL)(x:Nat),vs=[.int p,.ref a,.ref b]∧p∈cq∧fh K H a l r aN∧fh K H b l' r' cy∧l≤100∧r≤100∧l'≤100∧r'≤100∧x≤200∧aN.length≤400∧cy.length≤400∧bo p (l+r+x) aN∧bo p (l'+r'+x) cy∧
 ∀v H',aK H H'→fh K H' v (l+l') (r+r') (cD p (pA l r l' r' aN cy))→Q (.ref v) H'
noncomputable abbrev Qx:List Str:=["p","one","other","behind","above","below"]
theorem Dh:cT ["p","one","other","behind","above","below"] ["p","one","other"] (bu zb):=de rfl rfl rfl (by decide +kernel) rfl
abbrev ft(K:Frag)(i:Nat)(j:Int):TE:=bz (uH K) (aY i) (tC (.int j))
abbrev wU(K:Frag)(tk:TE):TE:=bz (yI K) (jQ (bg (tC (.int 0)) cm)) tk
abbrev ny(K:Frag)(ta tb:TE):TE:=bz (uM K) ta tb
abbrev u7(ta tb:TE):TE:=bz (e7 λi j=>.int (i+j)) ta tb
def Di(K:Frag):TE:=ny K (ny K (ny K (ny K (ib (kr K) (aY 0) iK (gS (ft K 2 0))) (wU K (ft K 3 0))) (ib (kr K) (aY 0) (gS (ft K 2 0)) (gS (aY 1)))) (wU K (ft K 3 1))) (ib (kr K) (aY 0) (gS (aY 1)) iK)
def Dj(K:Frag):TE:=ny K (ny K (ny K (wU K (ft K 1 0)) (ib (kr K) (aY 0) iK (gS (ft K 2 0)))) (wU K (ft K 1 1))) (ib (kr K) (aY 0) (gS (ft K 2 0)) iK)
theorem abS{σ:St}{H:Hp}{ra a b:Addr}{row:List Int}{l r l' r' x:Nat}{t t':V}(h0:σ[0]?=some (some (.ref ra)))(h1:σ[1]?=some (some (.int ((l+r:Nat):Int))))(h2:σ[2]?=some (some (.ref a)))(h3:σ[3]?=some (some (.ref b)))
  (hr:bf K H ra (row.map V.int)) (ha:bf K H a [.int (l:Int),.int (r:Int),t]) (hb:bf K H b [.int (l':Int),.int (r':Int),t']) (hl:row.length=l+r+x) (hx:x≤200) (b1:l≤100) (b2:r≤100) (b3:l'≤100) (b4:r'≤100):mh K (Di K) σ H (uZ l r l' r' row):=by
 have e1:(row.take l).length≤100:=by rw[cB];lia
 have e2:((row.drop l).take r).length≤100:=by rw[cB];lia
 have e3:(row.drop (l+r)).length≤200:=by rw[da];lia
 refine oC (oC (oC (oC (oD (oz h0 hr) qt (mi (jg (j:=0) h2 ha rfl)) (wN (by lia))) (wQ (jg (j:=0) h3 hb rfl) (by lia)) ?_) (oD (oz h0 hr) (mi (jg (j:=0) h2 ha rfl)) (mi (nv h1)) (Jw (by lia))) ?_) (wQ (jg (j:=1) h3 hb rfl) (by lia)) ?_) (oD (oz h0 hr) (mi (nv h1)) qt (wO (by lia))) ?_ <;>
  simp only[bY,dY]<;>lia
theorem abT{σ:St}{H:Hp}{ra a b:Addr}{row:List Int}{l r l' r' x:Nat}{t t':V}(h0:σ[0]?=some (some (.ref ra)))(h2:σ[1]?=some (some (.ref a)))(h3:σ[2]?=some (some (.ref b)))
  (hr:bf K H ra (row.map V.int)) (ha:bf K H a [.int (l:Int),.int (r:Int),t]) (hb:bf K H b [.int (l':Int),.int (r':Int),t']) (hl:row.length=l'+r'+x) (hx:x≤200) (b1:l≤100) (b2:r≤100) (b3:l'≤100) (b4:r'≤100):mh K (Dj K) σ H (wR l r l' row):=by
 have e1:(row.take l').length≤100:=by rw[cB];lia
 have e3:(row.drop l').length≤300:=by rw[da];lia
 refine oC (oC (oC (wQ (jg (j:=0) h2 ha rfl) (by lia)) (oD (oz h0 hr) qt (mi (jg (j:=0) h3 hb rfl)) (wN (by lia))) ?_) (wQ (jg (j:=1) h2 ha rfl) (by lia)) ?_) (oD (oz h0 hr) (mi (jg (j:=0) h3 hb rfl)) qt (wO (by lia))) ?_ <;>
  simp only[bY,dY]<;>lia
def Dk(K:Frag):TS:=cI (dz (u7 (ft K 1 0) (ft K 1 1)) (bX 3))
 (cI (dz (o7 (sy K (ft K 1 2)) 1 [3,1,2] (bX 0) jC (Di K)) (bX 4)) (cI (dz (o7 (sy K (ft K 2 2)) 1 [1,2] (bX 0) jC (Dj K)) (bX 5)) (gR (jQ (bg (u7 (ft K 1 0) (ft K 2 0)) (bg (u7 (ft K 1 1) (ft K 2 1)) (bg (iD (tE K) [] E0 (bg (aY 0) (bg (bz fX (aY 4) (aY 5)) cm))) cm)))))))
theorem abU{D:Ends}{p:Int}{a b:Addr}{l r:Nat}{aN:LL}{l' r':Nat}{cy:LL}{x:Nat}{H:Hp}(pp:p∈cq)(hf:fh K H a l r aN)(gB:fh K H b l' r' cy)(b1:l≤100)(b2:r≤100)(b3:l'≤100)(b4:r'≤100)(hx:x≤200)(z1:aN.length≤400)(z2:cy.length≤400)(hR:bo p (l+r+x) aN)(g6:bo p (l'+r'+x) cy)
  (q:∀v H',aK H H'→fh K H' v (l+l') (r+r') (cD p (pA l r l' r' aN cy))→D.rt (.ref v) H'):Dk K D [some (.int p),some (.ref a),some (.ref b),none,none,none] H:=by
 obtain⟨t,RS,h1,h2,h3⟩:=hf;obtain⟨t',JC,nE,wV,Dl⟩:=gB;have i7:(1000:Nat)≤sizeLine:=by decide
 have p0:0<p:=(fe p pp).1 |> λh=>by lia
 unfold Dk;refine De (jg (j:=0) rfl h1 rfl) (jg (j:=1) rfl h1 rfl) H (.refl _) _ ?_;refine⟨_,rfl,a,_,2,_,rfl,rfl,h1,bw (j:=2) rfl,t,rfl,⟨_,h2⟩,?_⟩;refine Df (f:=uZ l r l' r') (cp:=[some (.int ((l:Int)+(r:Int))),some (.ref a),some (.ref b)]) h2 h3 (by lia) (λrow ra H1 eV s1 cV=>abS rfl (by rw[show((l+r:Nat):Int)=(l:Int)+(r:Int) by lia];rfl) rfl rfl cV (s1.bh h1) (s1.bh nE) (hR row eV).1 hx b1 b2 b3 b4) ?_;intro H1 ZS s1 hZ la jW;refine⟨_,rfl,b,_,2,_,rfl,rfl,(s1.trans (.upd jW)).bh nE,bw (j:=2) rfl,t',rfl,⟨_,(s1.trans (.upd jW)).bh wV⟩,?_⟩;have zv:(upd H1 la (.lst ZS)) la=some (.lst ZS):=aV;have nG:=hZ.mono (aK.upd jW (o:=.lst ZS));have sA:aK H (upd H1 la (.lst ZS)):=s1.trans (.upd jW);generalize upd H1 la (.lst ZS)=H2 at zv nG sA ⊢;refine Df (f:=wR l r l') (cp:=[some (.ref a),some (.ref b)]) (sA.bh wV) (Dl.mono sA) (by lia) (λrow ra H3 eV s3 cV=>abT rfl rfl rfl cV ((sA.trans s3).bh h1) ((sA.trans s3).bh nE) (g6 row eV).1 hx b1 b2 b3 b4) ?_;intro H3 YS s3 hY lb tL;have sB:aK H2 (upd H3 lb (.lst YS)):=s3.trans (.upd tL);have tM:(upd H3 lb (.lst YS)) lb=some (.lst YS):=aV;have qu:=hY.mono (aK.upd tL (o:=.lst YS));generalize upd H3 lb (.lst YS)=H4 at sB tM qu ⊢;have sC:=sA.trans sB;refine De (jg (j:=0) rfl (sC.bh h1) rfl) (jg (j:=0) rfl (sC.bh nE) rfl) H4 (.refl _) _ ?_;refine De (jg (j:=1) rfl (sC.bh h1) rfl) (jg (j:=1) rfl (sC.bh nE) rfl) H4 (.refl _) _ ?_;have eZ:=fg nG;have eY:=fg qu;rw[aZ]at eZ eY;refine⟨_,rfl,_,rfl,_,rfl,la,lb,ZS,YS,rfl,rfl,sB _ _ zv,tM,by lia,λlc nh=>?_⟩;have sD:=aK.upd (o:=.lst (ZS++YS)) nh;refine⟨p,lc,true,ZS++YS,pA l r l' r' aN cy,l+l'+(r+r')+x,rfl,pp,.of aV,?_,by unfold pA;rw[bY,aZ,aZ];lia,by lia,Dg p0 hR g6,λt2 H5 DS s5 nu zr=>?_⟩
 ·unfold pA;rw[dC];exact((nG.mono sB).mono sD).append (qu.mono sD)
 ·refine⟨(by show 3≤sizeLine;lia),λv hv=>q v _ (sC.trans (sD.trans (s5.trans (.upd hv)))) ⟨t2,DS,?_,(aK.upd hv).bh nu,zr.mono (.upd hv)⟩⟩;refine .of ?_;rw[aV,show((l+l':Nat):Int)=(l:Int)+(l':Int) by lia,show((r+r':Nat):Int)=(r:Int)+(r':Int) by lia]
end
section
variable{P:Program}{w:World}{K:Frag}{mg:Str→Option Value}{base:Heap}
theorem Qy{f fD:Addr}{fd mf:FuncData}(F:cA K "form_of_beside" "form_of_beside" zb f fd)
  (GD:br P w K mg base bp 3 fD mf ["p","rows"] (tE K)) (kD:Kp K fD) (bD:Binds K mf ["p","rows"] []) (mD:Mg mg "reduced" fD):br P w K mg base bp 4 f fd ["p","one","other"] (JB K):=by
 refine F.ok Dh (λvs H Q E h=>?_) (λbE A outer s H vs Q E hr h=>?_)
 ·obtain⟨p,a,b,l,r,aN,l',r',cy,x,rfl,_⟩:=h;rfl
 ·obtain⟨p,a,b,l,r,aN,l',r',cy,x,rfl,pp,hf,gB,b1,b2,b3,b4,hx,z1,z2,hR,g6,q⟩:=h;refine⟨Dk K,?_,?_⟩
  ·unfold Dk;refine ba ?_ ?_
   ·refine bH (i:=3) (te:=u7 (ft K 1 0) (ft K 1 1)) ?_ ?_ ?_ ?_ ?_ ?_
    ·exact Dh.nd
    ·rfl
    ·exact Or.inr rfl
    ·exact aX eU (bt (cH K rfl) (pv 1) aW (λ_ _=>rfl)) (bt (cH K rfl) (pv 1) aW (λ_ _=>rfl))
    ·rfl
    ·exact .inl rfl
   refine ba ?_ ?_
   ·refine kh (N:=["row","behind","one","other"]) (own:=1) (caps:=[3,1,2]) (i:=4) (te:=Di K) rfl Dh.nd rfl rfl ?_ ?_ ?_ ?_ ?_
    ·exact oa K rfl (bt (cH K rfl) (pv 1) aW (λ_ _=>rfl))
    ·exact(show dJ Qx (bu zb) ["row","behind","one","other"] 1 [3,1,2] _ from .mk' (by decide +kernel))
    ·exact λ_ _ _ _ _=>cx (i:=0) abQ rfl (.inl rfl)
    ·exact λ_ _ _ _ _=>fq
    ·intro _ _ _ _ _;unfold Di;refine aX (dh K rfl) ?_ ?_
     ·refine aX (dh K rfl) ?_ ?_
      ·refine aX (dh K rfl) ?_ ?_
       ·refine aX (dh K rfl) ?_ ?_
        ·exact dD (ip K rfl) (pv 0) dQ (dj (bt (cH K rfl) (pv 2) aW (λ_ _=>rfl)))
        ·exact aX (rn K rfl) (c7 (aJ aW aO)) (bt (cH K rfl) (pv 3) aW (λ_ _=>rfl))
       ·exact dD (ip K rfl) (pv 0) (dj (bt (cH K rfl) (pv 2) aW (λ_ _=>rfl))) (dj (pv 1))
      ·exact aX (rn K rfl) (c7 (aJ aW aO)) (bt (cH K rfl) (pv 3) aW (λ_ _=>rfl))
     ·exact dD (ip K rfl) (pv 0) (dj (pv 1)) dQ
   refine ba ?_ ?_
   ·refine kh (N:=["row","one","other"]) (own:=1) (caps:=[1,2]) (i:=5) (te:=Dj K) rfl Dh.nd rfl rfl ?_ ?_ ?_ ?_ ?_
    ·exact oa K rfl (bt (cH K rfl) (pv 2) aW (λ_ _=>rfl))
    ·exact(show dJ Qx (bu zb) ["row","one","other"] 1 [1,2] _ from .mk' (by decide +kernel))
    ·exact λ_ _ _ _ _=>cx (i:=0) abR rfl (.inl rfl)
    ·exact λ_ _ _ _ _=>fq
    ·intro _ _ _ _ _;unfold Dj;refine aX (dh K rfl) ?_ ?_
     ·refine aX (dh K rfl) ?_ ?_
      ·refine aX (dh K rfl) ?_ ?_
       ·exact aX (rn K rfl) (c7 (aJ aW aO)) (bt (cH K rfl) (pv 1) aW (λ_ _=>rfl))
       ·exact dD (ip K rfl) (pv 0) dQ (dj (bt (cH K rfl) (pv 2) aW (λ_ _=>rfl)))
      ·exact aX (rn K rfl) (c7 (aJ aW aO)) (bt (cH K rfl) (pv 1) aW (λ_ _=>rfl))
     ·exact dD (ip K rfl) (pv 0) (dj (bt (cH K rfl) (pv 2) aW (λ_ _=>rfl))) dQ
   refine bq ?_;refine bV (te:=jQ (bg (u7 (ft K 1 0) (ft K 2 0)) (bg (u7 (ft K 1 1) (ft K 2 1)) (bg (iD (tE K) [] E0 (bg (aY 0) (bg (bz fX (aY 4) (aY 5)) cm))) cm)))) ?_;refine c7 ?_;refine aJ ?_ ?_ ?_
   ·exact aX eU (bt (cH K rfl) (pv 1) aW (λ_ _=>rfl)) (bt (cH K rfl) (pv 2) aW (λ_ _=>rfl))
   ·refine aJ ?_ ?_ ?_
    ·exact aX eU (bt (cH K rfl) (pv 1) aW (λ_ _=>rfl)) (bt (cH K rfl) (pv 2) aW (λ_ _=>rfl))
    ·refine aJ ?_ aO ?_
     ·exact bZ GD hr rfl mD kD bD .nil cb (aJ (pv 0) (aJ (aX eQ (pv 4) (pv 5)) aO))
     ·rfl
    ·rfl
   ·rfl
  ·exact abU pp hf gB b1 b2 b3 b4 hx z1 z2 hR g6 q
end
noncomputable def tN(l m r':Nat)(row:List Int):List Int:=(row.drop l).take m++row.take l++List.replicate r' 0++row.drop (l+m)
noncomputable def tO(p:Int)(l m:Nat)(row:List Int):List Int:=(row.take m).map (λn=>(-n)%p)++List.replicate l 0++row.drop m
noncomputable def pB(p:Int)(l m r':Nat)(aN cy:LL):LL:=aN.map (tN l m r')++cy.map (tO p l m)
noncomputable def oE(m:Nat)(row:List Int):Bool:=!((row.take m).any λn=>n != 0)
noncomputable def oF(p:Int)(l m r':Nat)(aN cy:LL):LL:=((cD p (pB p l m r' aN cy)).filter (oE m)).map (λrow=>row.drop m)
theorem abV{p:Int}{l m r' x:Nat}{row:List Int}(p0:0<p)(h:Rw p (l+m+x) row):Rw p (m+(l+r')+x) (tN l m r' row):=by
 refine⟨?_,λy hx=>?_⟩
 ·unfold tN
  have:=h.1
  simp only[bY,cB,da,dY];lia
 ·unfold tN at hx;simp only[dI,qM]at hx;rcases hx with((z|z)|⟨_,rfl⟩)|z
  ·exact h.2 y (gM (gy z))
  ·exact h.2 y (gy z)
  ·lia
  ·exact h.2 y (gM z)
theorem abW{p:Int}{l m r' x:Nat}{row:List Int}(p0:0<p)(h:Rw p (m+r'+x) row):Rw p (m+(l+r')+x) (tO p l m row):=by
 refine⟨?_,λy hx=>?_⟩
 ·unfold tO
  have:=h.1
  simp only[bY,aZ,cB,da,dY];lia
 ·unfold tO at hx;simp only[dI,qM,cP]at hx;rcases hx with(⟨w,_,rfl⟩|⟨_,rfl⟩)|z
  ·exact⟨lR _ (by lia),lS _ p0⟩
  ·lia
  ·exact h.2 y (gM z)
theorem zw{p:Int}{l m r' x:Nat}{aN cy:LL}(p0:0<p)(h:bo p (l+m+x) aN)(h':bo p (m+r'+x) cy):bo p (m+(l+r')+x) (pB p l m r' aN cy):=λw hx=>by
 rcases(dI.mp hx)with z|z
 ·obtain⟨y,hy,e⟩:=cP.mp z;rw[← e];exact abV p0 (h y hy)
 ·obtain⟨y,hy,e⟩:=cP.mp z;rw[← e];exact abW p0 (h' y hy)
theorem Qz{p:Int}(pp:p∈cq){l m r' x:Nat}{aN cy:LL}(h:bo p (l+m+x) aN)(h':bo p (m+r'+x) cy):bo p (l+r'+x) (oF p l m r' aN cy):=λw hx=>by
 have p0:0<p:=by have:=fe p pp;lia
 obtain⟨y,hy,e⟩:=cP.mp hx;have Bx:=(gZ pp (zw p0 h h')).rws y (pW.mp hy).1;rw[← e];refine⟨by rw[da,Bx.1];lia,λz hz=>Bx.2 z (gM hz)⟩
theorem abX{p:Int}(pp:p∈cq){l m r' x:Nat}{aN cy:LL}(h:bo p (l+m+x) aN)(h':bo p (m+r'+x) cy):(oF p l m r' aN cy).length≤m+(l+r')+x:=by
 have p0:0<p:=by have:=fe p pp;lia
 have:=zg (zw p0 h h')
 unfold oF;rw[aZ];exact hU (List.length_filter_le _ _) this
theorem abY:(["row","behind","left","other"]:List Str).Nodup:=by decide +kernel
theorem abZ:(["row","between","left","p"]:List Str).Nodup:=by decide +kernel
theorem ab0:(["number","p"]:List Str).Nodup:=by decide +kernel
theorem ab1:(["row","between"]:List Str).Nodup:=by decide +kernel
section
variable{P:Program}{w:World}{K:Frag}{mg:Str→Option Value}{base:Heap}
def JD(K:Frag):List V→Hp→VK→Prop:=λxs H Q=>∃p ys,xs=[.ref p]∧((dq K H p ys∧∀l,H l=none→Q (.ref l) (upd H l (.tup ys)))∨(bf K H p ys∧Q (.ref p) H))
def Dm(K:Frag):TE:=mY (JD K) (bg (o7 (sy K (ib (kr K) (aY 0) iK (gS (aY 1)))) 1 [3] (bX 0) jC (bz (rI (λ_ j=>0<j) λi j=>.int (i%j)) (MP (rU λi=>.int (-i)) (aY 0)) (aY 1))) cm)
def Dn(K:Frag):TE:=ny K (ny K (ny K (ib (kr K) (aY 0) (gS (aY 2)) (gS (aY 1))) (ib (kr K) (aY 0) iK (gS (aY 2)))) (wU K (ft K 3 1))) (ib (kr K) (aY 0) (gS (aY 1)) iK)
def Dp(K:Frag):TE:=ny K (ny K (Dm K) (wU K (aY 2))) (ib (kr K) (aY 0) (gS (aY 1)) iK)
theorem ab2{H1:Hp}{t:Addr}{ns:List Int}{g:Int→Int}{cp:St}{te:TE}{Q:VK}(h2:bf K H1 t (ns.map V.int))(hz:ns.length≤1000)(step:∀n H,aK H1 H→tK te (some (.int n)::cp) H (g n))
  (done:∀H,aK H1 H→∀p,H p=none→Q (.ref p) (upd H p (.lst ((ns.map g).map V.int)))) :
  ∃W:Nat→Nat→St→Hp→List V→Prop,(∃m,W 0 m (List.replicate 1 none++cp) H1 [])∧jD (qf K t) (bX 0) jC te Q W:=by
 have i7:(1000:Nat)≤sizeLine:=by decide
 refine we (xs:=ns.map V.int) (cp:=cp) (λi H' zs=>zs=((ns.take i).map g).map V.int) h2 (by rw[aZ];lia) (by simp) (λi H' zs h=>by rw[h,aZ,aZ,cB];exact Nat.min_le_left _ _) ?_ ?_
 ·rintro i v H2 zs hv sm rfl;rw[dU]at hv;cases e:ns[i]? with
  |none=>rw[e]at hv;cases hv
  |some n=>
   rw[e]at hv;cases hv;refine jc (step n H2 sm H2 (.refl _) _ ⟨⟨[_],rfl,rfl⟩,sm,?_⟩);rw[gK,e];simp
 ·rintro H2 zs sm rfl lz tJ;rw[aZ,jM (cu _)];exact done H2 sm lz tJ
theorem ab3{σ:St}{H:Hp}{ra:Addr}{row:List Int}{m:Nat}{p:Int}(h0:σ[0]?=some (some (.ref ra)))(h1:σ[1]?=some (some (.int (m:Int))))(h3:σ[3]?=some (some (.int p)))(hr:bf K H ra (row.map V.int))(hm:m≤row.length)(hl:row.length≤1000)(p0:0<p) :
  mh K (Dm K) σ H ((row.take m).map λn=>(-n)%p):=λH' s R q=>by
 unfold Dm mY;refine oD (K:=K) (ms:=row.take m) (oz h0 hr) qt (mi (nv h1)) (wN hm) H' s _ λt H1 s1 ht=>⟨t,rfl,⟨_,ht⟩,?_⟩;have eb:sP 1 [3] σ=List.replicate 1 none++[some (.int p)]:=by simp[sP,h3]
 rw[eb];refine ab2 (g:=λn=>(-n)%p) (cp:=[some (.int p)]) ht (by rw[cB];lia) (λn H2 s2 H3 s3 R' q'=>⟨_,rfl,n,rfl,_,rfl,-n,p,rfl,rfl,p0,q'⟩) ?_;intro H2 s2 l uS;refine⟨l,_,rfl,.inl ⟨.of aV,λv hv=>q v _ (s1.trans (s2.trans ((aK.upd uS).trans (.upd hv)))) (.of aV)⟩⟩
theorem ab4{σ:St}{H:Hp}{ra b:Addr}{row:List Int}{l m r' e:Nat}{x t':V}(h0:σ[0]?=some (some (.ref ra)))(h1:σ[1]?=some (some (.int ((l+m:Nat):Int))))(h2:σ[2]?=some (some (.int (l:Int))))(h3:σ[3]?=some (some (.ref b)))
  (hr:bf K H ra (row.map V.int)) (hb:bf K H b [x,.int (r':Int),t']) (hl:row.length=l+m+e) (he:e≤200) (b1:l≤100) (b2:m≤100) (b4:r'≤100):mh K (Dn K) σ H (tN l m r' row):=by
 have e1:(row.take l).length≤100:=by rw[cB];lia
 have e2:((row.drop l).take m).length≤100:=by rw[cB];lia
 have e3:(row.drop (l+m)).length≤200:=by rw[da];lia
 refine oC (oC (oC (oD (oz h0 hr) (mi (nv h2)) (mi (nv h1)) (Jw (by lia))) (oD (oz h0 hr) qt (mi (nv h2)) (wN (by lia))) ?_) (wQ (jg (j:=1) h3 hb rfl) (by lia)) ?_) (oD (oz h0 hr) (mi (nv h1)) qt (wO (by lia))) ?_ <;>
  (try simp only[bY,dY])<;>lia
theorem ab5{σ:St}{H:Hp}{ra:Addr}{row:List Int}{l m r' e:Nat}{p:Int}(h0:σ[0]?=some (some (.ref ra)))(h1:σ[1]?=some (some (.int (m:Int))))(h2:σ[2]?=some (some (.int (l:Int))))(h3:σ[3]?=some (some (.int p)))
  (hr:bf K H ra (row.map V.int)) (hl:row.length=m+r'+e) (he:e≤200) (b1:l≤100) (b2:m≤100) (b4:r'≤100) (p0:0<p):mh K (Dp K) σ H (tO p l m row):=by
 have e1:((row.take m).map λn=>(-n)%p).length≤100:=by rw[aZ,cB];lia
 have e3:(row.drop m).length≤300:=by rw[da];lia
 refine oC (oC (ab3 h0 h1 h3 hr (by lia) (by lia) p0) (wQ (nv h2) (by lia)) ?_) (oD (oz h0 hr) (mi (nv h1)) qt (wO (by lia))) ?_ <;>
  (try simp only[bY,dY])<;>lia
def JE(K:Frag):Sp:=λvs H Q _=>∃(p:Int)(a b:Addr)(l m:Nat)(aN:LL)(r':Nat)(cy:LL)(e:Nat),vs=[.int p,.ref a,.ref b]∧p∈cq∧fh K H a l m aN∧fh K H b m r' cy∧l≤100∧m≤100∧r'≤100∧e≤200∧aN.length≤400∧cy.length≤400∧bo p (l+m+e) aN∧bo p (m+r'+e) cy∧
 ∀v H' ZS,aK H H'→H' v=some (.lst ZS)→bj K H' ZS ((pB p l m r' aN cy).map cj)→Q (.ref v) H'
noncomputable abbrev QA:List Str:=["p","one","other","left","between","behind","ahead","follow"]
theorem wW:cT ["p","one","other","left","between","behind","ahead","follow"] ["p","one","other"] (bu zd):=de rfl rfl rfl (by decide +kernel) rfl
def Dq(K:Frag):TS:=cI (dz (ft K 1 0) (bX 3)) (cI (dz (ft K 1 1) (bX 4)) (cI (dz (u7 (aY 3) (aY 4)) (bX 5)) (cI (dz (o7 (sy K (ft K 1 2)) 1 [5,3,2] (bX 0) jC (Dn K)) (bX 6)) (cI (dz (o7 (sy K (ft K 2 2)) 1 [4,3,0] (bX 0) jC (Dp K)) (bX 7)) (gR (bz fX (aY 6) (aY 7)))))))
theorem ab6{D:Ends}{p:Int}{a b:Addr}{l m:Nat}{aN:LL}{r':Nat}{cy:LL}{e:Nat}{H:Hp}(pp:p∈cq)(hf:fh K H a l m aN)(gB:fh K H b m r' cy)(b1:l≤100)(b2:m≤100)(b4:r'≤100)(he:e≤200)(z1:aN.length≤400)(z2:cy.length≤400)(hR:bo p (l+m+e) aN)(g6:bo p (m+r'+e) cy)
  (q:∀v H' ZS,aK H H'→H' v=some (.lst ZS)→bj K H' ZS ((pB p l m r' aN cy).map cj)→D.rt (.ref v) H'):Dq K D [some (.int p),some (.ref a),some (.ref b),none,none,none,none,none] H:=by
 obtain⟨t,RS,h1,h2,h3⟩:=hf;obtain⟨t',JC,nE,wV,Dl⟩:=gB;have i7:(1000:Nat)≤sizeLine:=by decide
 have p0:0<p:=by have:=fe p pp;lia
 unfold Dq;refine jg (j:=0) rfl h1 rfl H (.refl _) _ ?_;refine jg (j:=1) rfl h1 rfl H (.refl _) _ ?_;refine De (i:=(l:Int)) (j:=(m:Int)) (nv rfl) (nv rfl) H (.refl _) _ ?_;refine⟨_,rfl,a,_,2,_,rfl,rfl,h1,bw (j:=2) rfl,t,rfl,⟨_,h2⟩,?_⟩;refine Df (f:=tN l m r') (cp:=[some (.int ((l:Int)+(m:Int))),some (.int (l:Int)),some (.ref b)]) h2 h3 (by lia) (λrow ra H1 eV s1 cV=>ab4 rfl (by rw[show((l+m:Nat):Int)=(l:Int)+(m:Int) by lia];rfl) rfl rfl cV (s1.bh nE) (hR row eV).1 he b1 b2 b4) ?_;intro H1 ZS s1 hZ la jW;refine⟨_,rfl,b,_,2,_,rfl,rfl,(s1.trans (.upd jW)).bh nE,bw (j:=2) rfl,t',rfl,⟨_,(s1.trans (.upd jW)).bh wV⟩,?_⟩;have zv:(upd H1 la (.lst ZS)) la=some (.lst ZS):=aV;have nG:=hZ.mono (aK.upd jW (o:=.lst ZS));have sA:aK H (upd H1 la (.lst ZS)):=s1.trans (.upd jW);generalize upd H1 la (.lst ZS)=H2 at zv nG sA ⊢;refine Df (f:=tO p l m) (cp:=[some (.int (m:Int)),some (.int (l:Int)),some (.int p)]) (sA.bh wV) (Dl.mono sA) (by lia) (λrow ra H3 eV s3 cV=>ab5 (r':=r') rfl rfl rfl rfl cV (g6 row eV).1 he b1 b2 b4 p0) ?_;intro H3 YS s3 hY lb tL;have sB:aK H2 (upd H3 lb (.lst YS)):=s3.trans (.upd tL);have tM:(upd H3 lb (.lst YS)) lb=some (.lst YS):=aV;have qu:=hY.mono (aK.upd tL (o:=.lst YS));generalize upd H3 lb (.lst YS)=H4 at sB tM qu ⊢;have eZ:=fg nG;have eY:=fg qu;rw[aZ]at eZ eY;refine⟨_,rfl,_,rfl,la,lb,ZS,YS,rfl,rfl,sB _ _ zv,tM,by lia,λlc nh=>?_⟩;have sD:=aK.upd (o:=.lst (ZS++YS)) nh;refine q lc _ (ZS++YS) (sA.trans (sB.trans sD)) aV ?_;unfold pB;rw[dC];exact((nG.mono sB).mono sD).append (qu.mono sD)
end
section
variable{P:Program}{w:World}{K:Frag}{mg:Str→Option Value}{base:Heap}
theorem QB{f:Addr}{fd:FuncData}(F:cA K "facing" "facing" zd f fd)(T:Txt mg):br P w K mg base bp 1 f fd ["p","one","other"] (JE K):=by
 refine F.ok wW (λvs H Q E h=>?_) (λbE A outer s H vs Q E hr h=>?_)
 ·obtain⟨p,a,b,l,r,aN,r',cy,e,rfl,_⟩:=h;rfl
 ·obtain⟨p,a,b,l,m,aN,r',cy,e,rfl,pp,hf,gB,b1,b2,b4,he,z1,z2,hR,g6,q⟩:=h;refine⟨Dq K,?_,?_⟩
  ·unfold Dq;refine ba ?_ ?_
   ·exact bH (i:=3) wW.nd rfl (Or.inr rfl) (bt (cH K rfl) (pv 1) aW (λ_ _=>rfl))
   refine ba ?_ ?_
   ·exact bH (i:=4) wW.nd rfl (Or.inr rfl) (bt (cH K rfl) (pv 1) aW (λ_ _=>rfl))
   refine ba ?_ ?_
   ·exact bH (i:=5) wW.nd rfl (Or.inr rfl) (aX eU (pv 3) (pv 4))
   refine ba ?_ ?_
   ·refine kh (N:=["row","behind","left","other"]) (own:=1) (caps:=[5,3,2]) (i:=6) (te:=Dn K) rfl wW.nd rfl rfl ?_ ?_ ?_ ?_ ?_
    ·exact oa K rfl (bt (cH K rfl) (pv 1) aW (λ_ _=>rfl))
    ·exact(show dJ QA (bu zd) ["row","behind","left","other"] 1 [5,3,2] _ from .mk' (by decide +kernel))
    ·exact λ_ _ _ _ _=>cx (i:=0) abY rfl (.inl rfl)
    ·exact λ_ _ _ _ _=>fq
    ·intro _ _ _ _ _;unfold Dn;refine aX (dh K rfl) ?_ ?_
     ·refine aX (dh K rfl) ?_ ?_
      ·refine aX (dh K rfl) ?_ ?_
       ·exact dD (ip K rfl) (pv 0) (dj (pv 2)) (dj (pv 1))
       ·exact dD (ip K rfl) (pv 0) dQ (dj (pv 2))
      ·exact aX (rn K rfl) (c7 (aJ aW aO)) (bt (cH K rfl) (pv 3) aW (λ_ _=>rfl))
     ·exact dD (ip K rfl) (pv 0) (dj (pv 1)) dQ
   refine ba ?_ ?_
   ·refine kh (N:=["row","between","left","p"]) (own:=1) (caps:=[4,3,0]) (i:=7) (te:=Dp K) rfl wW.nd rfl rfl ?_ ?_ ?_ ?_ ?_
    ·exact oa K rfl (bt (cH K rfl) (pv 2) aW (λ_ _=>rfl))
    ·exact(show dJ QA (bu zd) ["row","between","left","p"] 1 [4,3,0] _ from .mk' (by decide +kernel))
    ·exact λ_ _ _ _ _=>cx (i:=0) abZ rfl (.inl rfl)
    ·exact λ_ _ _ _ _=>fq
    ·intro _ _ _ _ _;unfold Dp;refine aX (dh K rfl) ?_ ?_
     ·refine aX (dh K rfl) ?_ ?_
      ·unfold Dm;refine gz (l6 K rfl) rfl T.tuple lJ ?_;refine aJ ?_ aO ?_
       ·refine iV (N:=["number","p"]) (own:=1) (caps:=[3]) rfl ?_ ?_ ?_ ?_ ?_
        ·exact oa K rfl (dD (ip K rfl) (pv 0) dQ (dj (pv 1)))
        ·exact(dJ.mk' (by kernel_rfl))
        ·exact λ_ _ _ _ _=>cx (i:=0) ab0 rfl (.inl rfl)
        ·exact λ_ _ _ _ _=>fq
        ·exact λ_ _ _ _ _=>aX iC (vO vP (pv 0)) (pv 1)
       ·rfl
      ·exact aX (rn K rfl) (c7 (aJ aW aO)) (pv 2)
     ·exact dD (ip K rfl) (pv 0) (dj (pv 1)) dQ
   refine bq ?_;exact bV (te:=bz fX (aY 6) (aY 7)) (aX eQ (pv 6) (pv 7))
  ·exact ab6 pp hf gB b1 b2 b4 he z1 z2 hR g6 q
end
section
variable{P:Program}{w:World}{K:Frag}{mg:Str→Option Value}{base:Heap}
def JF(K:Frag):Sp:=λvs H Q _=>∃(p:Int)(a b:Addr)(l m:Nat)(aN:LL)(r':Nat)(cy:LL)(e:Nat),vs=[.int p,.ref a,.ref b]∧p∈cq∧fh K H a l m aN∧fh K H b m r' cy∧l≤100∧m≤100∧r'≤100∧e≤200∧aN.length≤400∧cy.length≤400∧bo p (l+m+e) aN∧bo p (m+r'+e) cy∧
 ∀v H',aK H H'→fh K H' v l r' (oF p l m r' aN cy)→Q (.ref v) H'
noncomputable abbrev nTh:List Str:=["p","one","other","between","met"]
theorem JG:cT ["p","one","other","between","met"] ["p","one","other"] (bu CF):=de rfl rfl rfl (by decide +kernel) rfl
def ab7(K:Frag):List V→Hp→VK→Prop:=λxs H Q=>∃p ns,xs=[.ref p]∧bf K H p (List.map V.int ns)∧Q (.bl (ns.any λn=>n != 0)) H
def JH(K:Frag):TT:=MF (tB (mY (ab7 K) (bg (ib (kr K) (aY 0) iK (gS (aY 1))) cm)))
def JI(K:Frag):TE:=ib (kr K) (aY 0) (gS (aY 1)) iK
def Ds(K:Frag):TS:=cI (dz (ft K 1 1) (bX 3))
 (cI (dz (o7 (sy K (iD (tE K) [] E0 (bg (aY 0) (bg (iD (JE K) [] E0 (bg (aY 0) (bg (aY 1) (bg (aY 2) cm)))) cm)))) 1 [3] (bX 0) (JH K) (JI K)) (bX 4)) (gR (jQ (bg (ft K 1 0) (bg (ft K 2 1) (bg (mY (JD K) (bg (aY 4) cm)) cm))))))
theorem ab8{H1:Hp}{t:Addr}{RS:List V}{aN:LL}{g:List Int→Bool}{f:List Int→List Int}{cp:St}{tt:TT}{te:TE}{Q:VK}(h2:bf K H1 t RS)(h3:bj K H1 RS (aN.map cj))(hz:aN.length≤1000)
  (test:∀row ra H,row∈aN→aK H1 H→bf K H ra (row.map V.int)→∀R:Bool→Hp→Prop,(∀H',aK H H'→R (g row) H')→tt (some (.ref ra)::cp) H R)
  (step:∀row ra H,row∈aN→aK H1 H→bf K H ra (row.map V.int)→mh K te (some (.ref ra)::cp) H (f row))
  (done:∀H ZS,aK H1 H→bj K H ZS (((aN.filter g).map f).map cj)→∀p,H p=none→Q (.ref p) (upd H p (.lst ZS))) :
  ∃W:Nat→Nat→St→Hp→List V→Prop,(∃m,W 0 m (List.replicate 1 none++cp) H1 [])∧jD (qf K t) (bX 0) tt te Q W:=by
 have i7:(1000:Nat)≤sizeLine:=by decide
 have pq:=fg h3;refine we (xs:=RS) (cp:=cp) (λi H' zs=>bj K H' zs ((((aN.take i).filter g).map f).map cj)) h2 (by lia) .nil (λi H' zs h=>by rw[fg h,aZ];exact hU (List.length_filter_le _ _) (by rw[cB];exact Nat.min_le_left _ _)) ?_ ?_
 ·rintro i v H2 zs hv sm h;obtain⟨row,ra,fi,rfl,cV⟩:=jd h3 hv;have hm:=cZ fi;refine test row ra H2 hm sm (sm.bh cV) _ λH3 s3=>?_;have et:(aN.take (i+1)).filter g=(aN.take i).filter g++[row].filter g:=by
   rw[gK,fi];exact AM ..
  cases hg:g row with
  |true=>
   refine dZ (step row ra H3 hm (sm.trans s3) ((sm.trans s3).bh cV) H3 (.refl _) _ λu H4 s4 hu=>⟨⟨[_],rfl,rfl⟩,sm.trans (s3.trans s4),?_⟩);show bj K H4 _ ((((aN.take (i+1)).filter g).map f).map cj);rw[et,List.filter_cons,hg,ae rfl,List.filter_nil,dC,dC];exact(h.mono (s3.trans s4)).append (.cons (kj hu) .nil)
  |false=>
   refine dW ⟨⟨[_],rfl,rfl⟩,sm.trans s3,?_⟩;show bj K H3 _ ((((aN.take (i+1)).filter g).map f).map cj);rw[et,List.filter_cons,hg,af (by decide),List.filter_nil,j8];exact h.mono s3
 ·rintro H2 ZS sm hZ lz tJ;rw[jM (by lia)]at hZ;exact done H2 ZS sm hZ lz tJ
theorem ab9{D:Ends}{p:Int}{a b:Addr}{l m:Nat}{aN:LL}{r':Nat}{cy:LL}{e:Nat}{H:Hp}(pp:p∈cq)(hf:fh K H a l m aN)(gB:fh K H b m r' cy)(b1:l≤100)(b2:m≤100)(b4:r'≤100)(he:e≤200)(z1:aN.length≤400)(z2:cy.length≤400)(hR:bo p (l+m+e) aN)(g6:bo p (m+r'+e) cy)
  (q:∀v H',aK H H'→fh K H' v l r' (oF p l m r' aN cy)→D.rt (.ref v) H'):Ds K D [some (.int p),some (.ref a),some (.ref b),none,none] H:=by
 have i7:(1000:Nat)≤sizeLine:=by decide
 have p0:0<p:=by have:=fe p pp;lia
 have hF:=zw p0 hR g6;have RO:=gZ pp hF;have cF:=zg hF;obtain⟨t,RS,h1,h2,h3⟩:=id hf;obtain⟨t',JC,nE,wV,Dl⟩:=id gB;unfold Ds;refine jg (j:=1) rfl h1 rfl H (.refl _) _ ?_;refine⟨_,rfl,_,rfl,_,rfl,_,rfl,p,a,b,l,m,aN,r',cy,e,rfl,pp,hf,gB,b1,b2,b4,he,z1,z2,hR,g6,λlf H1 ZS s1 qv hZ=>?_⟩;refine⟨p,lf,true,ZS,pB p l m r' aN cy,m+(l+r')+e,rfl,pp,.of qv,hZ,by unfold pB;rw[bY,aZ,aZ];lia,by lia,hF,λt2 H2 DS s2 nu zr=>?_⟩;refine⟨t2,rfl,⟨_,nu⟩,?_⟩;have sA:=s1.trans s2;refine ab8 (g:=oE m) (f:=λrow=>row.drop m) (cp:=[some (.int (m:Int))]) nu zr (by lia) (λrow ra H3 eV s3 cV R Dt=>?_) (λrow ra H3 eV s3 cV=>?_) ?_
 ·have hl:=(RO.rws row eV).1;refine oD (K:=K) (ms:=row.take m) (oz rfl cV) qt (mi (nv rfl)) (wN (by lia)) H3 (.refl _) _ λu H4 s4 hu=>?_;exact⟨u,row.take m,rfl,hu,_,rfl,Dt H4 s4⟩
 ·have hl:=(RO.rws row eV).1;exact oD (K:=K) (oz rfl cV) (mi (nv rfl)) qt (wO (by lia))
 intro H3 YS s3 hY lb tL;have sB:aK H2 (upd H3 lb (.lst YS)):=s3.trans (.upd tL);have tM:(upd H3 lb (.lst YS)) lb=some (.lst YS):=aV;have qu:=hY.mono (aK.upd tL (o:=.lst YS));generalize upd H3 lb (.lst YS)=H4 at sB tM qu ⊢;have sC:=sA.trans sB;refine jg (j:=0) rfl (sC.bh h1) rfl H4 (.refl _) _ ?_;refine jg (j:=1) rfl (sC.bh nE) rfl H4 (.refl _) _ ?_;refine⟨_,rfl,lb,YS,rfl,.inl ⟨.of tM,λtt JJ=>⟨(by show 3≤sizeLine;lia),λv hv=>?_⟩⟩⟩;have sv:=(aK.upd (o:=.tup YS) JJ).trans (aK.upd hv (o:=.tup [.int (l:Int),.int (r':Int),.ref tt]));exact q v _ (sC.trans sv) ⟨tt,YS,.of aV,(aK.upd hv).bh (.of aV),qu.mono sv⟩
theorem QC{f fD fC:Addr}{fd mf fH:FuncData}(F:cA K "form_of_then" "form_of_then" CF f fd)(T:Txt mg)
  (GD:br P w K mg base bp 3 fD mf ["p","rows"] (tE K)) (kD:Kp K fD) (bD:Binds K mf ["p","rows"] []) (mD:Mg mg "reduced" fD)
  (GC:br P w K mg base bp 1 fC fH ["p","one","other"] (JE K)) (kC:Kp K fC) (bC:Binds K fH ["p","one","other"] []) (mC:Mg mg "facing" fC):br P w K mg base bp 4 f fd ["p","one","other"] (JF K):=by
 refine F.ok JG (λvs H Q E h=>?_) (λbE A outer s H vs Q E hr h=>?_)
 ·obtain⟨p,a,b,l,r,aN,r',cy,e,rfl,_⟩:=h;rfl
 ·obtain⟨p,a,b,l,m,aN,r',cy,e,rfl,pp,hf,gB,b1,b2,b4,he,z1,z2,hR,g6,q⟩:=h;have iM:dt 1 _:=hr.mono (by decide);refine⟨Ds K,?_,?_⟩
  ·unfold Ds;refine ba ?_ ?_
   ·exact bH (i:=3) JG.nd rfl (Or.inr rfl) (bt (cH K rfl) (pv 1) aW (λ_ _=>rfl))
   refine ba ?_ ?_
   ·refine kh (N:=["row","between"]) (own:=1) (caps:=[3]) (i:=4) (te:=JI K) (tt:=JH K) rfl JG.nd rfl rfl ?_ ?_ ?_ ?_ ?_
    ·exact oa K rfl (bZ GD hr rfl mD kD bD .nil cb (aJ (pv 0) (aJ (bZ GC iM rfl mC kC bC .nil cb (aJ (pv 0) (aJ (pv 1) (aJ (pv 2) aO)))) aO)))
    ·exact(show dJ nTh (bu CF) ["row","between"] 1 [3] _ from .mk' (by decide +kernel))
    ·exact λ_ _ _ _ _=>cx (i:=0) ab1 rfl (.inl rfl)
    ·intro _ _ _ _ _;unfold JH;exact yE (Ba (ux (eG (Ia K rfl rfl) rfl T.any B0 (aJ (dD (ip K rfl) (pv 0) dQ (dj (pv 1))) aO))))
    ·intro _ _ _ _ _;unfold JI;exact dD (ip K rfl) (pv 0) (dj (pv 1)) dQ
   refine bq ?_;refine bV (te:=jQ (bg (ft K 1 0) (bg (ft K 2 1) (bg (mY (JD K) (bg (aY 4) cm)) cm)))) ?_;refine c7 ?_;refine aJ ?_ ?_ ?_
   ·exact bt (cH K rfl) (pv 1) aW (λ_ _=>rfl)
   ·refine aJ ?_ ?_ ?_
    ·exact bt (cH K rfl) (pv 2) aW (λ_ _=>rfl)
    ·refine aJ ?_ aO ?_
     ·exact gz (l6 K rfl) rfl T.tuple lJ (aJ (pv 4) aO)
     ·rfl
    ·rfl
   ·rfl
  ·exact ab9 pp hf gB b1 b2 b4 he z1 z2 hR g6 q
end
section
variable{P:Program}{w:World}{K:Frag}{mg:Str→Option Value}{base:Heap}
inductive wX(K:Frag)(p:Int)(x:Str)(ps:List V)(H:Hp)(Q:VK):Prop where
 |old (h:C6 K p x ps H Q):wX K p x ps H Q
 |cC (a b:Addr) (l r:Nat) (aN:LL) (l' r':Nat) (cy:LL) (e:Nat) (hx:x="beside") (hp:ps=[.ref a,.ref b]) (hf:fh K H a l r aN) (gB:fh K H b l' r' cy) (b1:l≤100) (b2:r≤100) (b3:l'≤100) (b4:r'≤100) (he:e≤200) (z1:aN.length≤400) (z2:cy.length≤400) (hR:bo p (l+r+e) aN) (g6:bo p (l'+r'+e) cy)
   (q:∀v H',aK H H'→fh K H' v (l+l') (r+r') (cD p (pA l r l' r' aN cy))→Q (.ref v) H'):wX K p x ps H Q
 |bc (a b:Addr) (l m:Nat) (aN:LL) (r':Nat) (cy:LL) (e:Nat) (hx:x="then") (hp:ps=[.ref a,.ref b]) (hf:fh K H a l m aN) (gB:fh K H b m r' cy) (b1:l≤100) (b2:m≤100) (b4:r'≤100) (he:e≤200) (z1:aN.length≤400) (z2:cy.length≤400) (hR:bo p (l+m+e) aN) (g6:bo p (m+r'+e) cy)
   (q:∀v H',aK H H'→fh K H' v l r' (oF p l m r' aN cy)→Q (.ref v) H'):wX K p x ps H Q
def QD(K:Frag):Sp:=λvs H Q _=>∃(p:Int)(x:Str)(pa:Addr)(ps:List V),vs=[.int p,.str x,.ref pa]∧p∈cq∧H pa=some (.lst ps)∧wX K p x ps H Q
abbrev wY(K:Frag)(i:Nat)(j:Int):TE:=bz (nX K) (aY i) (tC (.int j))
abbrev Du(x:Str):TT:=ke (bz qZ (aY 1) (tC (.str x)))
def QE(K:Frag):TE:=iD (Jx K) [] E0 (bg (aY 0) (bg (wY K 2 0) cm))
def QF(K:Frag):TE:=iD (JB K) [] E0 (bg (aY 0) (bg (wY K 2 0) (bg (wY K 2 1) cm)))
def QG(K:Frag):TE:=iD (JF K) [] E0 (bg (aY 0) (bg (wY K 2 0) (bg (wY K 2 1) cm)))
def JK(K:Frag):TE:=jQ (bg (tC (.int 1)) (bg (tC (.int 1)) (bg (jQ (bg (jQ (bg (tC (.int 1)) (bg (wY K 2 0) cm))) cm)) cm)))
def JL(K:Frag)(aB:Addr):TE:=ny K (iD (Jv K) [] E0 (bg (jQ (bg (aY 1) cm)) cm)) (jQ (bg (Cr aB (iq K aB) (tC (.ref aB)) (aY 1)) cm))
def Dv(K:Frag)(aB:Addr):TS:=cI (fb (Du "back") (gR (QE K)) iR) (cI (fb (Du "beside") (gR (QF K)) iR) (cI (fb (Du "then") (gR (QG K)) iR) (cI (fb (Du "times") (gR (JK K)) iR) (gR (JL K aB)))))
theorem tw1:("beside":Str) ≠ "back":=by decide +kernel
theorem tw2:("then":Str) ≠ "back":=by decide +kernel
theorem tw3:("then":Str) ≠ "beside":=by decide +kernel
theorem aca{D:Ends}{aS aB:Addr}{p:Int}{x:Str}{pa:Addr}{ps:List V}{H:Hp}(B:px K mg aS aB)(pp:p∈cq)(nq:H pa=some (.lst ps))(A:wX K p x ps H D.rt):Dv K aB D [some (.int p),some (.str x),some (.ref pa)] H:=by
 unfold Dv;cases A with
 |cC a b l r aN l' r' cy e hx hp hf gB b1 b2 b3 b4 he z1 z2 hR g6 q=>
  subst hx hp;refine⟨_,rfl,rfl,_,rfl,qp tw1 ⟨_,rfl,rfl,_,rfl,C5 ?_⟩⟩;exact⟨_,rfl,_,rfl,pa,_,0,_,rfl,rfl,.of nq,bw (j:=0) rfl,_,rfl,pa,_,1,_,rfl,rfl,.of nq,bw (j:=1) rfl,p,a,b,l,r,aN,l',r',cy,e,rfl,pp,hf,gB,b1,b2,b3,b4,he,z1,z2,hR,g6,q⟩
 |bc a b l m aN r' cy e hx hp hf gB b1 b2 b4 he z1 z2 hR g6 q=>
  subst hx hp;refine⟨_,rfl,rfl,_,rfl,qp tw2 ⟨_,rfl,rfl,_,rfl,qp tw3 ⟨_,rfl,rfl,_,rfl,C5 ?_⟩⟩⟩;exact⟨_,rfl,_,rfl,pa,_,0,_,rfl,rfl,.of nq,bw (j:=0) rfl,_,rfl,pa,_,1,_,rfl,rfl,.of nq,bw (j:=1) rfl,p,a,b,l,m,aN,r',cy,e,rfl,pp,hf,gB,b1,b2,b4,he,z1,z2,hR,g6,q⟩
 |old A=>
  cases A with
  |back a l r e aN hx hp hf hl fY he hz hR q=>
   subst hx hp;refine⟨_,rfl,rfl,_,rfl,C5 ?_⟩;exact⟨_,rfl,_,rfl,pa,_,0,_,rfl,rfl,.of nq,bw (j:=0) rfl,p,a,l,r,e,aN,rfl,pp,hf,hl,fY,he,hz,hR,q⟩
  |times n hx hp q=>
   subst hx hp;refine⟨_,rfl,rfl,_,rfl,qp ts1 ⟨_,rfl,rfl,_,rfl,qp ts2 ⟨_,rfl,rfl,_,rfl,qp ts3 ⟨_,rfl,rfl,_,rfl,C5 ?_⟩⟩⟩⟩;refine⟨_,rfl,pa,_,0,_,rfl,rfl,.of nq,bw (j:=0) rfl,(by show 2≤sizeLine;decide),λt1 g1=>⟨(by show 1≤sizeLine;decide),λt2 g2=>⟨(by show 3≤sizeLine;decide),λt3 g3=>?_⟩⟩⟩;exact q t3 _ ((aK.upd g1).trans ((aK.upd g2).trans (.upd g3))) ⟨t2,[.ref t1],.of aV,(aK.upd g3).bh (.of aV),.cons (kj (r:=[1,n]) ((aK.upd g3).bh ((aK.upd g2).bh (.of aV)))) .nil⟩
  |box l r aN hx q=>
   obtain⟨n1,n2,n3,n4⟩:=abB _ hx;refine⟨_,rfl,rfl,_,rfl,qp n1 ⟨_,rfl,rfl,_,rfl,qp n2 ⟨_,rfl,rfl,_,rfl,qp n3 ⟨_,rfl,rfl,_,rfl,qp n4 ?_⟩⟩⟩⟩;obtain⟨_,t,e,ht⟩:=B.at_ hx;refine⟨_,rfl,(by show 1≤sizeLine;decide),λt1 g1=>⟨t1,x,l,r,aN,rfl,.of aV,hx,λv H1 s1 hv=>?_⟩⟩;refine⟨_,rfl,x,_,rfl,rfl,e,(by show 1≤sizeLine;decide),λt2 g2=>⟨v,t2,_,_,rfl,rfl,(aK.upd g2).bh hv,.of aV,(by show 2+1≤sizeLine;decide),λt3 H3 s3 oy=>?_⟩⟩;obtain⟨RS,k1,k2⟩:=ht H3;exact q t3 H3 ((aK.upd g1).trans (s1.trans ((aK.upd g2).trans s3))) ⟨t,RS,oy,k1,k2⟩
theorem QH{aS aB f fB fS fT fW:Addr}{fd tP eS oo tQ:FuncData}(F:cA K "form" "form" Iv f fd)(B:px K mg aS aB)
  (GB:br P w K mg base bp 4 fB tP ["p","one"] (Jx K)) (kB:Kp K fB) (bB:Binds K tP ["p","one"] []) (mB:Mg mg "form_of_back" fB)
  (GS:br P w K mg base bp 4 fS eS ["p","one","other"] (JB K)) (kS:Kp K fS) (bS:Binds K eS ["p","one","other"] []) (mS:Mg mg "form_of_beside" fS)
  (GT:br P w K mg base bp 4 fT oo ["p","one","other"] (JF K)) (kT:Kp K fT) (bT:Binds K oo ["p","one","other"] []) (mT:Mg mg "form_of_then" fT)
  (GW:br P w K mg base bp 5 fW tQ ["words"] (Jv K)) (kW:Kp K fW) (bW:Binds K tQ ["words"] []) (mW:Mg mg "wires" fW):br P w K mg base bp 6 f fd ["p","word","parts"] (QD K):=by
 refine F.ok abD (λvs H Q E h=>?_) (λbE A outer s H vs Q E hr h=>?_)
 ·obtain⟨p,x,pa,ps,rfl,_⟩:=h;rfl
 ·obtain⟨p,x,pa,ps,rfl,pp,nq,D⟩:=h;have JM:dt 4 _:=hr.mono (by decide);refine⟨Dv K aB,?_,?_⟩
  ·unfold Dv;refine ba ?_ ?_
   ·refine cX ?_ ?_ dy
    ·exact cM eO (pv 1) cz (cJ _)
    ·refine bq ?_;refine bV (te:=QE K) ?_;exact bZ GB JM rfl mB kB bB .nil cb (aJ (pv 0) (aJ (bt (cU K rfl) (pv 2) aW (λ_ _=>rfl)) aO))
   refine ba ?_ ?_
   ·refine cX ?_ ?_ dy
    ·exact cM eO (pv 1) cz (cJ _)
    ·refine bq ?_;refine bV (te:=QF K) ?_;exact bZ GS JM rfl mS kS bS .nil cb (aJ (pv 0) (aJ (bt (cU K rfl) (pv 2) aW (λ_ _=>rfl)) (aJ (bt (cU K rfl) (pv 2) aW (λ_ _=>rfl)) aO)))
   refine ba ?_ ?_
   ·refine cX ?_ ?_ dy
    ·exact cM eO (pv 1) cz (cJ _)
    ·refine bq ?_;refine bV (te:=QG K) ?_;exact bZ GT JM rfl mT kT bT .nil cb (aJ (pv 0) (aJ (bt (cU K rfl) (pv 2) aW (λ_ _=>rfl)) (aJ (bt (cU K rfl) (pv 2) aW (λ_ _=>rfl)) aO)))
   refine ba ?_ ?_
   ·refine cX ?_ ?_ dy
    ·exact cM eO (pv 1) cz (cJ _)
    ·refine bq ?_;refine bV (te:=JK K) ?_;unfold JK;refine c7 ?_;refine aJ aW ?_ ?_
     ·refine aJ aW ?_ ?_
      ·refine aJ ?_ aO ?_
       ·refine c7 ?_;refine aJ ?_ aO ?_
        ·refine c7 ?_;refine aJ aW ?_ ?_
         ·refine aJ ?_ aO ?_
          ·exact bt (cU K rfl) (pv 2) aW (λ_ _=>rfl)
          ·rfl
         ·exact JA
        ·exact Qo
       ·exact Qo
      ·exact JA
     ·exact JA
   refine bq ?_;refine bV (te:=JL K aB) ?_;unfold JL;refine aX (dh K rfl) ?_ ?_
   ·exact bZ GW hr rfl mW kW bW .nil cb (aJ (c7 (aJ (pv 1) aO)) aO)
   ·refine c7 ?_;refine aJ ?_ aO ?_
    ·exact Il B.abx (su (v:=.ref _) rfl B.nmB rfl) (pv 1) (λ_ _=>rfl)
    ·rfl
  ·exact aca B pp nq D
end
inductive Drw where
 |box (x:Str) (l r:Nat) (aN:LL)
 |times (n:Int)
 |back (d:Drw)
 |cC (a b:Drw)
 |bc (a b:Drw)
namespace Drw
noncomputable def aQ:Drw→List V
 |box x _ _ _=>[.str x]
 |times n=>[.str "times",.int n]
 |back d=>.str "back"::d.aQ
 |cC a b=>.str "beside"::(a.aQ++b.aQ)
 |bc a b=>.str "then"::(a.aQ++b.aQ)
noncomputable def aU:Drw→Nat×Nat
 |box _ l r _=>(l,r)
 |times _=>(1,1)
 |back d=>(d.aU.2,d.aU.1)
 |cC a b=>(a.aU.1+b.aU.1,a.aU.2+b.aU.2)
 |bc a b=>(a.aU.1,b.aU.2)
noncomputable abbrev dG(d:Drw):Nat:=d.aU.1
noncomputable abbrev df(d:Drw):Nat:=d.aU.2
def wf(p:Int):Drw→Prop
 |box x l r aN=>(x,l,r,aN)∈iN
 |times n=>0≤n∧n<p
 |back d=>d.wf p
 |cC a b=>a.wf p∧b.wf p
 |bc a b=>a.wf p∧b.wf p∧a.df=b.dG
noncomputable def aN(p:Int):Drw→LL
 |box _ _ _ aN=>aN
 |times n=>[[1,n]]
 |back d=>cD p ((d.aN p).map (jX d.dG d.df))
 |cC a b=>cD p (pA a.dG a.df b.dG b.df (a.aN p) (b.aN p))
 |bc a b=>oF p a.dG a.df b.df (a.aN p) (b.aN p)
theorem pos(d:Drw):1≤d.aQ.length:=by cases d<;>simp[aQ]
end Drw
theorem QI:∀e∈iN,e.2.1≤2∧e.2.2.1≤2∧e.2.2.2.length≤2∧∀r∈e.2.2.2,r.length=e.2.1+e.2.2.1∧∀x∈r,0≤x∧x<2:=by decide +kernel
namespace Drw
theorem pd{p:Int}:∀{d:Drw},d.wf p→d.dG≤d.aQ.length+1∧d.df≤d.aQ.length+1
 |box x l r aN,h=>by
  obtain⟨h1,h2,_⟩:=QI _ h;exact⟨h1,h2⟩
 |times n,_=>by simp[dG,df,aU,aQ]
 |back d,h=>by
  have:=pd (d:=d) h
  simp only[dG,df,aU,aQ,eE]at this ⊢;lia
 |cC a b,h=>by
  have h1:=pd (d:=a) h.1;have h2:=pd (d:=b) h.2;simp only[dG,df,aU,aQ,eE,bY]at h1 h2 ⊢;lia
 |bc a b,h=>by
  have h1:=pd (d:=a) h.1;have h2:=pd (d:=b) h.2.1;simp only[dG,df,aU,aQ,eE,bY]at h1 h2 ⊢;lia
def sm:Drw→Prop
 |back d=>d.sm
 |cC a b=>a.sm∧b.sm∧a.dG+b.dG≤100∧a.df+b.df≤100
 |bc a b=>a.sm∧b.sm
 |_=>True
theorem good{p:Int}(pp:p∈cq):∀{d:Drw},d.wf p→d.sm→d.dG≤100∧d.df≤100∧(d.aN p).length≤400∧bo p (d.dG+d.df) (d.aN p)
 |box x l r aN,h,_=>by
  obtain⟨p2,_⟩:=fe p pp;obtain⟨h1,h2,h3,h4⟩:=QI _ h;refine⟨hU h1 (by decide),hU h2 (by decide),hU h3 (by decide),λr hr=>⟨(h4 r hr).1,λx hx=>?_⟩⟩
  have:=(h4 r hr).2 x hx
  lia
 |times n,h,_=>by
  obtain⟨p2,_⟩:=fe p pp;refine⟨by show 1≤100;decide,by show 1≤100;decide,by show 1≤400;decide,λr hr=>?_⟩;rw[dP.mp hr];refine⟨rfl,λx hx=>?_⟩;rcases(eW.mp hx)with z|z
  ·subst z;lia
  ·rw[dP.mp z];exact h
 |back d,h,hl=>by
  obtain⟨a1,a2,a3,a4⟩:=good pp (d:=d) h hl;have hS:bo p (d.df+d.dG) ((d.aN p).map (jX d.dG d.df)):=λx hx=>by
   obtain⟨y,hy,e⟩:=cP.mp hx;rw[← e];exact C4 (x:=0) (a4 y hy)
  have:=zg hS
  exact⟨a2,a1,hU this (by lia),(gZ pp hS).rws⟩
 |cC a b,h,hl=>by
  obtain⟨p2,_⟩:=fe p pp;obtain⟨a1,a2,a3,a4⟩:=good pp (d:=a) h.1 hl.1;obtain⟨b1,b2,b3,b4⟩:=good pp (d:=b) h.2 hl.2.1;have hS:=Dg (x:=0) (by lia) a4 b4;have hz:=zg hS;have h3:=hl.2.2.1;have h4:=hl.2.2.2;exact⟨h3,h4,hU hz (by lia),(gZ pp hS).rws⟩
 |bc a b,h,hl=>by
  obtain⟨a1,a2,a3,a4⟩:=good pp (d:=a) h.1 hl.1;obtain⟨b1,b2,b3,b4⟩:=good pp (d:=b) h.2.1 hl.2;have b4:bo p (a.df+b.df) (b.aN p):=by rw[h.2.2];exact b4
  have hz:=abX (x:=0) pp a4 b4;exact⟨a1,b2,hU hz (by lia),Qz (x:=0) pp a4 b4⟩
end Drw
inductive Itm where
 |num (n:Int)
 |cW (d:Drw)
namespace Itm
noncomputable def aQ:Itm→List V
 |num n=>[.int n]
 |cW d=>d.aQ
noncomputable def head:Itm→V
 |num n=>.int n
 |cW (.box x _ _ _)=>.str x
 |cW (.times _)=>.str "times"
 |cW (.back _)=>.str "back"
 |cW (.cC _ _)=>.str "beside"
 |cW (.bc _ _)=>.str "then"
noncomputable def kids:Itm→List Itm
 |num _=>[]
 |cW (.box _ _ _ _)=>[]
 |cW (.times n)=>[num n]
 |cW (.back d)=>[cW d]
 |cW (.cC a b)=>[cW a,cW b]
 |cW (.bc a b)=>[cW a,cW b]
theorem JN(t:Itm):t.aQ=t.head::t.kids.flatMap aQ:=by
 cases t with
 |num n=>rfl
 |cW d=>cases d<;>simp[aQ,head,kids,Drw.aQ]
theorem pos(t:Itm):1≤t.aQ.length:=by rw[JN];simp
def wf(p:Int):Itm→Prop
 |num _=>True
 |cW d=>d.wf p∧d.sm
theorem acb{p:Int}{t:Itm}(h:t.wf p):∀u∈t.kids,u.wf p:=by
 cases t with
 |num n=>intro u hu;cases hu
 |cW d=>
  obtain⟨h1,h2⟩:=h;cases d with
  |box=>intro u hu;cases hu
  |times n=>intro u hu;rw[dP.mp hu];exact True.intro
  |back d=>
   intro u hu;rw[dP.mp hu];exact⟨h1,h2⟩
  |cC a b=>
   intro u hu;rcases(eW.mp hu)with z|z
   ·rw[z];exact⟨h1.1,h2.1⟩
   ·rw[dP.mp z];exact⟨h1.2,h2.2.1⟩
  |bc a b=>
   intro u hu;rcases(eW.mp hu)with z|z
   ·rw[z];exact⟨h1.1,h2.1⟩
   ·rw[dP.mp z];exact⟨h1.2.1,h2.2⟩
end Itm
noncomputable def gg:List Itm→Nat→List Itm
 |ts,0=>ts
 | [],_+1=>[]
 |t::ts,i+1=>gg (t.kids++ts) i
theorem JO(i:Nat):gg [] i=[]:=by cases i<;>rfl
theorem Dw:∀(i:Nat)(ts:List Itm),(gg ts i).flatMap Itm.aQ=(ts.flatMap Itm.aQ).drop i
 |0,ts=>rfl
 |i+1,[]=>rfl
 |i+1,t::ts=>by
  show(gg (t.kids++ts) i).flatMap Itm.aQ=_;rw[Dw i,List.flatMap_append,List.flatMap_cons,Itm.JN,qK,List.drop_succ_cons]
theorem QJ:∀(i:Nat)(ts:List Itm),gg ts (i+1)=gg (gg ts i) 1
 |0,ts=>rfl
 |i+1,[]=>by rw[JO,JO];rfl
 |i+1,t::ts=>by
  show gg (t.kids++ts) (i+1)=gg (gg (t.kids++ts) i) 1;exact QJ i _
theorem JP{p:Int}:∀(i:Nat){ts:List Itm},(∀t∈ts,t.wf p)→∀t∈gg ts i,t.wf p
 |0,ts,h=>h
 |i+1,[],h=>by intro t ht;rw[JO]at ht;cases ht
 |i+1,t::ts,h=>JP i (ts:=t.kids++ts) λu hu=>by
  rcases(dI.mp hu)with z|z
  ·exact Itm.acb (h t ek) u z
  ·exact h u (iy _ z)
theorem wZ{ts:List Itm}{i:Nat}(h:i<(ts.flatMap Itm.aQ).length):∃t r,gg ts i=t::r∧(ts.flatMap Itm.aQ)[i]?=some t.head∧gg ts (i+1)=t.kids++r:=by
 have e:=Dw i ts;cases hs:gg ts i with
 |nil=>
  rw[hs]at e
  have:=ai List.length e
  simp only[List.flatMap_nil,so,da]at this;lia
 |cons t r=>
  refine⟨t,r,rfl,?_,by rw[QJ,hs];rfl⟩;rw[hs,List.flatMap_cons,Itm.JN,qK]at e;have z:((ts.flatMap Itm.aQ).drop i)[0]?=some t.head:=by rw[← e];rfl
  rwa[si,Nat.add_zero]at z
theorem JQ:∀ts:List Itm,ts.length≤(ts.flatMap Itm.aQ).length
 | []=>j7 _
 |t::ts=>by
  have:=JQ ts
  have:=t.pos
  rw[List.flatMap_cons,bY,eE];lia
theorem QK{ts:List Itm}:gg ts (ts.flatMap Itm.aQ).length=[]:=by
 have e:=JQ (gg ts (ts.flatMap Itm.aQ).length);rw[Dw,List.drop_length]at e;exact uk (Nat.le_zero.mp e)
theorem QL{ts:List Itm}{i:Nat}:(gg ts i).length≤(ts.flatMap Itm.aQ).length:=by
 have e:=JQ (gg ts i);rw[Dw,da]at e;lia
end S21
namespace S21
open PySem L2 Bw
variable{D L:LL}{a b:Drw}{f fF fM:Addr}{fd ox jf:FuncData}{j m n r' x:Nat}{ls:List Nat}{p:Int}{row:List Int}{s:Nat→Option (Int×Nat)}{u v:Fn}
theorem QM:∀e∈iN,nj e.1=0:=Qe
theorem QN:nj "beside"=2:=by decide +kernel
theorem QO:nj "then"=2:=by decide +kernel
theorem acd:∀e∈iN,lF (.str e.1) (.str "late")=false:=by decide +kernel
theorem Dx:lF (.str "back") (.str "late")=false∧lF (.str "beside") (.str "late")=false∧lF (.str "then") (.str "late")=false∧lF (.str "times") (.str "late")=false:=by decide +kernel
theorem ace(n:Int):lF (.int n) (.str "late")=false:=rfl
theorem Drw.w6{p:Int}:∀{d:Drw},d.wf p→∀v∈d.aQ,qj v=true∧lF v (.str "late")=false
 | .box x l r aN,h=>λv hv=>by
  rw[dP.mp hv];exact⟨rfl,acd _ h⟩
 | .times n,_=>λv hv=>by
  rcases(eW.mp hv)with z|z
  ·rw[z];exact⟨rfl,Dx.2.2.2⟩
  ·rw[dP.mp z];exact⟨rfl,ace n⟩
 | .back d,h=>λv hv=>by
  rcases(eW.mp hv)with z|z
  ·rw[z];exact⟨rfl,Dx.1⟩
  ·exact Drw.w6 (d:=d) h v z
 | .cC a b,h=>λv hv=>by
  rcases(eW.mp hv)with z|z
  ·rw[z];exact⟨rfl,Dx.2.1⟩
  ·rcases(dI.mp z)with z|z
   ·exact Drw.w6 (d:=a) h.1 v z
   ·exact Drw.w6 (d:=b) h.2 v z
 | .bc a b,h=>λv hv=>by
  rcases(eW.mp hv)with z|z
  ·rw[z];exact⟨rfl,Dx.2.2.1⟩
  ·rcases(dI.mp z)with z|z
   ·exact Drw.w6 (d:=a) h.1 v z
   ·exact Drw.w6 (d:=b) h.2.1 v z
def zx(K:Frag)(p:Int)(H:Hp):Itm→V→Prop
 | .num n,v=>v=.int n
 | .cW d,v=>∃a,v=.ref a∧fh K H a d.dG d.df (d.aN p)
inductive jh(K:Frag)(p:Int)(H:Hp):List Itm→List V→Prop where
 |nil:jh K p H [] []
 |cons {t:Itm} {ts:List Itm} {v:V} {vs:List V} (h:zx K p H t v) (r:jh K p H ts vs):jh K p H (t::ts) (v::vs)
section
variable{K:Frag}{p:Int}{H H':Hp}
theorem zx.tup{t:Itm}{v:V}(h:zx K p H t v)(s:gQ H H'):zx K p H' t v:=by
 cases t with
 |num n=>exact h
 |cW d=>
  obtain⟨a,e,hf⟩:=h;exact⟨a,e,hf.tup s⟩
theorem jh.tup{ts:List Itm}{vs:List V}(h:jh K p H ts vs)(s:gQ H H'):jh K p H' ts vs:=by
 induction h with
 |nil=>exact .nil
 |cons h r ih=>exact .cons (h.tup s) ih
theorem jh.len{ts:List Itm}{vs:List V}(h:jh K p H ts vs):vs.length=ts.length:=by
 induction h with
 |nil=>rfl
 |cons h r ih=>rw[eE,eE,ih]
theorem jh.split:∀{ts us:List Itm}{vs:List V},jh K p H (ts++us) vs→∃xs ys,vs=xs++ys∧jh K p H ts xs∧jh K p H us ys
 | [],us,vs,h=>⟨[],vs,rfl,.nil,h⟩
 |t::ts,us,_,.cons h r=>by
  obtain⟨xs,ys,e,h1,h2⟩:=jh.split (ts:=ts) r;exact⟨_::xs,ys,by rw[e];rfl,.cons h h1,h2⟩
end
def QP(K:Frag)(Pt:Addr):Sp:=λvs H Q _=>∃(p:Int)(aw:Addr)(d:Drw),vs=[.int p,.ref aw]∧p∈cq∧d.wf p∧d.sm∧d.aQ.length≤900000∧bf K H aw d.aQ∧jV H Pt (qq lL) qr∧
 ∀td aR v H',aK (del Pt H) H'→jV H' Pt (qq lL) qr→H' td=some (.dK aR)→eJ aR (Sum.inl 0)=some (.ref v)→fh K H' v d.dG d.df (d.aN p)→Q (.ref td) H'
theorem QQ{c Pt fL fA:Addr}{oq jt:FuncData}(F:cA K "forms" "forms" kz f fd)(iQ:fd.code=.ref c)(C:CodeHd base c Pt)(BB:tm mg base)
  (GL:br P w K mg base bp 1 fL oq ["words"] (Qp K)) (kL:Kp K fL) (bL:Binds K oq ["words"] []) (mL:Mg mg "refuse_late" fL)
  (GA:tq P w K mg base 8 fA jt ["words","made"] (Jn 7 P w K mg base)) (kA:Kp K fA) (bA:Binds K jt ["words","made"] []) (mA:Mg mg "all_folded" fA)
  (GM:br P w K mg base bp 6 fM jf ["p","word","parts"] (QD K)) (kM:Kp K fM) (bM:Binds K jf ["p","word","parts"] []) (mM:Mg mg "form" fM) :
  br P w K mg base bp 9 f fd ["p","words"] (QP K Pt):=by
 refine F.okC abM (λvs H Q E h=>?_) (λbE A outer s H vs Q E hcv hr h=>?_)
 ·obtain⟨p,aw,d,rfl,_⟩:=h;rfl
 ·obtain⟨p,aw,d,rfl,pp,hd,va,vb,hw,pC,q⟩:=h;have AW:bE=.ref c:=hcv.symm.trans iQ;subst AW;have iM:dt 1 _:=hr.mono (by decide);refine⟨_,ba (mH (bZ GL iM rfl mL kL bL .nil cb (aJ (pv 1) aO))) (bq (bV (Cn GA hr rfl mA kA bA (aJ (pv 1) (aJ (aaN (c:=c) (Pt:=Pt) (cl:=zu s.heap.objs.size) rfl C BB abJ) aO))))),?_⟩;obtain⟨pst,hP⟩:=pC.tab;have w8:=Drw.w6 hd;refine⟨_,rfl,aw,_,rfl,hw,jN.mpr λv hv=>(w8 v hv).1,List.any_eq_false.mpr λv hv=>by rw[(w8 v hv).2];decide,?_⟩;refine⟨_,rfl,pC,λfl HL Ic vc acf hLF aI sI I=>?_⟩;have sL:=Ck.same vc;have vK:∃u,RelV (.int p) u∧sI.heap.IsCell (zt s.heap.objs.size) (some u)∧HL (zt s.heap.objs.size)=none:=by
   obtain⟨mm,hn,hl⟩:=I.loc;obtain⟨u,r,l⟩:=hl 0 "p" (.int p) rfl rfl (.inr (.inl rfl));rcases l with⟨iT,_⟩|⟨_,c',iJ,vK⟩
   ·exact absurd (show(bu kz).names.lookup ("p":Str)=some .local from iT) (by decide +kernel)
   ·have sJ:(cellsFrom (s.heap.objs.size+1) (bu kz).names []).lookup ("p":Str)=some c':=iJ;rw[Qr]at sJ;cases sJ;exact⟨u,r,vK,I.oX _ _ iJ⟩
  have ew:([Itm.cW d]).flatMap Itm.aQ=d.aQ:=by simp[Itm.aQ]
  have JR:∀t∈[Itm.cW d],t.wf p:=λt ht=>by rw[dP.mp ht];exact⟨hd,va⟩
  refine⟨aw,fl,d.aQ,λvs H' Q=>∃(i:Int)(x:Str)(pa:Addr)(ps:List V),vs=[.int i,.str x,.ref pa]∧H' pa=some (.lst ps)∧wX K p x ps H' Q,λi vs H=>jh K p H (gg [.cW d] i) vs.reverse,rfl,?_⟩;refine⟨sL.bh (bf.del hP hw),vb,?_,?_,λi vs H1 H2 h tp=>h.tup tp,λi vs H1 h=>?_,λi hi=>?_,λi n vs H1 h g=>?_,λi x vs H1 h g=>?_,?_,λtd aR vs v H' s' h1 h2 h3=>?_⟩
  ·refine abu (k:=6) (names:=["p"]) (caps:=[.int p]) (abK I.ok.inj) hLF (λ_ _ _ us hu=>match us,hu with | [_,_,_],_=>rfl) (λj y hj=>?_) rfl (λvs H' Q ⟨i,x,pa,ps,e,_⟩=>by rw[e];rfl) (λc' A' aff s' H' vs Q' fY iE hQ'=>?_)
   ·match j,hj with
    |0,hj=>
     have e : "p"=y:=c8 hj;subst e;obtain⟨u,r,h4,h5⟩:=vK;exact⟨_,_,u,rfl,rfl,r,h4,h5⟩
    |j+1,hj=>simp at hj
   ·obtain⟨i,x,pa,ps,rfl,nq,hF⟩:=hQ';refine⟨_,bZ GM fY rfl mM kM bM .nil cb (aJ (pv 3) (aJ (pv 1) (aJ (pv 2) aO))),?_⟩;exact⟨_,rfl,_,rfl,_,rfl,p,x,pa,ps,rfl,pp,nq,hF⟩
  ·show jh K p HL (gg [.cW d] d.aQ.length) _;have e:=QK (ts:=[.cW d]);rw[ew]at e;rw[e];exact .nil
  ·have e:=h.len;have z:=QL (ts:=[.cW d]) (i:=i);rw[List.length_reverse]at e;rw[ew]at z;lia
  ·obtain⟨t,r,e1,e2,e3⟩:=wZ (ts:=[.cW d]) (i:=i) (by rw[ew];exact hi);rw[ew]at e2;rw[e2];cases t with
   |num n=>exact .inr ⟨n,rfl⟩
   |cW d'=>cases d'<;>exact .inl ⟨_,rfl⟩
  ·obtain⟨t,r,e1,e2,e3⟩:=wZ (ts:=[.cW d]) (i:=i) (by rw[ew];exact(dB.mp h).1);rw[ew,h]at e2;cases t with
   |num m=>
    have e2:n=m:=V.int.inj (c8 e2);subst e2;have g:jh K p H1 (gg [.cW d] (i+1)) vs.reverse:=g;rw[e3]at g;show jh K p H1 (gg [.cW d] i) (vs++[V.int n]).reverse;rw[e1,vF];exact .cons rfl g
   |cW d'=>cases d'<;>cases e2
  ·obtain⟨t,r,e1,e2,e3⟩:=wZ (ts:=[.cW d]) (i:=i) (by rw[ew];exact(dB.mp h).1);rw[ew,h]at e2;have zy:t.wf p:=JP i JR t (by rw[e1];exact ek);have g:jh K p H1 (gg [.cW d] (i+1)) vs.reverse:=g;rw[e3]at g;obtain⟨xs,ys,ev,g1,g2⟩:=g.split;have JS:vs=ys.reverse++xs.reverse:=by rw[← vF,← ev,List.reverse_reverse]
   refine⟨ys.reverse,xs,JS,?_,?_⟩
   ·have el:=g1.len;rw[el];cases t with
    |num m=>cases e2
    |cW d'=>
     cases d' with
     |box x' l' r' cy=>
      have e2:x=x':=V.str.inj (c8 e2);subst e2;exact(QM _ zy.1).symm
     |times n=>have e2:x=_:=V.str.inj (c8 e2);subst e2;exact Qv.symm
     |back d'=>have e2:x=_:=V.str.inj (c8 e2);subst e2;exact Qu.symm
     |cC a b=>have e2:x=_:=V.str.inj (c8 e2);subst e2;exact QN.symm
     |bc a b=>have e2:x=_:=V.str.inj (c8 e2);subst e2;exact QO.symm
   ·intro pa H2 Q' tp hp hq;refine⟨_,_,pa,_,rfl,hp,?_⟩;have g1:=g1.tup tp;have g2:=g2.tup tp;have fin:∀v H3,aK H2 H3→zx K p H3 t v→Q' v H3:=λv H3 s3 hv=>hq v H3 s3 (by
     show jh K p H3 (gg [.cW d] i) _;rw[e1,vF,List.reverse_reverse];exact .cons hv (g2.tup s3.tup))
    cases t with
    |num m=>cases e2
    |cW d'=>
     obtain⟨qw,cR⟩:=zy;cases d' with
     |box x' l' r' cy=>
      have e2:x=x':=V.str.inj (c8 e2);subst e2;exact .old (.box _ _ _ qw λv H3 s3 hv=>fin _ H3 s3 ⟨v,rfl,hv⟩)
     |times n=>
      have e2:x=_:=V.str.inj (c8 e2);subst e2;cases g1 with
      |cons h1 r1=>
       cases r1;have h1:_=V.int n:=h1;subst h1;exact .old (.times n rfl rfl λv H3 s3 hv=>fin _ H3 s3 ⟨v,rfl,hv⟩)
     |back d'=>
      have e2:x=_:=V.str.inj (c8 e2);subst e2;cases g1 with
      |cons h1 r1=>
       cases r1;obtain⟨a,rfl,hf⟩:=h1;obtain⟨b1,b2,b3,b4⟩:=Drw.good pp (d:=d') qw cR;exact .old (.back a _ _ 0 _ rfl rfl hf b1 b2 (by lia) (by lia) b4 λv H3 s3 hv=>fin _ H3 s3 ⟨v,rfl,hv⟩)
     |cC a b=>
      have e2:x=_:=V.str.inj (c8 e2);subst e2;cases g1 with
      |cons h1 r1=>
       cases r1 with
       |cons h2 r2=>
        cases r2;obtain⟨a1,rfl,hf⟩:=h1;obtain⟨a2,rfl,ju⟩:=h2;obtain⟨b1,b2,b3,b4⟩:=Drw.good pp (d:=a) qw.1 cR.1;obtain⟨c1,c2,c3,c4⟩:=Drw.good pp (d:=b) qw.2 cR.2.1;exact .cC a1 a2 _ _ _ _ _ _ 0 rfl rfl hf ju b1 b2 c1 c2 (by lia) b3 c3 b4 c4 λv H3 s3 hv=>fin _ H3 s3 ⟨v,rfl,hv⟩
     |bc a b=>
      have e2:x=_:=V.str.inj (c8 e2);subst e2;cases g1 with
      |cons h1 r1=>
       cases r1 with
       |cons h2 r2=>
        cases r2;obtain⟨a1,rfl,hf⟩:=h1;obtain⟨a2,rfl,ju⟩:=h2;obtain⟨b1,b2,b3,b4⟩:=Drw.good pp (d:=a) qw.1 cR.1;obtain⟨c1,c2,c3,c4⟩:=Drw.good pp (d:=b) qw.2.1 cR.2;rw[← qw.2.2]at ju c4;exact .bc a1 a2 _ _ _ _ _ 0 rfl rfl hf ju b1 b2 c2 (by lia) b3 c3 b4 c4 λv H3 s3 hv=>fin _ H3 s3 ⟨v,rfl,hv⟩
  ·cases d<;>exact⟨_,rfl⟩
  ·have h3:jh K p H' [.cW d] (vs++[v]).reverse:=h3;rw[vF]at h3;cases h3 with
   |cons hv r=>
    obtain⟨a,rfl,hf⟩:=hv;exact q td aR a H' (sL.trans s') (acf.mono s') h1 h2 hf
def QR(K:Frag)(Pt:Addr):Sp:=λvs H Q _=>∃(p:Int)(aw:Addr)(d:Drw),vs=[.int p,.ref aw]∧p∈cq∧d.wf p∧d.sm∧d.aQ.length≤900000∧bf K H aw d.aQ∧jV H Pt (qq lL) qr∧
 ∀v RS H',aK (del Pt H) H'→jV H' Pt (qq lL) qr→bf K H' v RS→bj K H' RS ((d.aN p).map cj)→Q (.ref v) H'
theorem QS{Pt:Addr}(F:cA K "plain" "plain" Ir f fd)
  (GF:br P w K mg base bp 9 fF ox ["p","words"] (QP K Pt)) (kF:Kp K fF) (bF:Binds K ox ["p","words"] []) (mF:Mg mg "forms" fF):br P w K mg base bp 10 f fd ["p","words"] (QR K Pt):=by
 refine F.ok abN (λvs H Q E h=>?_) (λbE A outer s H vs Q E hr h=>?_)
 ·obtain⟨p,aw,d,rfl,_⟩:=h;rfl
 ·obtain⟨p,aw,d,rfl,pp,hd,va,vb,hw,pC,q⟩:=h;refine⟨_,bq (bV (bt (cH K rfl) (Cg (GY hr) (bZ GF hr rfl mF kF bF .nil cb (aJ (pv 0) (aJ (pv 1) aO))) aW (λ_ _=>rfl)) aW (λ_ _=>rfl))),?_⟩;refine⟨_,rfl,_,rfl,p,aw,d,rfl,pp,hd,va,vb,hw,pC,λtd aR v H' s' hL CV hv hF=>?_⟩;obtain⟨tt,RS,h1,h2,h3⟩:=hF;exact⟨td,_,rfl,hv▸oi.k (k:=Sum.inl 0) CV,v,_,2,_,rfl,rfl,h1,bw (j:=2) rfl,q tt RS H' s' hL h2 h3⟩
noncomputable def cY(s:Nat→Option (Int×Nat))(f:Fn):Fn:=λj=>match s j with
 |some (a,i)=>a*f i
 |none=>0
theorem acg(h:gT p u v):gT p (cY s u) (cY s v):=λj=>by
 unfold cY;cases s j with
 |none=>exact⟨0,by simp⟩
 |some a=>
  have:p∣a.1*(u a.2-v a.2):=AJ (h a.2)
  show p∣a.1*u a.2-a.1*v a.2;rwa[oT]at this
theorem ach{R R':Fn→Prop}(h:∀r,R r→Sp p R' (cY s r))(hv:Sp p R v):Sp p R' (cY s v):=by
 induction hv with
 |zero=>exact Sp.zero.of_eq λj=>by unfold cY;cases s j<;>simp
 | @add v r c _ hr ih=>
  refine(ih.plus c (h r hr)).of_eq λj=>?_;unfold cY;cases s j with
  |none=>simp
  |some a=>
   show a.1*v a.2+c*(a.1*r a.2)=a.1*(v a.2+c*r a.2);rw[Int.mul_add,← Int.mul_assoc,← Int.mul_assoc,sj c]
 |e8 _ e ih=>exact .e8 ih (acg e)
noncomputable def lM(w:Fn)(m:Nat):LL→List Nat→Fn
 |r::D,l::ls=>λj=>lM w m D ls j+(if m≤l then w l else 0)*fn r j
 |_,_=>λ_=>0
theorem QT{l:Nat}{r:List Int}(h:∀j,j<l→r.getD j 0=0)(hm:m≤l):oE m r=true:=by
 unfold oE;rw[Bool.not_eq_true',List.any_eq_false];intro x hx;obtain⟨i,hi,rfl⟩:=my.mp hx;rw[cB]at hi
 have:=h i (by lia)
 rw[List.getElem_take];rw[cO,cf (by lia)]at this;have e:r[i]=0:=this;simp[e]
theorem QU{p:Int}{w:Fn}{m:Nat}:∀(D:LL)(ls:List Nat),(∀(i:Nat)(r:List Int)(l:Nat),D[i]?=some r→ls[i]?=some l→∀j,j<l→r.getD j 0=0)→Sp p (RS (D.filter (oE m))) (lM w m D ls)
 | [],_,_=>.zero
 |_::_,[],_=>.zero
 |r::D,l::ls,h=>by
  have ih:=QU (p:=p) (w:=w) (m:=m) D ls λi r' l' h1 h2=>h (i+1) r' l' (by simpa using h1) (by simpa using h2);have sub:Sp p (RS ((r::D).filter (oE m))) (lM w m D ls):=ih.trans λf ⟨q,hq,e⟩=>.mem ⟨q,by
   rw[List.filter_cons];split
   ·exact iy _ hq
   ·exact hq,e⟩
  unfold lM;by_cases hm:m≤l
  ·simp only[hm,if_true];refine Sp.add (w l) sub ⟨r,?_,rfl⟩;rw[List.filter_cons,QT (h 0 r l rfl rfl) hm,ae rfl];exact ek
  ·simp only[hm,if_false,Int.zero_mul,oU];exact sub
theorem QW{w:Fn}{m j:Nat}:∀(D:LL)(ls:List Nat),(∀(i:Nat)(r:List Int),D[i]?=some r→r.getD j 0=0)→lM w m D ls j=0
 | [],_,_=>rfl
 |_::_,[],_=>rfl
 |r::D,l::ls,h=>by
  show lM w m D ls j+_*r.getD j 0=0;rw[QW D ls λi r' hr=>h (i+1) r' (by simpa using hr),h 0 r rfl];simp
theorem aci{w:Fn}{k:Nat}:∀(D:LL)(ls:List Nat),D.length=ls.length→ls[k]?=some j→(∀(i:Nat)(r:List Int),D[i]?=some r→r.getD j 0=if i=k then 1 else 0)→lM w m D ls j=if m≤j then w j else 0:=by
 induction k with
 |zero=>
  intro D ls hl hk h
  match D,ls,hl,hk with
  | [],[],_,hk=>simp at hk
  |r::D,l::ls,_,hk=>
   cases hk;show lM w m D ls j+(if m≤j then w j else 0)*r.getD j 0=_
   rw[QW D ls λi r' hr=>by simpa using h (i+1) r' (by simpa using hr),h 0 r rfl];simp
 |succ k ih=>
  intro D ls hl hk h
  match D,ls,hl,hk with
  | [],[],_,hk=>simp at hk
  |r::D,l::ls,hl,hk=>
   show lM w m D ls j+_*r.getD j 0=_;rw[ih D ls (by simpa using hl) (by simpa using hk) λi r' hr=>by simpa using h (i+1) r' (by simpa using hr),h 0 r rfl];simp
theorem acj{w:Fn}(E:gI n n D ls)(h:Sp p (RS D) w)(hz:∀j,j<m→p∣w j):Sp p (RS (D.filter (oE m))) w:=by
 have s1:Sp p (RS (D.filter (oE m))) (lM w m D ls):=QU D ls λi r l h1 h2=>(E.one i r l h1 h2).2;have s2:Sp p (RS D) (lM w m D ls):=s1.trans λf ⟨q,hq,e⟩=>.mem ⟨q,(pW.mp hq).1,e⟩;have s3:Sp p (RS D) (λj=>w j + -1*lM w m D ls j):=h.plus (-1) s2;have z:=E.lead.zero (E.sp s3) λl r hl hr=>by
  obtain⟨i,h1,h2⟩:=sY hr;have e:=aci (w:=w) (m:=m) (k:=i) D ls E.len.symm h2 λi' r' fY=>by
   by_cases ei:i'=i
   ·subst ei;rw[ae rfl];exact(E.one i' r' l fY h2).1
   ·rw[af ei];exact E.alone i i' r' l (λz=>ei z.symm) fY h2
  show p∣w l + -1*lM w m D ls l;rw[e];by_cases hm:m≤l
  ·rw[ae hm];exact⟨0,by lia⟩
  ·rw[af hm]
   have:=hz l (by lia)
   simpa using this
 refine .e8 s1 λj=>?_
 have:=Int.dvd_neg.mpr (z j)
 rwa[show -(w j + -1*lM w m D ls j)=lM w m D ls j-w j by lia]at this
theorem QX{a b:List Int}:(a++b).getD j 0=if j<a.length then a.getD j 0 else b.getD (j-a.length) 0:=by
 by_cases h:j<a.length
 ·rw[ae h,cO,ia h,cO]
 ·rw[af h,cO,iI (by lia),cO]
theorem ack{a:List Int}{k:Nat}:(a.take k).getD j 0=if j<k then a.getD j 0 else 0:=by
 rw[cO,List.getElem?_take];by_cases h:j<k
 ·rw[ae h,ae h,cO]
 ·rw[af h,af h];rfl
theorem xa{a:List Int}{k:Nat}:(a.drop k).getD j 0=a.getD (k+j) 0:=by
 rw[cO,si,cO]
theorem QY{k:Nat}:(List.replicate k (0:Int)).getD j 0=0:=by
 rw[cO,FE];split<;>rfl
noncomputable def ji(l m r':Nat)(j:Nat):Option (Int×Nat):=if j<m then some (1,l+j)else if j<m+l then some (1,j-m)else if j<m+l+r' then none else some (1,j-r')
noncomputable def jH(l m:Nat)(j:Nat):Option (Int×Nat):=if j<m then some (-1,j)else if j<m+l then none else some (1,j-l)
noncomputable def xb(m:Nat)(j:Nat):Option (Int×Nat):=some (1,m+j)
theorem QZ{l:Nat}(h:row.length=l+m+x)(j:Nat):fn (tN l m r' row) j=cY (ji l m r') (fn row) j:=by
 unfold fn tN cY ji;have e1:(row.take l).length=l:=by rw[cB];lia
 have e2:((row.drop l).take m).length=m:=by rw[cB,da];lia
 simp only[QX,bY,dY,e1,e2,ack,xa,QY];by_cases h1:j<m
 ·simp only[h1,if_true,show j<m+l by lia,show j<m+l+r' by lia,qN]
 ·by_cases h2:j<m+l
  ·simp only[h1,h2,if_true,if_false,show j<m+l+r' by lia,show j-m<l by lia,qN]
  ·by_cases h3:j<m+l+r'
   ·simp only[h1,h2,h3,if_true,if_false]
   ·simp only[h1,h2,h3,if_false,qN,show l+m+(j-(m+l+r'))=j-r' by lia]
theorem acm(j:Nat):fn (row.drop m) j=cY (xb m) (fn row) j:=by
 unfold fn cY xb;rw[xa];simp
theorem Q0{l:Nat}(h:row.length=m+x):gT p (fn (tO p l m row)) (cY (jH l m) (fn row)):=λj=>by
 unfold fn tO cY jH;have e1:(((row.take m).map λn=>(-n)%p)).length=m:=by rw[aZ,cB];lia
 simp only[QX,bY,dY,e1,xa,QY];by_cases h1:j<m
 ·have e2:((row.take m).map λn=>(-n)%p).getD j 0=(-(row.getD j 0))%p:=by
   have hj:j<(row.take m).length:=by rw[cB];lia
   rw[cO,dU,cf hj,cO,cf (by lia:j<row.length),List.getElem_take];rfl
  simp only[h1,if_true,show j<m+l by lia,e2]
  have:=l7 p (-(row.getD j 0))
  rwa[show -(row.getD j 0)=-1*row.getD j 0 by lia]at this ⊢
 ·by_cases h2:j<m+l
  ·simp only[h1,h2,if_true,if_false];exact⟨0,by lia⟩
  ·simp only[h1,h2,if_false,qN,show m+(j-(m+l))=j-l by lia];exact⟨0,by lia⟩
theorem acn{c:Int}(j:Nat):cY s (λi=>u i+c*v i) j=cY s u j+c*cY s v j:=by
 unfold cY;cases s j with
 |none=>simp
 |some a=>
  show a.1*(u a.2+c*v a.2)=a.1*u a.2+c*(a.1*v a.2);rw[Int.mul_add,← Int.mul_assoc,← Int.mul_assoc,sj c]
theorem zA{g:List Int→List Int}(hg:∀r∈L,gT p (fn (g r)) (cY s (fn r))){f:Fn}:Sp p (RS (L.map g)) f↔∃u,Sp p (RS L) u∧gT p (cY s u) f:=by
 constructor
 ·intro h;induction h with
  |zero=>exact⟨_,.zero,λj=>⟨0,by unfold cY;cases s j<;>simp⟩⟩
  | @add v r c _ hr ih=>
   obtain⟨u,hu,e⟩:=ih;obtain⟨q,hq,rfl⟩:=hr;obtain⟨r0,rL,rfl⟩:=cP.mp hq;refine⟨_,hu.add c ⟨r0,rL,rfl⟩,λj=>?_⟩;rw[acn];have h1:=e j;have h2:p∣c*(fn (g r0) j-cY s (fn r0) j):=AJ (hg r0 rL j);have h3:=Int.dvd_sub h1 h2;rwa[show cY s u j-v j-c*(fn (g r0) j-cY s (fn r0) j)=cY s u j+c*cY s (fn r0) j-(v j+c*fn (g r0) j) by rw[oT];lia]at h3
  |e8 _ e ih=>
   obtain⟨u,hu,e'⟩:=ih;exact⟨u,hu,e'.trans e⟩
 ·rintro⟨u,hu,e⟩;refine .e8 (ach (s:=s) (R':=RS (L.map g)) (λr ⟨q,hq,er⟩=>?_) hu) e;rw[er];exact .e8 (md (AL hq)) (hg q hq)
theorem aco{L':LL}{f:Fn}:Sp p (RS (L++L')) f↔∃u v,Sp p (RS L) u∧Sp p (RS L') v∧gT p (λj=>u j+v j) f:=by
 constructor
 ·intro h;induction h with
  |zero=>exact⟨_,_,.zero,.zero,λj=>⟨0,by simp⟩⟩
  | @add v r c _ hr ih=>
   obtain⟨u,v',hu,hv,e⟩:=ih;obtain⟨q,hq,rfl⟩:=hr;rcases(dI.mp hq)with z|z
   ·refine⟨_,v',hu.add c ⟨q,z,rfl⟩,hv,λj=>?_⟩
    have:=e j
    dsimp only at this ⊢;rwa[show u j+c*fn q j+v' j-(v j+c*fn q j)=u j+v' j-v j by lia]
   ·refine⟨u,_,hu,hv.add c ⟨q,z,rfl⟩,λj=>?_⟩
    have:=e j
    dsimp only at this ⊢;rwa[show u j+(v' j+c*fn q j)-(v j+c*fn q j)=u j+v' j-v j by lia]
  |e8 _ e ih=>
   obtain⟨u,v',hu,hv,e'⟩:=ih;exact⟨u,v',hu,hv,e'.trans e⟩
 ·rintro⟨u,v,hu,hv,e⟩;have h1:Sp p (RS (L++L')) u:=pj (λr hr=>md (nR _ hr)) hu;have h2:Sp p (RS (L++L')) v:=pj (λr hr=>md (jb _ hr)) hv;exact .e8 ((h1.plus 1 h2).of_eq λj=>by rw[qN]) e
theorem Q3(pp:p∈cq)(h:bo p n L){f:Fn}:Sp p (RS (cD p L)) f↔Sp p (RS L) f:=⟨pj (gZ pp h).sub,pj (gZ pp h).sup⟩
section
variable{p:Int}{f:Fn}
theorem Dy(h:∀j,u j=v j):gT p u v:=λj=>⟨0,by rw[h j];lia⟩
theorem Q4{l x':Nat}{aN cy:LL}(h:bo p (l+m+x) aN)(h':bo p (m+r'+x') cy) :
  Sp p (RS (pB p l m r' aN cy)) f↔∃u v,Sp p (RS aN) u∧Sp p (RS cy) v∧gT p (λj=>cY (ji l m r') u j+cY (jH l m) v j) f:=by
 unfold pB;rw[aco];constructor
 ·rintro⟨u,v,hu,hv,e⟩;obtain⟨u0,rM,eu⟩:=(zA (s:=ji l m r') (λq hq=>Dy (QZ (x:=x) (h q hq).1))).mp hu;obtain⟨v0,hv0,ev⟩:=(zA (s:=jH l m) (λq hq=>Q0 (x:=r'+x') (by rw[(h' q hq).1];lia))).mp hv;refine⟨u0,v0,rM,hv0,λj=>?_⟩
  have:=p6 (p6 (eu j) (ev j)) (e j)
  dsimp only at this ⊢;rwa[show cY (ji l m r') u0 j-u j+(cY (jH l m) v0 j-v j)+(u j+v j-f j)=cY (ji l m r') u0 j+cY (jH l m) v0 j-f j by lia]at this
 ·rintro⟨u,v,hu,hv,e⟩;exact⟨_,_,(zA (s:=ji l m r') (λq hq=>Dy (QZ (x:=x) (h q hq).1))).mpr ⟨u,hu,.refl _ _⟩,(zA (s:=jH l m) (λq hq=>Q0 (x:=r'+x') (by rw[(h' q hq).1];lia))).mpr ⟨v,hv,.refl _ _⟩,e⟩
theorem Q5{r:List Int}(h:oE m r=true)(hj:j<m):r.getD j 0=0:=by
 unfold oE at h;rw[Bool.not_eq_true',List.any_eq_false]at h;by_cases hl:j<r.length
 ·have hm:r[j]∈r.take m:=my.mpr ⟨j,by rw[cB];lia,List.getElem_take ..⟩
  have:=h _ hm
  rw[cO,cf hl];simpa using this
 ·rw[cO,lC (by lia)];rfl
theorem JT{w:Fn}(hL:∀r∈L,r.getD j 0=0)(h:Sp p (RS L) w):p∣w j:=by
 induction h with
 |zero=>exact⟨0,by simp⟩
 | @add v r c _ hr ih=>
  obtain⟨q,hq,rfl⟩:=hr;show p∣v j+c*q.getD j 0;rw[hL q hq];simpa using ih
 |e8 _ e ih=>
  have:=Int.dvd_sub ih (e j)
  rename_i u v _
  rwa[show v j-(v j-u j)=u j by lia]at this
theorem Q6{l:Nat}(v:Fn)(h:j<m):cY (jH l m) v j=-v j:=by
 unfold cY jH;simp only[h,if_true];lia
theorem Q7{l:Nat}(u:Fn)(h:j<m):cY (ji l m r') u j=u (l+j):=by
 unfold cY ji;simp only[h,if_true,qN]
theorem acp{l x' N:Nat}{aN cy:LL}(pp:p∈cq)(h:bo p (l+m+x) aN)(h':bo p (m+r'+x') cy)(hN:bo p N (pB p l m r' aN cy)) :
  Sp p (RS (oF p l m r' aN cy)) f↔∃u v,Sp p (RS aN) u∧Sp p (RS cy) v∧(∀j,j<m→p∣u (l+j)-v j)∧gT p (λj=>cY (ji l m r') u (m+j)+cY (jH l m) v (m+j)) f:=by
 have RO:=gZ pp hN;obtain⟨ls,E⟩:=RO.ig;unfold oF;rw[zA (s:=xb m) (λq hq=>Dy (λj=>acm j))];constructor
 ·rintro⟨w,hw,e⟩;have hz:∀j,j<m→p∣w j:=λj hj=>JT (λr hr=>Q5 (pW.mp hr).2 hj) hw;have hw':Sp p (RS (pB p l m r' aN cy)) w:=(Q3 pp hN).mp (pj (λr hr=>md (pW.mp hr).1) hw);obtain⟨u,v,hu,hv,ew⟩:=(Q4 h h').mp hw';refine⟨u,v,hu,hv,λj hj=>?_,λj=>?_⟩
  ·have h1:=ew j;dsimp only at h1;rw[Q6 v hj,Q7 u hj]at h1
   have:=p6 h1 (hz j hj)
   rwa[show u (l+j) + -v j-w j+w j=u (l+j)-v j by lia]at this
  ·have h1:=ew (m+j);have h2:=e j;have h3:cY (xb m) w j=w (m+j):=by unfold cY xb;simp
   rw[h3]at h2
   have:=p6 h1 h2
   dsimp only at this ⊢;rwa[show cY (ji l m r') u (m+j)+cY (jH l m) v (m+j)-w (m+j)+(w (m+j)-f j)=cY (ji l m r') u (m+j)+cY (jH l m) v (m+j)-f j by lia]at this
 ·rintro⟨u,v,hu,hv,hm,e⟩;refine⟨λj=>cY (ji l m r') u j+cY (jH l m) v j,?_,?_⟩
  ·refine acj E ((Q3 pp hN).mpr ((Q4 h h').mpr ⟨u,v,hu,hv,.refl _ _⟩)) λj hj=>?_;show p∣cY (ji l m r') u j+cY (jH l m) v j;rw[Q6 v hj,Q7 u hj]
   have:=hm j hj
   rwa[show u (l+j) + -v j=u (l+j)-v j by lia]
  ·refine(Dy λj=>?_).trans e;unfold cY xb;simp
end
def Ok(p:Int)(d:Drw):Prop:=d.wf p∧d.sm
theorem Ok.back{p:Int}{d:Drw}(o:Ok p (.back d)):Ok p d:=⟨o.1,o.2⟩
theorem Ok.Q8(o:Ok p (.cC a b)):Ok p a:=⟨o.1.1,o.2.1⟩
theorem Ok.Q9(o:Ok p (.cC a b)):Ok p b:=⟨o.1.2,o.2.2.1⟩
theorem Ok.Ra(o:Ok p (.bc a b)):Ok p a:=⟨o.1.1,o.2.1⟩
theorem Ok.Rb(o:Ok p (.bc a b)):Ok p b:=⟨o.1.2.1,o.2.2⟩
theorem JU{α:Type}{f:α→Bool}:∀{D:List α}{k:Nat},(∀(i:Nat)(r:α),D[i]?=some r→(f r=true↔k≤i))→D.filter f=D.drop k
 | [],_,_=>by simp
 |r::D,0,h=>by
  have h0:=(h 0 r rfl).mpr (j7 _);rw[List.filter_cons,ae h0,JU (D:=D) (k:=0) λi q hq=>?_,vE,vE]
  have:=h (i+1) q hq
  exact⟨λ_=>j7 _,λ_=>this.mpr (j7 _)⟩
 |r::D,k+1,h=>by
  have h0:¬f r=true:=λz=>absurd ((h 0 r rfl).mp z) (by lia);rw[List.filter_cons,af h0,JU (D:=D) (k:=k) λi q hq=>?_,List.drop_succ_cons];rw[h (i+1) q hq];lia
theorem Rc{m:Nat}:∀{ls:List Nat},ls.Pairwise (· < ·)→∃k,∀(i l:Nat),ls[i]?=some l→(m≤l↔k≤i)
 | [],_=>⟨0,λi l h=>by simp at h⟩
 |a::ls,h=>by
  rw[AK]at h;obtain⟨k,hk⟩:=Rc (m:=m) h.2;by_cases c:m≤a
  ·refine⟨0,λi l hl=>⟨λ_=>j7 _,λ_=>?_⟩⟩;cases i with
   |zero=>cases hl;exact c
   |succ i=>have:=h.1 l (cZ (show ls[i]?=some l from hl));lia
  ·refine⟨k+1,λi l hl=>?_⟩;cases i with
   |zero=>cases hl;lia
   |succ i=>rw[hk i l hl];lia
theorem acq(E:gI n n D ls)(N:Nat)(hN:N+m=n):∃rB,gI N N ((D.filter (oE m)).map λr=>r.drop m) rB:=by
 obtain⟨k,hk⟩:=Rc (m:=m) E.up;have at_:∀(i:Nat)(r:List Int),D[i]?=some r→∃l,ls[i]?=some l:=λi r hr=>by
  have:=(dB.mp hr).1
  exact⟨ls[i]'(by rw[E.len];exact this),cf _⟩
 have ef:D.filter (oE m)=D.drop k:=JU λi r hr=>by
  obtain⟨l,hl⟩:=at_ i r hr;obtain⟨h1,h0⟩:=E.one i r l hr hl;rw[← hk i l hl];constructor
  ·intro z;by_cases c:m≤l
   ·exact c
   ·have:=Q5 z (j:=l) (by lia)
    lia
  ·intro c;exact QT h0 c
 rw[ef];have eD:∀(i:Nat)(q:List Int),((D.drop k).map λr=>r.drop m)[i]?=some q→∃r,D[k+i]?=some r∧q=r.drop m:=λi q hq=>by
  rw[dU,si]at hq;cases e:D[k+i]? with
  |none=>rw[e]at hq;cases hq
  |some r=>rw[e]at hq;cases hq;exact⟨r,rfl,rfl⟩
 have eL:∀(i l:Nat),((ls.drop k).map λl=>l-m)[i]?=some l→ls[k+i]?=some (l+m):=λi l hl=>by
  rw[dU,si]at hl;cases e:ls[k+i]? with
  |none=>rw[e]at hl;cases hl
  |some l'=>
   rw[e]at hl
   have:=(hk _ _ e).mpr (by lia)
   have hl:l' - m=l:=c8 hl;rw[show l+m=l' by lia]
 refine⟨(ls.drop k).map λl=>l-m,by simp[E.len],?_,λl hl=>?_,λi q l hq hl=>?_,λi i' q l cS hq hl=>?_⟩
 ·rw[List.pairwise_map];refine List.Pairwise.imp_of_mem ?_ (E.up.drop (i:=k));intro a b ha hb Dz;obtain⟨i,hi⟩:=List.getElem?_of_mem ha;rw[si]at hi
  have:=(hk _ _ hi).mpr (by lia)
  lia
 ·obtain⟨i,hi⟩:=List.getElem?_of_mem hl
  have:=E.lt _ (cZ (eL i l hi))
  lia
 ·obtain⟨r,hr,rfl⟩:=eD i q hq;obtain⟨h1,h0⟩:=E.one _ r _ hr (eL i l hl);refine⟨by rw[xa,Nat.add_comm];exact h1,λj hj=>?_⟩;rw[xa];exact h0 _ (by lia)
 ·obtain⟨r,hr,rfl⟩:=eD i' q hq;rw[xa,Nat.add_comm];exact E.alone _ _ r _ (by lia) hr (eL i l hl)
noncomputable def JV(n:Nat)(D:LL)(ls:List Nat):Bool:=ls.length==D.length&&decide (ls.Pairwise (· < ·))&&ls.all (λl=>decide (l<n)) &&
 (List.range D.length).all λi=>(List.range D.length).all λj=>if i=j then(D.getD j []).getD (ls.getD i 0) 0==1&&(List.range (ls.getD i 0)).all (λt=>(D.getD j []).getD t 0==0)else(D.getD j []).getD (ls.getD i 0) 0==0
theorem getD_some{α:Type}{L:List α}{i:Nat}{x d:α}(h:L[i]?=some x):L.getD i d=x:=by rw[cO,h];rfl
theorem acr(h:JV n D ls=true):gI n n D ls:=by
 unfold JV at h;simp only[eX,beq_iff_eq,aF,jN,jq]at h;obtain⟨⟨⟨g1,g2⟩,g3⟩,h4⟩:=h;refine⟨g1,g2,g3,λi r l hr hl=>?_,λi i' r l cS hr hl=>?_⟩
 ·have hi:=(dB.mp hr).1
  have:=h4 i hi i hi
  rw[ae rfl,getD_some hr,getD_some hl]at this;simp only[eX,beq_iff_eq,jN,jq]at this;exact this
 ·have hi:=(dB.mp hl).1;have i5:=(dB.mp hr).1
  have:=h4 i (by lia) i' i5
  rw[af cS,getD_some hr,getD_some hl]at this;simpa using this
theorem acs:∀e∈iN,JV (e.2.1+e.2.2.1) e.2.2.2 (aau e.2.2.2)=true:=by decide +kernel
theorem Drw.ig{p:Int}(pp:p∈cq):∀{d:Drw},Ok p d→∃ls,gI (d.dG+d.df) (d.dG+d.df) (d.aN p) ls
 | .box x l r aN,o=>⟨_,acr (acs _ o.1)⟩
 | .times n,_=>⟨[0],by
  refine⟨rfl,by simp,λl hl=>by rw[dP.mp hl];show 0<1+1;decide,λi r l hr hl=>?_,λi i' r l cS hr hl=>?_⟩
  ·cases i with
   |zero=>cases hr;cases hl;exact⟨rfl,λj hj=>absurd hj (by lia)⟩
   |succ i=>cases hl
  ·cases i with
   |zero=>
    cases i' with
    |zero=>exact absurd rfl cS
    |succ i'=>cases hr
   |succ i=>cases hl⟩
 | .back d,o=>by
  obtain⟨_,_,_,hR⟩:=Drw.good pp o.back.1 o.back.2;have hS:bo p (d.df+d.dG) ((d.aN p).map (jX d.dG d.df)):=λx hx=>by
   obtain⟨y,hy,e⟩:=cP.mp hx;rw[← e];exact C4 (x:=0) (hR y hy)
  exact(gZ pp hS).ig
 | .cC a b,o=>by
  obtain⟨p2,_⟩:=fe p pp;obtain⟨_,_,_,hA⟩:=Drw.good pp o.Q8.1 o.Q8.2;obtain⟨_,_,_,hB⟩:=Drw.good pp o.Q9.1 o.Q9.2;have hS:=Dg (x:=0) (by lia) hA hB;obtain⟨ls,E⟩:=(gZ pp hS).ig;have e:(Drw.cC a b).dG+(Drw.cC a b).df=a.dG+b.dG+(a.df+b.df):=rfl;refine⟨ls,?_⟩;rw[e];exact E
 | .bc a b,o=>by
  obtain⟨p2,_⟩:=fe p pp;obtain⟨_,_,_,hA⟩:=Drw.good pp o.Ra.1 o.Ra.2;obtain⟨_,_,_,hB⟩:=Drw.good pp o.Rb.1 o.Rb.2;have hB':bo p (a.df+b.df) (b.aN p):=by rw[show a.df=b.dG from o.1.2.2];exact hB
  obtain⟨ls,E⟩:=(gZ pp (zw (x:=0) (by lia) hA hB')).ig;exact acq E _ (by show a.dG+b.df+a.df=_;lia)
theorem Drw.one(pp:p∈cq){d:Drw}(o:Ok p d):cD p (d.aN p)=d.aN p:=by
 obtain⟨_,_,_,hR⟩:=Drw.good pp o.1 o.2;obtain⟨ls,E⟩:=Drw.ig pp o;have R:=gZ pp hR;obtain⟨ms,EM⟩:=R.ig;exact(E.unique pp EM hR R.rws (λr hr=>R.sup r hr) (λr hr=>R.sub r hr)).symm
noncomputable def zB(K:Frag)(aS:Addr):Bool:=(match PyProof.Rows.KTD.datumAt (Str.ofString "times") (iq K aS)with|some (.ref t)=>wM K t [1,1] | _=>false) &&
 (PyProof.Rows.KTD.datumAt (Str.ofString "back") (iq K aS)).isNone&&(PyProof.Rows.KTD.datumAt (Str.ofString "beside") (iq K aS)).isNone&&(PyProof.Rows.KTD.datumAt (Str.ofString "then") (iq K aS)).isNone
theorem acu{K:Frag}{aS:Addr}(h:zB K aS=true):(∃t,PyProof.Rows.KTD.datumAt (Str.ofString "times") (iq K aS)=some (.ref t)∧∀H,bf K H t [.int 1,.int 1])∧
  PyProof.Rows.KTD.datumAt (Str.ofString "back") (iq K aS)=none∧PyProof.Rows.KTD.datumAt (Str.ofString "beside") (iq K aS)=none∧PyProof.Rows.KTD.datumAt (Str.ofString "then") (iq K aS)=none:=by
 unfold zB at h;simp only[eX,Option.isNone_iff_eq_none]at h;obtain⟨⟨⟨h1,h2⟩,h3⟩,h4⟩:=h;refine⟨?_,h2,h3,h4⟩;split at h1
 ·rename_i t e
  exact⟨t,e,λH=>Jr h1 H⟩
 ·exact nomatch h1
def nH(K:Frag)(H:Hp)(a:Addr)(l r:Nat):Prop:=bf K H a [.int (l:Int),.int (r:Int),.ck]
inductive acv(K:Frag)(x:Str)(ps:List V)(H:Hp)(Q:VK):Prop where
 |box (l r:Nat) (aN:LL) (h:(x,l,r,aN)∈iN) (q:iY K H [.int (l:Int),.int (r:Int),.ck] Q)
 |times (h:x="times") (q:iY K H [.int 1,.int 1,.ck] Q)
 |back (a:Addr) (l r:Nat) (h:x="back") (hp:ps=[.ref a]) (ha:nH K H a l r) (q:iY K H [.int (r:Int),.int (l:Int),.ck] Q)
 |cC (a b:Addr) (l r l' r':Nat) (h:x="beside") (hp:ps=[.ref a,.ref b]) (ha:nH K H a l r) (hb:nH K H b l' r') (q:iY K H [.int ((l+l':Nat):Int),.int ((r+r':Nat):Int),.ck] Q)
 |bc (a b:Addr) (l m r:Nat) (h:x="then") (hp:ps=[.ref a,.ref b]) (ha:nH K H a l m) (hb:nH K H b m r) (q:iY K H [.int (l:Int),.int (r:Int),.ck] Q)
theorem acw:(["part"]:List Str).Nodup:=by decide +kernel
def acx(K:Frag)(H:Hp)(ps:List V):Prop:=∀(i:Nat)(v:V),ps[i]?=some v→∃(a:Addr)(l r:Nat),v=.ref a∧nH K H a l r
def Rf(K:Frag):Sp:=λvs H Q _=>∃(pa:Addr)(ps:List V),vs=[.ref pa]∧H pa=some (.lst ps)∧ps.length≤10∧acx K H ps∧∀H',aK H H'→Q .ck H'
theorem Rg:cT ["parts","unmet"] ["parts"] (bu CB):=de rfl rfl rfl (by decide +kernel) rfl
theorem Rh(F:cA K "first_unmet" "first_unmet" CB f fd):br P w K mg base bp 1 f fd ["parts"] (Rf K):=by
 refine F.ok Rg (λvs H Q E h=>?_) (λbE A outer s H vs Q E hr h=>?_)
 ·obtain⟨pa,ps,rfl,_⟩:=h;rfl
 ·obtain⟨pa,ps,rfl,hp,hl,hm,q⟩:=h;have z:(10:Nat)≤sizeLine:=by decide
  refine⟨_,ba (kh (i:=1) (N:=["part"]) (own:=1) (caps:=[]) rfl Rg.nd rfl rfl (iZ K rfl (pv 0)) (show dJ ["parts","unmet"] (bu CB) ["part"] 1 [] _ from .mk' (by decide +kernel)) (λ_ _ _ _ _=>cx (i:=0) acw rfl (.inl rfl)) (λ_ _ _ _ _=>yE (cM MZ (bt (cH K rfl) (pv 0) aW (λ_ _=>rfl)) oY (cJ _))) (λ_ _ _ _ _=>bt (cH K rfl) (pv 0) aW (λ_ _=>rfl))) (bq (bV (ym (Bj (pv 1) (λ_=>rfl)) (bt (cU K rfl) (pv 1) aW (λ_ _=>rfl)) oY))),?_⟩
  refine⟨_,rfl,pa,rfl,⟨_,.of hp⟩,n9 (cp:=[]) (λi H' zs=>zs=[]) (.of hp) (by lia) rfl (λi H' zs e=>by rw[e];exact j7 _) ?_ ?_⟩
  ·rintro i x H1 zs hx sm rfl;obtain⟨a,l,r,rfl,ha⟩:=hm i x hx;exact⟨_,rfl,a,_,2,.ck,rfl,rfl,sm.bh ha,bw (j:=2) rfl,rfl,_,rfl,om (λh=>absurd rfl h) (λ_=>⟨⟨[_],rfl,rfl⟩,sm,rfl⟩)⟩
  ·rintro H1 zs sm rfl lu hlu;refine⟨_,rfl,_,.inl ⟨[],.of aV,rfl⟩,dW ?_⟩;exact q _ (sm.trans (.upd hlu))
def Ri(K:Frag):Sp:=λvs H Q _=>∃(x:Str)(pa:Addr)(ps:List V),vs=[.str x,.ref pa]∧H pa=some (.lst ps)∧
 ((∃(a:Addr)(l r:Nat),x="back"∧ps=[.ref a]∧nH K H a l r∧iY K H [.int (r:Int),.int (l:Int)] Q)∨(∃(a b:Addr)(l r l' r':Nat),x="beside"∧ps=[.ref a,.ref b]∧nH K H a l r∧nH K H b l' r'∧iY K H [.int ((l+l':Nat):Int),.int ((r+r':Nat):Int)] Q)∨(∃(a b:Addr)(l m m' r:Nat),x="then"∧ps=[.ref a,.ref b]∧nH K H a l m∧nH K H b m' r∧iY K H [.int (l:Int),.int (r:Int)] Q))
theorem acy:cT ["word","parts"] ["word","parts"] (bu Iq):=de rfl rfl rfl (by decide +kernel) rfl
theorem Rj(F:cA K "joined_sides" "joined_sides" Iq f fd):br P w K mg base bp 1 f fd ["word","parts"] (Ri K):=by
 refine F.ok acy (λvs H Q E h=>?_) (λbE A outer s H vs Q E hr h=>?_)
 ·obtain⟨x,pa,ps,rfl,_⟩:=h;rfl
 ·obtain⟨x,pa,ps,rfl,hp,h⟩:=h;refine⟨_,ba (cX (cM eO (pv 0) cz (cJ _)) (bq (bV (c7 (aJ (bt (cH K rfl) (bt (cU K rfl) (pv 1) aW (λ_ _=>rfl)) aW (λ_ _=>rfl)) (aJ (bt (cH K rfl) (bt (cU K rfl) (pv 1) aW (λ_ _=>rfl)) aW (λ_ _=>rfl)) aO))))) dy) (ba (cX (cM eO (pv 0) cz (cJ _)) (bq (bV (c7 (aJ (aX eU (bt (cH K rfl) (bt (cU K rfl) (pv 1) aW (λ_ _=>rfl)) aW (λ_ _=>rfl)) (bt (cH K rfl) (bt (cU K rfl) (pv 1) aW (λ_ _=>rfl)) aW (λ_ _=>rfl))) (aJ (aX eU (bt (cH K rfl) (bt (cU K rfl) (pv 1) aW (λ_ _=>rfl)) aW (λ_ _=>rfl)) (bt (cH K rfl) (bt (cU K rfl) (pv 1) aW (λ_ _=>rfl)) aW (λ_ _=>rfl))) aO))))) dy) (bq (bV (c7 (aJ (bt (cH K rfl) (bt (cU K rfl) (pv 1) aW (λ_ _=>rfl)) aW (λ_ _=>rfl)) (aJ (bt (cH K rfl) (bt (cU K rfl) (pv 1) aW (λ_ _=>rfl)) aW (λ_ _=>rfl)) aO)))))),?_⟩;have z2:2≤sizeLine:=by decide
  rcases h with⟨a,l,r,rfl,rfl,ha,q⟩|⟨a,b,l,r,l',r',rfl,rfl,ha,hb,q⟩|⟨a,b,l,m,m',r,rfl,rfl,ha,hb,q⟩
  ·refine⟨_,rfl,rfl,_,rfl,?_⟩;rw[aC rfl];exact dZ ⟨_,rfl,pa,_,0,.ref a,rfl,rfl,.of hp,bw (j:=0) rfl,a,_,1,.int (r:Int),rfl,rfl,ha,bw (j:=1) rfl,_,rfl,pa,_,0,.ref a,rfl,rfl,.of hp,bw (j:=0) rfl,a,_,0,.int (l:Int),rfl,rfl,ha,bw (j:=0) rfl,z2,λt ht=>q.new ht⟩
  ·refine⟨_,rfl,rfl,_,rfl,?_⟩;rw[ab (by decide)];refine dW ⟨_,rfl,rfl,_,rfl,?_⟩;rw[aC rfl];rw[sr,sr]at q;exact dZ ⟨_,rfl,pa,_,0,.ref a,rfl,rfl,.of hp,bw (j:=0) rfl,a,_,0,.int (l:Int),rfl,rfl,ha,bw (j:=0) rfl,_,rfl,pa,_,1,.ref b,rfl,rfl,.of hp,bw (j:=1) rfl,b,_,0,.int (l':Int),rfl,rfl,hb,bw (j:=0) rfl,_,_,rfl,rfl,
    _,rfl,pa,_,0,.ref a,rfl,rfl,.of hp,bw (j:=0) rfl,a,_,1,.int (r:Int),rfl,rfl,ha,bw (j:=1) rfl,_,rfl,pa,_,1,.ref b,rfl,rfl,.of hp,bw (j:=1) rfl,b,_,1,.int (r':Int),rfl,rfl,hb,bw (j:=1) rfl,_,_,rfl,rfl,z2,λt ht=>q.new ht⟩
  ·refine⟨_,rfl,rfl,_,rfl,?_⟩;rw[ab (by decide)];refine dW ⟨_,rfl,rfl,_,rfl,?_⟩;rw[ab (by decide)];exact dW ⟨_,rfl,pa,_,0,.ref a,rfl,rfl,.of hp,bw (j:=0) rfl,a,_,0,.int (l:Int),rfl,rfl,ha,bw (j:=0) rfl,_,rfl,pa,_,1,.ref b,rfl,rfl,.of hp,bw (j:=1) rfl,b,_,1,.int (r:Int),rfl,rfl,hb,bw (j:=1) rfl,z2,λt ht=>q.new ht⟩
def JW(K:Frag):Sp:=λvs H Q _=>∃(i:Int)(x:Str)(pa:Addr)(ps:List V),vs=[.int i,.str x,.ref pa]∧H pa=some (.lst ps)∧acv K x ps H Q
theorem Rk{aS aB fU fJ:Addr}{Rl Rm:FuncData}(F:cA K "measure" "measure" wD f fd)(B:px K mg aS aB)(M:zB K aS=true)
  (GU:br P w K mg base bp 1 fU Rl ["parts"] (Rf K)) (kU:Kp K fU) (bU:Binds K Rl ["parts"] []) (mU:Mg mg "first_unmet" fU)
  (GJ:br P w K mg base bp 1 fJ Rm ["word","parts"] (Ri K)) (kJ:Kp K fJ) (bJ:Binds K Rm ["word","parts"] []) (mJ:Mg mg "joined_sides" fJ) :
  br P w K mg base bp 2 f fd ["place","word","parts"] (JW K):=by
 refine F.ok C2 (λvs H Q E h=>?_) (λbE A outer s H vs Q E hr h=>?_)
 ·obtain⟨i,x,pa,ps,rfl,_⟩:=h;rfl
 ·obtain⟨i,x,pa,ps,rfl,hp,h⟩:=h;obtain⟨⟨tt,ett,JJ⟩,eb,es,et⟩:=acu M;refine⟨_,ba (cX (AX (Po B.tabS (pv 1) (su (v:=.ref _) rfl B.C1 rfl)) rfl) (bq (bV (aX (dh K rfl) (Il B.tabS (su (v:=.ref _) rfl B.C1 rfl) (pv 1) (λ_ _=>rfl)) (c7 (aJ oY aO))))) dy) (ba (bH (i:=3) C2.nd rfl (.inl rfl) (bZ GU hr rfl mU kU bU .nil cb (aJ (pv 2) aO))) (ba (cX (PW.pt (uy (cM eO (pv 1) cz (cJ _)) (uy (cM MY (pv 3) oY (cJ _)) (yk (cM qg (bt (cH K rfl) (bt (cU K rfl) (pv 2) aW (λ_ _=>rfl)) aW (λ_ _=>rfl)) (bt (cH K rfl) (bt (cU K rfl) (pv 2) aW (λ_ _=>rfl)) aW (λ_ _=>rfl)) (cJ _)))))) (bq (bH (i:=3) C2.nd rfl (.inl rfl) (pv 0))) dy) (bq (bV (aX (dh K rfl) (bZ GJ hr rfl mJ kJ bJ .nil cb (aJ (pv 1) (aJ (pv 2) aO))) (c7 (aJ (pv 3) aO))))))),?_⟩;have z1:1≤sizeLine:=by decide
  have boxed:∀{t:Addr}{l r:Int},PyProof.Rows.KTD.datumAt x (iq K aS)=some (.ref t)→(∀H,bf K H t [.int l,.int r])→iY K H [.int l,.int r,.ck] Q→∀{u:TS}{D:Ends},D.rt=Q→cI (fb (tB (Im aS (iq K aS) (aY 1) (tC (.ref aS)))) (gR (bz (uM K) (Cr aS (iq K aS) (tC (.ref aS)) (aY 1)) (jQ (bg (tC .ck) cm)))) iR) u D [some (.int i),some (.str x),some (.ref pa),none] H:=λ{t l r} e ht q {u D} hD=>by
   refine⟨_,rfl,x,rfl,rfl,_,rfl,?_⟩;rw[e];refine dZ ⟨_,rfl,x,_,rfl,rfl,e,z1,λt1 g1=>?_⟩;refine⟨t,t1,_,_,rfl,rfl,ht _,.of aV,(by show 2+1≤sizeLine;decide),λa' H' s' h'=>?_⟩;show D.rt _ _;rw[hD];exact q a' H' ((aK.upd g1).trans s') h'
  have JX:PyProof.Rows.KTD.datumAt x (iq K aS)=none→∀{u:TS}{D:Ends},u D [some (.int i),some (.str x),some (.ref pa),none] H→cI (fb (tB (Im aS (iq K aS) (aY 1) (tC (.ref aS)))) (gR (bz (uM K) (Cr aS (iq K aS) (tC (.ref aS)) (aY 1)) (jQ (bg (tC .ck) cm)))) iR) u D [some (.int i),some (.str x),some (.ref pa),none] H:=λe {u D} h=>by
   refine⟨_,rfl,x,rfl,rfl,_,rfl,?_⟩;rw[e];exact dW h
  cases h with
  |box l r aN hx q=>
   obtain⟨⟨t,e,ht⟩,_⟩:=B.at_ hx;exact boxed e ht q rfl
  |times hx q=>
   subst hx;exact boxed ett JJ q rfl
  |back a l r hx wL ha q=>
   subst hx;subst wL;refine JX eb ⟨_,rfl,pa,_,rfl,hp,by simp,λj v hv=>?_,λH1 s1=>?_⟩
   ·match j,hv with
    |0,hv=>cases hv;exact⟨a,l,r,rfl,ha⟩
    |j+1,hv=>simp at hv
   refine⟨_,rfl,rfl,_,rfl,?_⟩;rw[ab (by decide)];refine dW (dW ?_);refine⟨_,rfl,_,rfl,_,pa,_,rfl,s1 _ _ hp,.inl ⟨a,l,r,rfl,rfl,s1.bh ha,λt H2 s2 ht=>⟨_,rfl,z1,λt1 g1=>?_⟩⟩⟩;exact⟨t,t1,_,_,rfl,rfl,(aK.upd g1).bh ht,.of aV,(by show 2+1≤sizeLine;decide),λa' H' s' h'=>q a' H' ((s1.trans s2).trans ((aK.upd g1).trans s')) h'⟩
  |cC a b l r l' r' hx wL ha hb q=>
   subst hx;subst wL;refine JX es ⟨_,rfl,pa,_,rfl,hp,by simp,λj v hv=>?_,λH1 s1=>?_⟩
   ·match j,hv with
    |0,hv=>cases hv;exact⟨a,l,r,rfl,ha⟩
    |1,hv=>cases hv;exact⟨b,l',r',rfl,hb⟩
    |j+2,hv=>simp at hv
   refine⟨_,rfl,rfl,_,rfl,?_⟩;rw[ab (by decide)];refine dW (dW ?_);refine⟨_,rfl,_,rfl,_,pa,_,rfl,s1 _ _ hp,.inr (.inl ⟨a,b,l,r,l',r',rfl,rfl,s1.bh ha,s1.bh hb,λt H2 s2 ht=>⟨_,rfl,z1,λt1 g1=>?_⟩⟩)⟩;exact⟨t,t1,_,_,rfl,rfl,(aK.upd g1).bh ht,.of aV,(by show 2+1≤sizeLine;decide),λa' H' s' h'=>q a' H' ((s1.trans s2).trans ((aK.upd g1).trans s')) h'⟩
  |bc a b l m r hx wL ha hb q=>
   subst hx;subst wL;refine JX et ⟨_,rfl,pa,_,rfl,hp,by simp,λj v hv=>?_,λH1 s1=>?_⟩
   ·match j,hv with
    |0,hv=>cases hv;exact⟨a,l,m,rfl,ha⟩
    |1,hv=>cases hv;exact⟨b,m,r,rfl,hb⟩
    |j+2,hv=>simp at hv
   refine⟨_,rfl,rfl,_,rfl,?_⟩;rw[aC rfl];refine dZ ⟨_,rfl,rfl,_,rfl,?_⟩;rw[aC rfl];refine dZ ⟨_,rfl,pa,_,0,.ref a,rfl,rfl,.of (s1 _ _ hp),bw (j:=0) rfl,a,_,1,.int (m:Int),rfl,rfl,s1.bh ha,bw (j:=1) rfl,_,rfl,pa,_,1,.ref b,rfl,rfl,.of (s1 _ _ hp),bw (j:=1) rfl,b,_,0,.int (m:Int),rfl,rfl,s1.bh hb,bw (j:=0) rfl,rfl,_,rfl,om (λz=>absurd rfl z) (λ_=>?_)⟩;refine⟨_,rfl,_,rfl,_,pa,_,rfl,s1 _ _ hp,.inr (.inr ⟨a,b,l,m,m,r,rfl,rfl,s1.bh ha,s1.bh hb,λt H2 s2 ht=>⟨_,rfl,z1,λt1 g1=>?_⟩⟩)⟩;exact⟨t,t1,_,_,rfl,rfl,(aK.upd g1).bh ht,.of aV,(by show 2+1≤sizeLine;decide),λa' H' s' h'=>q a' H' ((s1.trans s2).trans ((aK.upd g1).trans s')) h'⟩
def zC(K:Frag)(H:Hp):Itm→V→Prop
 | .num n,v=>v=.int n
 | .cW d,v=>∃a,v=.ref a∧nH K H a d.dG d.df
inductive jj(K:Frag)(H:Hp):List Itm→List V→Prop where
 |nil:jj K H [] []
 |cons {t:Itm} {ts:List Itm} {v:V} {vs:List V} (h:zC K H t v) (r:jj K H ts vs):jj K H (t::ts) (v::vs)
section
variable{K:Frag}{H H':Hp}
theorem zC.tup{t:Itm}{v:V}(h:zC K H t v)(s:gQ H H'):zC K H' t v:=by
 cases t with
 |num n=>exact h
 |cW d=>
  obtain⟨a,e,hf⟩:=h;exact⟨a,e,s.bh hf⟩
theorem jj.tup{ts:List Itm}{vs:List V}(h:jj K H ts vs)(s:gQ H H'):jj K H' ts vs:=by
 induction h with
 |nil=>exact .nil
 |cons h r ih=>exact .cons (h.tup s) ih
theorem jj.len{ts:List Itm}{vs:List V}(h:jj K H ts vs):vs.length=ts.length:=by
 induction h with
 |nil=>rfl
 |cons h r ih=>rw[eE,eE,ih]
theorem jj.split:∀{ts us:List Itm}{vs:List V},jj K H (ts++us) vs→∃xs ys,vs=xs++ys∧jj K H ts xs∧jj K H us ys
 | [],us,vs,h=>⟨[],vs,rfl,.nil,h⟩
 |t::ts,us,_,.cons h r=>by
  obtain⟨xs,ys,e,h1,h2⟩:=jj.split (ts:=ts) r;exact⟨_::xs,ys,by rw[e];rfl,.cons h h1,h2⟩
end
def Ro(K:Frag):Sp:=λvs H Q _=>∃(p:Int)(aw:Addr)(d:Drw),vs=[.ref aw]∧d.wf p∧d.sm∧d.aQ.length≤900000∧bf K H aw d.aQ∧∀v H',aK H H'→nH K H' v d.dG d.df→Q (.ref v) H'
theorem Rp(F:cA K "measured" "measured" CA f fd)
  (GF:tq P w K mg base 4 fF ox ["words","made"] (Ju 2 P w K mg base)) (kF:Kp K fF) (bF:Binds K ox ["words","made"] []) (mF:Mg mg "folded" fF)
  (GM:br P w K mg base bp 2 fM jf ["place","word","parts"] (JW K)) (FM:cA K "measure" "measure" wD fM jf) (bM:Binds K jf ["place","word","parts"] []) (mM:Mg mg "measure" fM):br P w K mg base bp 5 f fd ["words"] (Ro K):=by
 refine F.ok Qf (λvs H Q E h=>?_) (λbE A outer s H vs Q E hr h=>?_)
 ·obtain⟨p,aw,d,rfl,_⟩:=h;rfl
 ·obtain⟨p,aw,d,rfl,hd,va,vb,hw,q⟩:=h;have ew:([Itm.cW d]).flatMap Itm.aQ=d.aQ:=by simp[Itm.aQ]
  have JR:∀t∈[Itm.cW d],t.wf p:=λt ht=>by rw[dP.mp ht];exact⟨hd,va⟩
  refine⟨_,bq (bV (Cn GF hr rfl mF kF bF (aJ (pv 0) (aJ (su (v:=.ref _) rfl mM rfl) aO)))),?_⟩;refine⟨_,rfl,λaI s1 I=>⟨aw,fM,d.aQ,λvs H' Q=>JW K vs H' Q E0,λi vs H'=>jj K H' (gg [.cW d] i) vs.reverse,rfl,?_⟩⟩;refine⟨hw,vb,ph.Pq GM FM bM,?_,λi vs H1 H2 h tp=>h.tup tp,λi vs H1 h=>?_,λi hi=>?_,λi n vs H1 h g=>?_,λi x vs H1 h g=>?_,?_,λtd aR vs v H' s' h1 h2 h3=>?_⟩
  ·show jj K H (gg [.cW d] d.aQ.length) _;have e:=QK (ts:=[.cW d]);rw[ew]at e;rw[e];exact .nil
  ·have e:=h.len;have z:=QL (ts:=[.cW d]) (i:=i);rw[List.length_reverse]at e;rw[ew]at z;lia
  ·obtain⟨t,r,e1,e2,e3⟩:=wZ (ts:=[.cW d]) (i:=i) (by rw[ew];exact hi);rw[ew]at e2;rw[e2];cases t with
   |num n=>exact .inr ⟨n,rfl⟩
   |cW d'=>cases d'<;>exact .inl ⟨_,rfl⟩
  ·obtain⟨t,r,e1,e2,e3⟩:=wZ (ts:=[.cW d]) (i:=i) (by rw[ew];exact(dB.mp h).1);rw[ew,h]at e2;cases t with
   |num m=>
    have e2:n=m:=V.int.inj (c8 e2);subst e2;have g:jj K H1 (gg [.cW d] (i+1)) vs.reverse:=g;rw[e3]at g;show jj K H1 (gg [.cW d] i) (vs++[V.int n]).reverse;rw[e1,vF];exact .cons rfl g
   |cW d'=>cases d'<;>cases e2
  ·obtain⟨t,r,e1,e2,e3⟩:=wZ (ts:=[.cW d]) (i:=i) (by rw[ew];exact(dB.mp h).1);rw[ew,h]at e2;have zy:t.wf p:=JP i JR t (by rw[e1];exact ek);have g:jj K H1 (gg [.cW d] (i+1)) vs.reverse:=g;rw[e3]at g;obtain⟨xs,ys,ev,g1,g2⟩:=g.split;have JS:vs=ys.reverse++xs.reverse:=by rw[← vF,← ev,List.reverse_reverse]
   refine⟨ys.reverse,xs,JS,?_,?_⟩
   ·have el:=g1.len;rw[el];cases t with
    |num m=>cases e2
    |cW d'=>
     cases d' with
     |box x' l' r' cy=>
      have e2:x=x':=V.str.inj (c8 e2);subst e2;exact(QM _ zy.1).symm
     |times n=>have e2:x=_:=V.str.inj (c8 e2);subst e2;exact Qv.symm
     |back d'=>have e2:x=_:=V.str.inj (c8 e2);subst e2;exact Qu.symm
     |cC a b=>have e2:x=_:=V.str.inj (c8 e2);subst e2;exact QN.symm
     |bc a b=>have e2:x=_:=V.str.inj (c8 e2);subst e2;exact QO.symm
   ·intro pa H2 Q' tp hp hq;refine⟨_,_,pa,_,rfl,hp,?_⟩;have g1:=g1.tup tp;have g2:=g2.tup tp;have fin:∀v H3,aK H2 H3→zC K H3 t (.ref v)→Q' (.ref v) H3:=λv H3 s3 hv=>hq (.ref v) H3 s3 (by
     show jj K H3 (gg [.cW d] i) _;rw[e1,vF,List.reverse_reverse];exact .cons hv (g2.tup s3.tup))
    cases t with
    |num m=>cases e2
    |cW d'=>
     obtain⟨qw,cR⟩:=zy;cases d' with
     |box x' l' r' cy=>
      have e2:x=x':=V.str.inj (c8 e2);subst e2;exact .box _ _ _ qw λv H3 s3 hv=>fin v H3 s3 ⟨v,rfl,hv⟩
     |times n=>
      have e2:x=_:=V.str.inj (c8 e2);exact .times e2 λv H3 s3 hv=>fin v H3 s3 ⟨v,rfl,hv⟩
     |back d'=>
      have e2:x=_:=V.str.inj (c8 e2);cases g1 with
      |cons h1 r1=>
       cases r1;obtain⟨a,rfl,hf⟩:=h1;exact .back a _ _ e2 rfl hf λv H3 s3 hv=>fin v H3 s3 ⟨v,rfl,hv⟩
     |cC a b=>
      have e2:x=_:=V.str.inj (c8 e2);cases g1 with
      |cons h1 r1=>
       cases r1 with
       |cons h2 r2=>
        cases r2;obtain⟨a1,rfl,hf⟩:=h1;obtain⟨a2,rfl,ju⟩:=h2;exact .cC a1 a2 _ _ _ _ e2 rfl hf ju λv H3 s3 hv=>fin v H3 s3 ⟨v,rfl,hv⟩
     |bc a b=>
      have e2:x=_:=V.str.inj (c8 e2);cases g1 with
      |cons h1 r1=>
       cases r1 with
       |cons h2 r2=>
        cases r2;obtain⟨a1,rfl,hf⟩:=h1;obtain⟨a2,rfl,ju⟩:=h2;rw[← qw.2.2]at ju;exact .bc a1 a2 _ _ _ e2 rfl hf ju λv H3 s3 hv=>fin v H3 s3 ⟨v,rfl,hv⟩
  ·cases d<;>exact⟨_,rfl⟩
  ·have h3:jj K H' [.cW d] (vs++[v]).reverse:=h3;rw[vF]at h3;cases h3 with
   |cons hv r=>
    obtain⟨a,rfl,hf⟩:=hv;exact⟨td,aR,_,rfl,h1,h2,q a H' s' hf⟩
def Rq(K:Frag):Sp:=λvs H Q _=>∃(p:Int)(aw:Addr)(d:Drw),vs=[.ref aw]∧d.wf p∧d.sm∧d.aQ.length≤900000∧bf K H aw d.aQ∧∀v H',aK H H'→bf K H' v [.int (d.dG:Int),.int (d.df:Int)]→Q (.ref v) H'
theorem Rr(F:cA K "wires" "wires" Cy f fd)
  (GM:br P w K mg base bp 5 fM jf ["words"] (Ro K)) (kM:Kp K fM) (bM:Binds K jf ["words"] []) (mM:Mg mg "measured" fM):br P w K mg base bp 6 f fd ["words"] (Rq K):=by
 refine F.ok Qh (λvs H Q E h=>?_) (λbE A outer s H vs Q E hr h=>?_)
 ·obtain⟨p,aw,d,rfl,_⟩:=h;rfl
 ·obtain⟨p,aw,d,rfl,hd,va,vb,hw,q⟩:=h;refine⟨_,bq (bV (dD (ip K rfl) (bZ GM hr rfl mM kM bM .nil cb (aJ (pv 0) aO)) dQ (dj aW))),?_⟩;refine⟨_,rfl,p,aw,d,rfl,hd,va,vb,hw,λv H1 s1 hv=>?_⟩;exact⟨_,rfl,v,_,rfl,hv,λt H2 s2 ht=>q t H2 (s1.trans s2) ht⟩
theorem DA:(["place","number","rows"]:List Str).Nodup:=by decide +kernel
theorem Rt:(["other","place"]:List Str).Nodup:=by decide +kernel
def Ru(K:Frag):Sp:=λvs H Q _=>∃(p:Int)(a b':Addr)(b:Bool)(XS:List V)(rs:LL)(r:List Int)(n:Nat),vs=[.int p,.ref a,.ref b']∧p∈cq∧Sq b K H a XS∧bj K H XS (rs.map cj)∧bo p n rs∧rs.length≤900∧n≤900∧bf K H b' (r.map V.int)∧Rw p n r∧
 ((∀H',aK H H'→(∀f:Fn,¬ ∀j,j<n→p∣dot f (fn (rs.map λq=>q.getD j 0)) rs.length-r.getD j 0)→Q .ck H')∧
   ∀t fs H',aK H H'→bf K H' t (List.map V.int fs)→Rw p rs.length fs→(∀j,j<n→p∣dot (fn fs) (fn (rs.map λq=>q.getD j 0)) rs.length-r.getD j 0)→Q (.ref t) H')
noncomputable abbrev nF:List Str:=["p","rows","row","count","place","asked","factors","known"]
theorem pE:cT ["p","rows","row","count","place","asked","factors","known"] ["p","rows","row"] (bu za):=de rfl rfl rfl (by decide +kernel) rfl
theorem Rx{fD:Addr}{mf:FuncData}(F:cA K "factors_of" "factors_of" za f fd)(T:Txt mg)
  (GD:br P w K mg base bp 3 fD mf ["p","rows"] (tE K)) (kD:Kp K fD) (bD:Binds K mf ["p","rows"] []) (mD:Mg mg "reduced" fD)
  (GF:br P w K mg base bp 1 fF ox ["row"] (PY K)) (kF:Kp K fF) (bF:Binds K ox ["row"] []) (mF:Mg mg "first_place" fF) :
  br P w K mg base bp 4 f fd ["p","rows","row"] (Ru K):=by
 refine F.ok pE (λvs H Q E h=>?_) (λbE A outer s H vs Q E hr h=>?_)
 ·obtain⟨p,a,b',b,XS,rs,r,n,rfl,_⟩:=h;rfl
 ·obtain⟨p,a,b',b,XS,rs,r,n,rfl,pp,hq,hA,hR,hz,hn,iU,jv,k⟩:=h;obtain⟨p2,je⟩:=fe p pp;have p0:0<p:=by lia
  have iM:dt 1 _:=hr.mono (by decide);have i7:(1000:Nat)≤sizeLine:=by decide
  cases b with
  |true=>
   refine⟨_,ba (bH (i:=3) pE.nd rfl (.inl rfl) (eG (gk K rfl) rfl T.len gm (aJ (pv 1) aO))) (ba (kh (i:=5) (N:=["place","number","rows"]) (own:=2) (caps:=[1]) rfl pE.nd rfl rfl (HB K rfl false rfl T.enumerate (aJ (pv 2) aO)) (show dJ nF (bu za) ["place","number","rows"] 2 [1] _ from .mk' (by decide +kernel)) (λ_ _ _ _ _=>yN (n:=2) K rfl rfl (eF (cx (i:=0) DA rfl (Or.inr rfl)) (eF (cx (i:=1) DA rfl (.inl rfl)) lX))) (λ_ _ _ _ _=>fq) (λ_ _ _ _ _=>aX (dh K rfl) (gz (l6 K rfl) rfl T.tuple lJ (aJ (iV (N:=["other","place"]) (own:=1) (caps:=[0]) rfl (iZ K rfl (pv 2)) (show dJ ["place","number","rows"] _ ["other","place"] 1 [0] _ from .mk' (by kernel_rfl)) (λ_ _ _ _ _=>cx (i:=0) Rt rfl (.inl rfl)) (λ_ _ _ _ _=>fq) (λ_ _ _ _ _=>bt (cH K rfl) (pv 0) (pv 1) (λ_ _=>rfl))) aO)) (c7 (aJ (pv 1) aO)))) (ba (bH (i:=6) pE.nd rfl (.inl rfl) (aX nY (cE (aJ aW aO)) (pv 3))) (ba (kc lD rfl (oa K rfl (bZ GD hr rfl mD kD bD .nil cb (aJ (pv 0) (aJ (pv 5) aO)))) (cx (i:=7) pE.nd rfl (.inl rfl)) (ba (bH (i:=4) pE.nd rfl (.inl rfl) (bZ GF iM rfl mF kF bF .nil cb (aJ (pv 7) aO))) (ba (cX (cM eO (pv 4) (pv 3) (cJ _)) (bq (bV oY)) dy) (bq (mK (bt (cH K rfl) (pv 7) (pv 3) (λ_ _=>rfl)) (Bc (pv 6) (pv 4) Bq)))))) (bq (bV (gz (l6 K rfl) rfl T.tuple lJ (aJ (pv 6) aO))))))),?_⟩
   have cF:=fg hA;refine⟨_,rfl,a,XS,rfl,.inl hq,?_⟩;rw[cF];have ex:(r.map V.int).length=n:=by rw[aZ,jv.1]
   refine⟨_,rfl,b',rfl,⟨_,iU⟩,Hv (b:=false) (cp:=[some (.ref a)]) (λi H' zs=>bj K H' zs (((List.range i).map (ko rs r)).map cj)) iU (by rw[ex];lia) .nil (λi H' zs h=>by rw[fg h,aZ,qL];exact cu _) (λi H1 H2 zs e h=>h.mono e) ?_ ?_⟩
   ·rintro i x H1 zs hx sm h;have hi:i<n:=by rw[← ex];exact(dB.mp hx).1
    have gF:x=.int (r.getD i 0):=by
     rw[jF (by rw[jv.1];exact hi)]at hx;exact(c8 hx).symm
    subst gF;refine jc ⟨_,rfl,a,rfl,⟨_,(aK.sq (b:=true)) sm hq⟩,n9 (cp:=[some (.int (i:Int))]) (λj H' zs=>zs=((rs.take j).map λq=>q.getD i 0).map V.int) ((aK.sq (b:=true)) sm hq) (by lia) rfl (λj H' zs e=>by rw[e,aZ,aZ,cB];lia) ?_ ?_⟩
    ·rintro j y H2 uL hy eh rfl;obtain⟨q,qa,zD,rfl,rN⟩:=jd hA hy;have JY:i<q.length:=by rw[(hR q (cZ zD)).1];exact hi
     refine jc ⟨_,rfl,_,rfl,qa,_,(i:Int),_,rfl,rfl,(sm.trans eh).bh rN,bw (jF JY),⟨[_],rfl,rfl⟩,eh,?_⟩;rw[gK,zD];simp
    rintro H2 uL eh rfl lq pF;rw[cF,lT];refine⟨lq,_,rfl,.inl ⟨.of aV,λlt cR=>?_⟩⟩;refine⟨_,rfl,(by show 1≤sizeLine;lia),λl1 h1=>⟨lt,l1,((rs.map λq=>q.getD i 0).map V.int),[.int (r.getD i 0)],rfl,rfl,(aK.upd h1).bh (.of aV),.of aV,?_,λt H3 iF ht=>?_⟩⟩
    ·rw[aZ,aZ];show rs.length+1≤sizeLine;lia
    have vc:=((eh.trans (aK.upd pF)).trans (aK.upd cR)).trans ((aK.upd h1).trans iF);refine⟨⟨[_,_],rfl,rfl⟩,sm.trans vc,?_⟩;rw[List.range_succ,dC,dC];refine(h.mono vc).append (.cons (kj ?_) .nil);show bf K H3 t ((rs.map (λq=>q.getD i 0)++[r.getD i 0]).map V.int);rw[dC];exact ht
   rintro H1 AS ky zE la jW;rw[ex]at zE;have eh:aK H (upd H1 la (.lst AS)):=ky.trans (.upd jW);have g2:(upd H1 la (.lst AS)) la=some (.lst AS):=aV;have rO:=zE.mono (aK.upd jW (o:=.lst AS));generalize upd H1 la (.lst AS)=H2 at eh g2 rO ⊢;have tR:bo p (rs.length+1) ((List.range n).map (ko rs r)):=λx hx=>by
    obtain⟨j,hj,rfl⟩:=cP.mp hx;exact OM p0 hR jv
   refine⟨by decide,λl1 h1=>⟨_,rfl,l1,(rs.length:Int),_,rfl,rfl,aV,by lia,by lia,(by show 1*((rs.length:Nat):Int).toNat≤sizeLine;lia),λlf qv=>?_⟩⟩;have e0:(List.replicate ((rs.length:Nat):Int).toNat [V.int 0]).flatten=(List.replicate rs.length (0:Int)).map V.int:=by rw[Int.toNat_natCast,IZ,AN]
   rw[e0];have iF:aK H2 (upd (upd H2 l1 (.lst [.int 0])) lf (.lst ((List.replicate rs.length (0:Int)).map V.int))):=(aK.upd h1).trans (.upd qv);have g3:(upd (upd H2 l1 (.lst [.int 0])) lf (.lst ((List.replicate rs.length (0:Int)).map V.int))) lf=some (.lst ((List.replicate rs.length (0:Int)).map V.int)):=aV;have n3:H2 lf=none:=gp (aK.upd h1) qv;generalize upd (upd H2 l1 (.lst [.int 0])) lf (.lst ((List.replicate rs.length (0:Int)).map V.int))=H3 at iF g3 ⊢;refine⟨_,rfl,_,rfl,p,la,true,AS,_,rs.length+1,rfl,pp,.of (iF _ _ g2),rO.mono iF,by rw[aZ,qL];lia,by lia,tR,λt H4 DS jG ht hD=>?_⟩;have RO:=gZ pp tR;obtain⟨ls,EC⟩:=RO.ig;generalize cD p ((List.range n).map (ko rs r))=D at RO EC hD;have eD:=fg hD;refine⟨t,rfl,⟨_,ht⟩,FZ (xs:=DS) (λi σ H'=>aK H2 H'∧bf K H' t DS∧bj K H' DS (D.map cj)∧∃s4 s7 fs,σ=[some (.int p),some (.ref a),some (.ref b'),some (.int (rs.length:Int)),s4,some (.ref la),some (.ref lf),s7]∧H' lf=some (.lst (List.map V.int fs))∧FI p rs.length D ls i fs) ⟨iF.trans jG,ht,hD,_,_,List.replicate rs.length 0,rfl,jG _ _ g3,FI.start p0⟩ (λi σ H' _ h=>h.2.1) ?_ ?_⟩
   ·rintro i x σ H5 hx ⟨fZ,tI,vd,s4,s7,fs,rfl,g5,hF⟩;obtain⟨q,qa,pG,rfl,rN⟩:=jd vd hx;have rP:=RO.rws q (cZ pG);have jU:i<ls.length:=by rw[EC.len];exact(dB.mp pG).1
    have n6:ls[i]?=some ls[i]:=cf jU;have zF:=EC.lt _ (cZ n6);obtain⟨o1,o0⟩:=EC.one i q _ pG n6;generalize ls[i]=l at n6 zF o1 o0;obtain⟨tl,kf⟩:=OI rP.1 zF o1 o0;refine⟨_,rfl,qa,q,l,tl,rfl,rN,by rw[rP.1];lia,kf,λH6 i6=>?_⟩;refine⟨_,rfl,_,rfl,rfl,_,rfl,uJ (λhe=>?_) (λcS=>?_)⟩
    ·have hl:l=rs.length:=by
      have:=V.int.inj (aG he)
      lia
     rw[hl]at o1 o0;refine k.1 H6 ((eh.trans fZ).trans i6) λf h=>OK pp RO (cZ pG) o1 o0 f λx hx=>?_;obtain⟨j,hj,rfl⟩:=cP.mp hx;rw[B9,B8];exact h j (jq.mp hj)
    ·have nh:l<rs.length:=by
      have:l≠rs.length:=λz=>cS (aC (by rw[z]))
      lia
     refine⟨_,rfl,_,rfl,qa,_,(rs.length:Int),_,rfl,rfl,i6.bh rN,bw (jF (by rw[rP.1];lia)),_,rfl,_,rfl,lf,_,(l:Int),l,rfl,rfl,i6 _ _ g5,?_,?_⟩
     ·unfold mZ;rw[ae (by lia),ae (by rw[aZ,hF.rw.1];lia)];simp
     ·refine⟨(fZ.trans i6).write n3,bf.wr (i6.bh tI) (i6 _ _ g5),bj.wr (i6 _ _ g5) (vd.mono i6),_,_,fs.set l (q.getD rs.length 0),rfl,by rw[aV,List.map_set],hF.step p0 EC.up rP n6 pG nh⟩
   ·rintro σ H5 ⟨fZ,tI,vd,s4,s7,fs,rfl,g5,hF⟩;refine⟨_,rfl,lf,_,rfl,.inl ⟨.of g5,λlt cR=>k.2 lt fs _ ((eh.trans fZ).trans (.upd cR)) (.of aV) hF.rw λj hj=>?_⟩⟩;rw[eD]at hF;have JZ:∀l∈ls,l<rs.length:=λl hl=>by
     obtain⟨i,hi,rfl⟩:=my.mp hl;exact hF.lt i _ (by rw[← EC.len];exact hi) (cf hi)
    have:=OL RO EC JZ (ko rs r j) (cP.mpr ⟨j,jq.mpr hj,rfl⟩)
    rw[B9,B8]at this;have e:dot (fn fs) (fn (rs.map λq=>q.getD j 0)) rs.length=dot (λk=>dF (ff D ls) k rs.length) (fn (rs.map λq=>q.getD j 0)) rs.length:=wq λk _=>by
     show fs.getD k 0*_=_;rw[hF.done EC.up EC.len k]
    rw[e];exact this
  |false=>
   refine⟨_,ba (bH (i:=3) pE.nd rfl (.inl rfl) (eG (gk K rfl) rfl T.len gm (aJ (pv 1) aO))) (ba (kh (i:=5) (N:=["place","number","rows"]) (own:=2) (caps:=[1]) rfl pE.nd rfl rfl (HB K rfl false rfl T.enumerate (aJ (pv 2) aO)) (show dJ nF (bu za) ["place","number","rows"] 2 [1] _ from .mk' (by decide +kernel)) (λ_ _ _ _ _=>yN (n:=2) K rfl rfl (eF (cx (i:=0) DA rfl (Or.inr rfl)) (eF (cx (i:=1) DA rfl (.inl rfl)) lX))) (λ_ _ _ _ _=>fq) (λ_ _ _ _ _=>aX (dh K rfl) (gz (l6 K rfl) rfl T.tuple lJ (aJ (iV (N:=["other","place"]) (own:=1) (caps:=[0]) rfl (oa K rfl (pv 2)) (show dJ ["place","number","rows"] _ ["other","place"] 1 [0] _ from .mk' (by kernel_rfl)) (λ_ _ _ _ _=>cx (i:=0) Rt rfl (.inl rfl)) (λ_ _ _ _ _=>fq) (λ_ _ _ _ _=>bt (cH K rfl) (pv 0) (pv 1) (λ_ _=>rfl))) aO)) (c7 (aJ (pv 1) aO)))) (ba (bH (i:=6) pE.nd rfl (.inl rfl) (aX nY (cE (aJ aW aO)) (pv 3))) (ba (kc lD rfl (oa K rfl (bZ GD hr rfl mD kD bD .nil cb (aJ (pv 0) (aJ (pv 5) aO)))) (cx (i:=7) pE.nd rfl (.inl rfl)) (ba (bH (i:=4) pE.nd rfl (.inl rfl) (bZ GF iM rfl mF kF bF .nil cb (aJ (pv 7) aO))) (ba (cX (cM eO (pv 4) (pv 3) (cJ _)) (bq (bV oY)) dy) (bq (mK (bt (cH K rfl) (pv 7) (pv 3) (λ_ _=>rfl)) (Bc (pv 6) (pv 4) Bq)))))) (bq (bV (gz (l6 K rfl) rfl T.tuple lJ (aJ (pv 6) aO))))))),?_⟩
   have cF:=fg hA;refine⟨_,rfl,a,XS,rfl,.inr hq,?_⟩;rw[cF];have ex:(r.map V.int).length=n:=by rw[aZ,jv.1]
   refine⟨_,rfl,b',rfl,⟨_,iU⟩,Hv (b:=false) (cp:=[some (.ref a)]) (λi H' zs=>bj K H' zs (((List.range i).map (ko rs r)).map cj)) iU (by rw[ex];lia) .nil (λi H' zs h=>by rw[fg h,aZ,qL];exact cu _) (λi H1 H2 zs e h=>h.mono e) ?_ ?_⟩
   ·rintro i x H1 zs hx sm h;have hi:i<n:=by rw[← ex];exact(dB.mp hx).1
    have gF:x=.int (r.getD i 0):=by
     rw[jF (by rw[jv.1];exact hi)]at hx;exact(c8 hx).symm
    subst gF;refine jc ⟨_,rfl,a,rfl,⟨_,(aK.sq (b:=false)) sm hq⟩,we (cp:=[some (.int (i:Int))]) (λj H' zs=>zs=((rs.take j).map λq=>q.getD i 0).map V.int) ((aK.sq (b:=false)) sm hq) (by lia) rfl (λj H' zs e=>by rw[e,aZ,aZ,cB];lia) ?_ ?_⟩
    ·rintro j y H2 uL hy eh rfl;obtain⟨q,qa,zD,rfl,rN⟩:=jd hA hy;have JY:i<q.length:=by rw[(hR q (cZ zD)).1];exact hi
     refine jc ⟨_,rfl,_,rfl,qa,_,(i:Int),_,rfl,rfl,(sm.trans eh).bh rN,bw (jF JY),⟨[_],rfl,rfl⟩,eh,?_⟩;rw[gK,zD];simp
    rintro H2 uL eh rfl lq pF;rw[cF,lT];refine⟨lq,_,rfl,.inl ⟨.of aV,λlt cR=>?_⟩⟩;refine⟨_,rfl,(by show 1≤sizeLine;lia),λl1 h1=>⟨lt,l1,((rs.map λq=>q.getD i 0).map V.int),[.int (r.getD i 0)],rfl,rfl,(aK.upd h1).bh (.of aV),.of aV,?_,λt H3 iF ht=>?_⟩⟩
    ·rw[aZ,aZ];show rs.length+1≤sizeLine;lia
    have vc:=((eh.trans (aK.upd pF)).trans (aK.upd cR)).trans ((aK.upd h1).trans iF);refine⟨⟨[_,_],rfl,rfl⟩,sm.trans vc,?_⟩;rw[List.range_succ,dC,dC];refine(h.mono vc).append (.cons (kj ?_) .nil);show bf K H3 t ((rs.map (λq=>q.getD i 0)++[r.getD i 0]).map V.int);rw[dC];exact ht
   rintro H1 AS ky zE la jW;rw[ex]at zE;have eh:aK H (upd H1 la (.lst AS)):=ky.trans (.upd jW);have g2:(upd H1 la (.lst AS)) la=some (.lst AS):=aV;have rO:=zE.mono (aK.upd jW (o:=.lst AS));generalize upd H1 la (.lst AS)=H2 at eh g2 rO ⊢;have tR:bo p (rs.length+1) ((List.range n).map (ko rs r)):=λx hx=>by
    obtain⟨j,hj,rfl⟩:=cP.mp hx;exact OM p0 hR jv
   refine⟨by decide,λl1 h1=>⟨_,rfl,l1,(rs.length:Int),_,rfl,rfl,aV,by lia,by lia,(by show 1*((rs.length:Nat):Int).toNat≤sizeLine;lia),λlf qv=>?_⟩⟩;have e0:(List.replicate ((rs.length:Nat):Int).toNat [V.int 0]).flatten=(List.replicate rs.length (0:Int)).map V.int:=by rw[Int.toNat_natCast,IZ,AN]
   rw[e0];have iF:aK H2 (upd (upd H2 l1 (.lst [.int 0])) lf (.lst ((List.replicate rs.length (0:Int)).map V.int))):=(aK.upd h1).trans (.upd qv);have g3:(upd (upd H2 l1 (.lst [.int 0])) lf (.lst ((List.replicate rs.length (0:Int)).map V.int))) lf=some (.lst ((List.replicate rs.length (0:Int)).map V.int)):=aV;have n3:H2 lf=none:=gp (aK.upd h1) qv;generalize upd (upd H2 l1 (.lst [.int 0])) lf (.lst ((List.replicate rs.length (0:Int)).map V.int))=H3 at iF g3 ⊢;refine⟨_,rfl,_,rfl,p,la,true,AS,_,rs.length+1,rfl,pp,.of (iF _ _ g2),rO.mono iF,by rw[aZ,qL];lia,by lia,tR,λt H4 DS jG ht hD=>?_⟩;have RO:=gZ pp tR;obtain⟨ls,EC⟩:=RO.ig;generalize cD p ((List.range n).map (ko rs r))=D at RO EC hD;have eD:=fg hD;refine⟨t,rfl,⟨_,ht⟩,FZ (xs:=DS) (λi σ H'=>aK H2 H'∧bf K H' t DS∧bj K H' DS (D.map cj)∧∃s4 s7 fs,σ=[some (.int p),some (.ref a),some (.ref b'),some (.int (rs.length:Int)),s4,some (.ref la),some (.ref lf),s7]∧H' lf=some (.lst (List.map V.int fs))∧FI p rs.length D ls i fs) ⟨iF.trans jG,ht,hD,_,_,List.replicate rs.length 0,rfl,jG _ _ g3,FI.start p0⟩ (λi σ H' _ h=>h.2.1) ?_ ?_⟩
   ·rintro i x σ H5 hx ⟨fZ,tI,vd,s4,s7,fs,rfl,g5,hF⟩;obtain⟨q,qa,pG,rfl,rN⟩:=jd vd hx;have rP:=RO.rws q (cZ pG);have jU:i<ls.length:=by rw[EC.len];exact(dB.mp pG).1
    have n6:ls[i]?=some ls[i]:=cf jU;have zF:=EC.lt _ (cZ n6);obtain⟨o1,o0⟩:=EC.one i q _ pG n6;generalize ls[i]=l at n6 zF o1 o0;obtain⟨tl,kf⟩:=OI rP.1 zF o1 o0;refine⟨_,rfl,qa,q,l,tl,rfl,rN,by rw[rP.1];lia,kf,λH6 i6=>?_⟩;refine⟨_,rfl,_,rfl,rfl,_,rfl,uJ (λhe=>?_) (λcS=>?_)⟩
    ·have hl:l=rs.length:=by
      have:=V.int.inj (aG he)
      lia
     rw[hl]at o1 o0;refine k.1 H6 ((eh.trans fZ).trans i6) λf h=>OK pp RO (cZ pG) o1 o0 f λx hx=>?_;obtain⟨j,hj,rfl⟩:=cP.mp hx;rw[B9,B8];exact h j (jq.mp hj)
    ·have nh:l<rs.length:=by
      have:l≠rs.length:=λz=>cS (aC (by rw[z]))
      lia
     refine⟨_,rfl,_,rfl,qa,_,(rs.length:Int),_,rfl,rfl,i6.bh rN,bw (jF (by rw[rP.1];lia)),_,rfl,_,rfl,lf,_,(l:Int),l,rfl,rfl,i6 _ _ g5,?_,?_⟩
     ·unfold mZ;rw[ae (by lia),ae (by rw[aZ,hF.rw.1];lia)];simp
     ·refine⟨(fZ.trans i6).write n3,bf.wr (i6.bh tI) (i6 _ _ g5),bj.wr (i6 _ _ g5) (vd.mono i6),_,_,fs.set l (q.getD rs.length 0),rfl,by rw[aV,List.map_set],hF.step p0 EC.up rP n6 pG nh⟩
   ·rintro σ H5 ⟨fZ,tI,vd,s4,s7,fs,rfl,g5,hF⟩;refine⟨_,rfl,lf,_,rfl,.inl ⟨.of g5,λlt cR=>k.2 lt fs _ ((eh.trans fZ).trans (.upd cR)) (.of aV) hF.rw λj hj=>?_⟩⟩;rw[eD]at hF;have JZ:∀l∈ls,l<rs.length:=λl hl=>by
     obtain⟨i,hi,rfl⟩:=my.mp hl;exact hF.lt i _ (by rw[← EC.len];exact hi) (cf hi)
    have:=OL RO EC JZ (ko rs r j) (cP.mpr ⟨j,jq.mpr hj,rfl⟩)
    rw[B9,B8]at this;have e:dot (fn fs) (fn (rs.map λq=>q.getD j 0)) rs.length=dot (λk=>dF (ff D ls) k rs.length) (fn (rs.map λq=>q.getD j 0)) rs.length:=wq λk _=>by
     show fs.getD k 0*_=_;rw[hF.done EC.up EC.len k]
    rw[e];exact this
end S21
namespace D1
open Bw
variable{a b p:Int}{hi lo:Nat}
noncomputable def jk(p:Int)(k:Nat)(h:List Int):List Int:=h.map λx=>x*dO p (h.getD k 0%p)%p
noncomputable def jE(p:Int)(k:Nat)(s:LL×LL):LL×LL:=
 match s.2.findIdx? (λr=>r.getD k 0%p != 0) with
 |none=>s
 |some i=>(s.1.map (gW p k (jk p k (s.2.getD i [])))++[jk p k (s.2.getD i [])],(s.2.eraseIdx i).map (gW p k (jk p k (s.2.getD i []))))
noncomputable def fj(p:Int)(lo:Nat)(L:LL):Nat→LL×LL
 |0=>([],L)
 |c+1=>jE p (lo+c) (fj p lo L c)
section
variable{p:Int}{n k:Nat}{h:List Int}{L T D:LL}
theorem ve:(jk p k h).length=h.length:=by simp[jk]
theorem acz(p0:0<p)(hl:h.length=n):Rw p n (jk p k h):=⟨by rw[ve,hl],λx hx=>by
 obtain⟨y,_,rfl⟩:=cP.mp hx;exact⟨lR _ (by lia),lS _ p0⟩⟩
theorem J0(hp:p∈cq){x:Int}(h0:x%p≠0):1≤dO p (x%p)∧dO p (x%p)<p∧dO p (x%p)*x%p=1:=by
 have p0:0<p:=by have:=fe p hp;lia
 have a:=lR x (show p≠0 by lia);have b:=lS x p0;obtain⟨t1,t2,t3⟩:=wk hp (n:=x%p) (by lia) b;refine⟨t1,t2,?_⟩;rw[← t3,Int.mul_emod,Int.mul_emod (dO p (x%p)) (x%p),Int.emod_emod]
theorem acA(hl:h.length=n)(j:Nat):p∣(jk p k h).getD j 0-h.getD j 0*dO p (h.getD k 0%p):=by
 by_cases hj:j<n
 ·rw[show jk p k h=h.map λx=>x*dO p (h.getD k 0%p)%p from rfl,OH hl hj]
  exact l7 _ _
 ·rw[cO,lC (by rw[ve];lia),cO,lC (by lia)];exact⟨0,by simp⟩
theorem acB(hp:p∈cq)(hh:Rw p n h)(h0:h.getD k 0≠0):jk p k h=ee p n h k:=by
 have p0:0<p:=by have:=fe p hp;lia
 have b:=hh.at p0 k;have e:h.getD k 0%p=h.getD k 0:=Int.emod_eq_of_lt b.1 b.2;have t:=J0 hp (x:=h.getD k 0) (by rw[e];exact h0);exact abg hp hh h0 t.1 t.2.1 t.2.2
theorem find_some{α:Type}{f:α→Bool}:∀{T:List α}{i:Nat},T.findIdx? f=some i→∃h,T[i]?=some h∧f h=true∧∀j q,j<i→T[j]?=some q→f q=false:=by
 intro T i e;rw[List.findIdx?_eq_some_iff_getElem]at e;obtain⟨hi,h1,h2⟩:=e;refine⟨T[i],cf hi,h1,λj q hj hq=>?_⟩;obtain⟨hl,rfl⟩:=dB.mp hq
 have:=h2 j hj
 simpa using this
theorem DB{α:Type}{T:List α}{i:Nat}{h d:α}(e:T[i]?=some h):T.getD i d=h:=by rw[cO,e];rfl
theorem zG(hp:p∈cq)(hL:Bw.bo p n L):∀c,c≤n→js p n L c (fj p 0 L c)
 |0,_=>.start hL
 |c+1,hc=>by
  have p0:0<p:=by have:=fe p hp;lia
  have I:=zG hp hL c (by lia);show js p n L (c+1) (jE p (0+c) (fj p 0 L c));rw[uf];generalize fj p 0 L c=s at I;obtain⟨D,T⟩:=s;have J1:∀r∈T,r.getD c 0%p=r.getD c 0:=λr hr=>Int.emod_eq_of_lt ((I.r r hr).at p0 c).1 ((I.r r hr).at p0 c).2;unfold jE;split
  ·rename_i e
   refine I.skip λr hr=>?_;rw[List.findIdx?_eq_none_iff]at e
   have:=e r hr
   rw[J1 r hr]at this;simpa using this
  ·rename_i i e
   obtain⟨h,hi,h1,h2⟩:=find_some e;have hm:=cZ hi;have nE:h.getD c 0≠0:=by
    rw[J1 h hm]at h1;simpa using h1
   have S:=I.head hp (by lia) hi nE (λj q hj hq=>by
    have:=h2 j q hj hq
    rw[J1 q (cZ hq)]at this;simpa using this)
   dsimp only at hi;dsimp only;rw[DB hi,acB hp (I.r h hm) nE];have kn:=yS (place:=c) p0 (I.r h hm);have Ry:∀{M:LL},Bw.bo p n M→M.map (eI p (ee p n h c) c)=M.map (gW p c (ee p n h c)):=λhM=>sk λr hr=>(abf p0 kn (hM r hr)).symm;rw[Ry I.d,Ry (λr hr=>I.r r (x5 hr))]at S;exact S
theorem zH(hp:p∈cq)(hL:Bw.bo p n L):(fj p 0 L n).1=cD p L:=by
 have:=zG hp hL n (cu _)
 generalize fj p 0 L n=s at this;obtain⟨D,T⟩:=s;exact this.done hp hL
theorem J2{j:Nat}{f:Fn}(hL:∀r∈L,p∣r.getD j 0)(h:Sp p (RS L) f):p∣f j:=by
 induction h with
 |zero=>exact⟨0,by simp⟩
 | @add v r c _ hr ih=>
  obtain⟨q,hq,rfl⟩:=hr;exact p6 ih (Int.dvd_trans (hL q hq) ⟨c,by show c*q.getD j 0=_;rw[sj]⟩)
 | @e8 u v _ e ih=>exact aa9 ih (e j)
structure oG(p:Int)(n lo hi c:Nat)(L:LL)(T:LL):Prop where
 len:∀r∈T,r.length=n
 near:∀r∈T,∀x∈r,-p<x∧x<p
 pos:∀r∈T,∀j,(j<lo∨hi≤j)→0≤r.getD j 0
 sp:∀f:Fn,Sp p (RS T) f↔Sp p (RS L) f∧∀j,lo≤j→j<lo+c→p∣f j
theorem oG.start(h1:∀r∈L,r.length=n)(h2:∀r∈L,∀x∈r,-p<x∧x<p)(h3:∀r∈L,∀j,(j<lo∨hi≤j)→0≤r.getD j 0):oG p n lo hi 0 L L:=
 ⟨h1,h2,h3,λf=>⟨λh=>⟨h,λj a b=>absurd b (by lia)⟩,λh=>h.1⟩⟩
theorem DC(k:Nat){r h:List Int}(hr:r.length=n)(hh:h.length=n):gT p (λj=>fn r j + -(r.getD k 0)*fn h j) (fn (gW p k h r)):=Ow _ hr hh
theorem oG.step(hp:p∈cq){c:Nat}(I:oG p n lo hi c L T){i:Nat}{h:List Int}(i5:T[i]?=some h)(h0:h.getD (lo+c) 0%p≠0) :
  oG p n lo hi (c+1) L ((T.eraseIdx i).map (gW p (lo+c) (jk p (lo+c) h))):=by
 have p0:0<p:=by have:=fe p hp;lia
 have hm:=cZ i5;have hl:=I.len h hm;have t:=J0 hp h0;have ea:=λj=>acA (p:=p) (k:=lo+c) hl j;have sl:(jk p (lo+c) h).length=n:=by rw[ve,hl]
 generalize hk:lo+c=k at h0 t ea sl ⊢;generalize dO p (h.getD k 0%p)=u at t ea;have one:p∣(jk p k h).getD k 0-1:=by
  obtain⟨a,ha⟩:=ea k;obtain⟨b,hb⟩:=l7 p (u*h.getD k 0);rw[t.2.2]at hb;exact⟨a-b,by grind⟩
 generalize jk p k h=hd at ea sl one;have J3:∀r∈T.eraseIdx i,Rw p n (gW p k hd r):=λr hr=>yQ _ p0 (I.len r (x5 hr)) sl;refine⟨λr hr=>?_,λr hr x hx=>?_,λr hr j _=>?_,λf=>?_⟩
 ·obtain⟨q,hq,rfl⟩:=cP.mp hr;exact(J3 q hq).1
 ·obtain⟨q,hq,rfl⟩:=cP.mp hr
  have:=(J3 q hq).2 x hx
  lia
 ·obtain⟨q,hq,rfl⟩:=cP.mp hr;exact((J3 q hq).at p0 j).1
 ·have hdT:Sp p (RS T) (fn hd):=.e8 (Sp.add u .zero ⟨h,hm,rfl⟩) λj=>by
   obtain⟨a,ha⟩:=ea j;refine⟨-a,?_⟩;show 0+u*h.getD j 0-hd.getD j 0=_
   grind
  constructor
  ·intro hf;have hT:Sp p (RS T) f:=hf.trans λg hg=>by
    obtain⟨q,hq,rfl⟩:=hg;obtain⟨r,hr,rfl⟩:=cP.mp hq;have xf:=x5 hr;exact .e8 (Sp.plus _ (.mem ⟨r,xf,rfl⟩) hdT) (DC k (I.len r xf) sl)
   obtain⟨z1,z2⟩:=(I.sp f).mp hT;refine⟨z1,λj h1 h2=>?_⟩;by_cases hj:j<lo+c
   ·exact z2 j h1 hj
   ·have:j=k:=by lia
    subst this;refine J2 (λq hq=>?_) hf;obtain⟨r,hr,rfl⟩:=cP.mp hq;have xf:=x5 hr;obtain⟨a,ha⟩:=DC (p:=p) j (I.len r xf) sl j;obtain⟨b,hb⟩:=one;have rQ:r.getD j 0 + -(r.getD j 0)*hd.getD j 0-(gW p j hd r).getD j 0=p*a:=ha;exact⟨-a-b*r.getD j 0,by grind⟩
  ·rintro⟨z1,z2⟩;have hT:=(I.sp f).mpr ⟨z1,λj h1 h2=>z2 j h1 (by lia)⟩;have fk:p∣f k:=z2 k (by lia) (by lia);have key:∀{g:Fn},Sp p (RS T) g→∃(c:Int)(t:Fn),Sp p (RS ((T.eraseIdx i).map (gW p k hd))) t∧gT p (λj=>t j+c*hd.getD j 0) g:=by
    intro g hg;induction hg with
    |zero=>exact⟨0,_,.zero,λj=>⟨0,by simp⟩⟩
    | @add v q c0 _ hq ih=>
     obtain⟨c1,t1,ht,e1⟩:=ih;obtain⟨r,hr,rfl⟩:=hq;by_cases Rz:r=h
     ·subst Rz;refine⟨c1+c0*r.getD k 0,t1,ht,λj=>?_⟩;obtain⟨a,ha⟩:=e1 j;obtain⟨b,hb⟩:=ea j;obtain⟨d,AR⟩:=l7 p (u*r.getD k 0);rw[t.2.2]at AR;refine⟨a+c0*r.getD k 0*b-c0*r.getD j 0*d,?_⟩;show t1 j+(c1+c0*r.getD k 0)*hd.getD j 0-(v j+c0*r.getD j 0)=_;have rQ:t1 j+c1*hd.getD j 0-v j=p*a:=ha
      grind
     ·have hre:r∈T.eraseIdx i:=by
       obtain⟨m,zI⟩:=List.getElem?_of_mem hr;refine List.mem_eraseIdx_iff_getElem?.mpr ⟨m,?_,zI⟩;rintro rfl;rw[i5]at zI;exact Rz (c8 zI).symm
      refine⟨c1+c0*r.getD k 0,λj=>t1 j+c0*(gW p k hd r).getD j 0,Sp.add c0 ht ⟨_,cP.mpr ⟨r,hre,rfl⟩,rfl⟩,λj=>?_⟩;obtain⟨a,ha⟩:=e1 j;obtain⟨b,hb⟩:=DC (p:=p) k (I.len r hr) sl j;have rQ:t1 j+c1*hd.getD j 0-v j=p*a:=ha;have iU:r.getD j 0 + -(r.getD k 0)*hd.getD j 0-(gW p k hd r).getD j 0=p*b:=hb;refine⟨a-c0*b,?_⟩;show t1 j+c0*(gW p k hd r).getD j 0+(c1+c0*r.getD k 0)*hd.getD j 0-(v j+c0*r.getD j 0)=_
      grind
    | @e8 u' v' _ e ih=>
     obtain⟨c1,t1,ht,e1⟩:=ih;exact⟨c1,t1,ht,e1.trans e⟩
   obtain⟨c1,t1,ht,e1⟩:=key hT;have tk:p∣t1 k:=J2 (λq hq=>by
    obtain⟨r,hr,rfl⟩:=cP.mp hq;have xf:=x5 hr;obtain⟨a,ha⟩:=DC (p:=p) k (I.len r xf) sl k;obtain⟨b,hb⟩:=one;have rQ:r.getD k 0 + -(r.getD k 0)*hd.getD k 0-(gW p k hd r).getD k 0=p*a:=ha;exact⟨-a-b*r.getD k 0,by grind⟩) ht
   have c1z:p∣c1:=by
    obtain⟨a,ha⟩:=e1 k;obtain⟨b,hb⟩:=tk;obtain⟨d,AR⟩:=one;obtain⟨e,he⟩:=fk;have rQ:t1 k+c1*hd.getD k 0-f k=p*a:=ha;exact⟨a+e-b-c1*d,by grind⟩
   refine .e8 ht λj=>?_;obtain⟨a,ha⟩:=e1 j;obtain⟨b,hb⟩:=c1z;have rQ:t1 j+c1*hd.getD j 0-f j=p*a:=ha;exact⟨a-b*hd.getD j 0,by grind⟩
theorem oG.skip{c:Nat}(I:oG p n lo hi c L T)(h0:∀r∈T,r.getD (lo+c) 0%p=0):oG p n lo hi (c+1) L T:=
 ⟨I.len,I.near,I.pos,λf=>⟨λhf=>by
  obtain⟨z1,z2⟩:=(I.sp f).mp hf;refine⟨z1,λj h1 h2=>?_⟩;by_cases hj:j<lo+c
  ·exact z2 j h1 hj
  ·obtain rfl:j=lo+c:=by lia
   exact J2 (λr hr=>Int.dvd_of_emod_eq_zero (h0 r hr)) hf,λh=>(I.sp f).mpr ⟨h.1,λj a b=>h.2 j a (by lia)⟩⟩⟩
theorem DD(hp:p∈cq){lo hi:Nat}(h:oG p n lo hi 0 L L):∀c,oG p n lo hi c L (fj p lo L c).2
 |0=>h
 |c+1=>by
  have I:=DD hp h c;show oG p n lo hi (c+1) L (jE p (lo+c) (fj p lo L c)).2;generalize fj p lo L c=s at I;obtain⟨D,T⟩:=s;unfold jE;split
  ·rename_i e
   refine I.skip λr hr=>?_;rw[List.findIdx?_eq_none_iff]at e
   have:=e r hr
   simpa using this
  ·rename_i i e
   obtain⟨h,hi,h1,h2⟩:=find_some e;dsimp only at hi;dsimp only;rw[DB hi];exact I.step hp hi (by simpa using h1)
end
inductive Dr where
 |id|swap|copy|fin|add|none|jY|empty
 |times (n:Int)
 |back (d:Dr)
 |cC (a b:Dr)
 |bc (a b:Dr)
namespace Dr
noncomputable def aU:Dr→Nat×Nat
 |id=>(1,1)|swap=>(2,2)|copy=>(1,2)|fin=>(1,0)|add=>(2,1)|none=>(0,1)|jY=>(0,2)|empty=>(0,0)
 |times _=>(1,1)
 |back d=>(d.aU.2,d.aU.1)
 |cC a b=>(a.aU.1+b.aU.1,a.aU.2+b.aU.2)
 |bc a b=>(a.aU.1,b.aU.2)
noncomputable abbrev l(d:Dr):Nat:=d.aU.1
noncomputable abbrev r(d:Dr):Nat:=d.aU.2
def wf(p:Int):Dr→Prop
 |times n=>0≤n∧n<p
 |back d=>d.wf p
 |cC a b=>a.wf p∧b.wf p
 |bc a b=>a.wf p∧b.wf p∧a.r=b.l
 |_=>True
end Dr
noncomputable def sh(k:Nat)(f:Fn):Fn:=λj=>f (k+j)
def eq(p a b:Int):Prop:=p∣a-b
theorem eq.refl(p a:Int):eq p a a:=⟨0,by lia⟩
theorem eq.symm(h:eq p a b):eq p b a:=by
 have:=Int.dvd_neg.mpr h
 show p∣b-a;rwa[show -(a-b)=b-a by lia]at this
theorem eq.trans{c:Int}(h:eq p a b)(k:eq p b c):eq p a c:=by
 have:=p6 h k
 show p∣a-c;rwa[show a-b+(b-c)=a-c by lia]at this
theorem eq.add{c d:Int}(h:eq p a b)(k:eq p c d):eq p (a+c) (b+d):=by
 have:=p6 h k
 show p∣_;rwa[show a-b+(c-d)=a+c-(b+d) by lia]at this
def dH(p:Int):Dr→Fn→Fn→Prop
 | .id,x,y=>eq p (y 0) (x 0)
 | .swap,x,y=>eq p (y 0) (x 1)∧eq p (y 1) (x 0)
 | .copy,x,y=>eq p (y 0) (x 0)∧eq p (y 1) (x 0)
 | .fin,_,_=>True
 | .add,x,y=>eq p (y 0) (x 0+x 1)
 | .none,_,y=>eq p (y 0) 0
 | .jY,_,y=>eq p (y 1) (y 0)
 | .empty,_,_=>True
 | .times n,x,y=>eq p (y 0) (n*x 0)
 | .back d,x,y=>dH p d y x
 | .cC a b,x,y=>dH p a x y∧dH p b (sh a.l x) (sh a.r y)
 | .bc a b,x,y=>∃z,dH p a x z∧dH p b z y
noncomputable def cN:Nat→Dr
 |0=>.empty
 |1=>.id
 |n+2=>.cC (cN (n+1)) .id
theorem ir:∀n,(cN n).aU=(n,n)
 |0=>rfl
 |1=>rfl
 |n+2=>by
  show((cN (n+1)).aU.1+1,(cN (n+1)).aU.2+1)=_;rw[ir (n+1)]
theorem J4{p:Int}:∀(n:Nat)(x y:Fn),dH p (cN n) x y↔∀j,j<n→eq p (y j) (x j)
 |0,x,y=>⟨λ_ j hj=>absurd hj (by lia),λ_=>True.intro⟩
 |1,x,y=>⟨λh j hj=>by have:j=0:=(by lia);subst this;exact h,λh=>h 0 (by lia)⟩
 |n+2,x,y=>by
  have ih:=J4 (p:=p) (n+1) x y;show dH p (cN (n+1)) x y∧eq p (sh (cN (n+1)).aU.2 y 0) (sh (cN (n+1)).aU.1 x 0)↔_;rw[ih,ir];constructor
  ·rintro⟨h1,h2⟩ j hj;by_cases e:j<n+1
   ·exact h1 j e
   ·have:j=n+1:=by lia
    subst this;exact h2
  ·intro h;exact⟨λj hj=>h j (by lia),h (n+1) (by lia)⟩
noncomputable def cg(a b:Nat):Dr:=
 if a<b then .back (cg b a)
 else if a≤1 then .swap
 else .bc (.cC (cN (a/2)) (cg (a-a/2) b)) (.cC (cg (a/2) b) (cN (a-a/2)))
termination_by (a+b)*2+if a<b then 1 else 0
decreasing_by
 ·rename_i h
  rw[ae h];split<;>lia
 ·split<;>lia
 ·split<;>lia
theorem oH(a b:Nat)(ha:1≤a)(hb:1≤b):(cg a b).aU=(a+b,b+a):=by
 induction a,b using cg.induct with
 |case1 a b h ih=>
  unfold cg;rw[ae h];show((cg b a).aU.2,(cg b a).aU.1)=_;rw[ih hb ha]
 |case2 a b h h1=>
  unfold cg;rw[af h,ae h1]
  have:a=1:=by lia
  have:b=1:=by lia
  subst a b;rfl
 |case3 a b h h1 gq gu=>
  unfold cg;rw[af h,af h1];show((cN (a/2)).aU.1+(cg (a-a/2) b).aU.1,(cg (a/2) b).aU.2+(cN (a-a/2)).aU.2)=_;rw[ir,ir,gq (by lia) hb,gu (by lia) hb];show(a/2+(a-a/2+b),b+a/2+(a-a/2))=_
  congr 1<;>lia
theorem acC(a b:Nat)(ha:1≤a)(hb:1≤b):∀x y:Fn,dH p (cg a b) x y↔(∀j,j<b→eq p (y j) (x (a+j)))∧∀j,j<a→eq p (y (b+j)) (x j):=by
 induction a,b using cg.induct with
 |case1 a b h ih=>
  intro x y;unfold cg;rw[ae h];show dH p (cg b a) y x↔_;rw[ih hb ha];exact⟨λ⟨h1,h2⟩=>⟨λj hj=>(h2 j hj).symm,λj hj=>(h1 j hj).symm⟩,λ⟨h1,h2⟩=>⟨λj hj=>(h2 j hj).symm,λj hj=>(h1 j hj).symm⟩⟩
 |case2 a b h h1=>
  intro x y;unfold cg;rw[af h,ae h1]
  have:a=1:=by lia
  have:b=1:=by lia
  subst a b;show eq p (y 0) (x 1)∧eq p (y 1) (x 0)↔_;constructor
  ·rintro⟨h1,h2⟩;refine⟨λj hj=>?_,λj hj=>?_⟩<;>(have:j=0:=by lia)<;>subst this
   ·exact h1
   ·exact h2
  ·rintro⟨h1,h2⟩;exact⟨h1 0 (by lia),h2 0 (by lia)⟩
 |case3 a b h h1 gq gu=>
  intro x y;have e1:=oH (a/2) b (by lia) hb;have e2:=oH (a-a/2) b (by lia) hb;unfold cg;rw[af h,af h1];show(∃z,(dH p (cN (a/2)) x z∧dH p (cg (a-a/2) b) (sh (cN (a/2)).aU.1 x) (sh (cN (a/2)).aU.2 z))∧(dH p (cg (a/2) b) z y∧dH p (cN (a-a/2)) (sh (cg (a/2) b).aU.1 z) (sh (cg (a/2) b).aU.2 y)))↔_;simp only[J4,ir,gq (by lia) hb,gu (by lia) hb,e1,sh];constructor
  ·rintro⟨z,⟨s1,c1,c2⟩,⟨c3,c4⟩,s2⟩;refine⟨λj hj=>?_,λj hj=>?_⟩
   ·have h2:=c3 j hj;have h3:=c1 j hj;rw[show a/2+(a-a/2+j)=a+j by lia]at h3;exact h2.trans h3
   ·by_cases e:j<a/2
    ·exact(c4 j e).trans (s1 j e)
    ·have h2:=s2 (j-a/2) (by lia);have h3:=c2 (j-a/2) (by lia);rw[show b+a/2+(j-a/2)=b+j by lia,show a/2+b+(j-a/2)=a/2+(b+(j-a/2)) by lia]at h2;rw[show a/2+(j-a/2)=j by lia]at h3;exact h2.trans h3
  ·rintro⟨h1,h2⟩;refine⟨λj=>if j<a/2 then x j else if j<a/2+b then x (a+(j-a/2))else x (j-b),⟨λj hj=>?_,λj hj=>?_,λj hj=>?_⟩,⟨λj hj=>?_,λj hj=>?_⟩,λj hj=>?_⟩
   ·dsimp only;rw[ae hj];exact .refl _ _
   ·dsimp only;rw[af (by lia),ae (by lia),show a+(a/2+j-a/2)=a/2+(a-a/2+j) by lia];exact .refl _ _
   ·dsimp only;rw[af (by lia),af (by lia),show a/2+(b+j)-b=a/2+j by lia];exact .refl _ _
   ·dsimp only;rw[af (by lia),ae (by lia),show a+(a/2+j-a/2)=a+j by lia];exact h1 j hj
   ·dsimp only;rw[ae hj];exact h2 j (by lia)
   ·dsimp only;rw[af (by lia),af (by lia)]
    have:=h2 (a/2+j) (by lia)
    rwa[show b+a/2+j=b+(a/2+j) by lia,show a/2+b+j-b=a/2+j by lia]
end D1
namespace D1
open Bw
variable{aM:Nat}{d e:Dr}{p:Int}{s aL t:LL}
noncomputable def iO(a:Nat)(d:Dr)(b:Nat):Dr:=.cC (cN a) (.cC d (cN b))
noncomputable def du(n:Nat):Dr:=if n≤1 then .copy else .bc (.cC (du (n/2)) (du (n-n/2))) (iO (n/2) (cg (n/2) (n-n/2)) (n-n/2))
termination_by n
noncomputable def dv(n:Nat):Dr:=if n≤1 then .add else .bc (iO (n/2) (cg (n-n/2) (n/2)) (n-n/2)) (.cC (dv (n/2)) (dv (n-n/2)))
termination_by n
theorem rR(n:Nat)(hn:1≤n):(du n).aU=(n,n+n):=by
 induction n using du.induct with
 |case1 n h=>
  unfold du;rw[ae h]
  have:n=1:=by lia
  subst this;rfl
 |case2 n h gq gu=>
  unfold du;rw[af h];show((du (n/2)).aU.1+(du (n-n/2)).aU.1,(cN (n/2)).aU.2+((cg (n/2) (n-n/2)).aU.2+(cN (n-n/2)).aU.2))=_;rw[gq (by lia),gu (by lia),ir,ir,oH _ _ (by lia) (by lia)];show(n/2+(n-n/2),n/2+(n-n/2+n/2+(n-n/2)))=_
  congr 1<;>lia
theorem tS(n:Nat)(hn:1≤n):(dv n).aU=(n+n,n):=by
 induction n using dv.induct with
 |case1 n h=>
  unfold dv;rw[ae h]
  have:n=1:=by lia
  subst this;rfl
 |case2 n h gq gu=>
  unfold dv;rw[af h];show((cN (n/2)).aU.1+((cg (n-n/2) (n/2)).aU.1+(cN (n-n/2)).aU.1),(dv (n/2)).aU.2+(dv (n-n/2)).aU.2)=_;rw[gq (by lia),gu (by lia),ir,ir,oH _ _ (by lia) (by lia)];show(n/2+(n-n/2+n/2+(n-n/2)),n/2+(n-n/2))=_
  congr 1<;>lia
theorem RC{c b:Nat}(hc:1≤c)(hb:1≤b)(a0 b0:Nat)(x y:Fn):dH p (iO a0 (cg c b) b0) x y ↔
  (∀j,j<a0→eq p (y j) (x j))∧((∀j,j<b→eq p (y (a0+j)) (x (a0+(c+j))))∧∀j,j<c→eq p (y (a0+(b+j))) (x (a0+j)))∧∀j,j<b0→eq p (y (a0+(b+c+j))) (x (a0+(c+b+j))):=by
 have e:=oH c b hc hb;show dH p (cN a0) x y∧(dH p (cg c b) (sh (cN a0).aU.1 x) (sh (cN a0).aU.2 y)∧dH p (cN b0) (sh (cg c b).aU.1 (sh (cN a0).aU.1 x)) (sh (cg c b).aU.2 (sh (cN a0).aU.2 y)))↔_;simp only[J4,ir,acC c b hc hb,e,sh]
theorem acD(n:Nat)(hn:1≤n):∀x y:Fn,dH p (du n) x y↔∀j,j<n→eq p (y j) (x j)∧eq p (y (n+j)) (x j):=by
 induction n using du.induct with
 |case1 n h=>
  intro x y;unfold du;rw[ae h]
  have:n=1:=by lia
  subst this;show eq p (y 0) (x 0)∧eq p (y 1) (x 0)↔_;constructor
  ·intro h j hj
   have:j=0:=by lia
   subst this;exact h
  ·intro h;exact h 0 (by lia)
 |case2 n h gq gu=>
  intro x y;have e1:=rR (n/2) (by lia);have e2:=rR (n-n/2) (by lia);unfold du;rw[af h];show(∃z,(dH p (du (n/2)) x z∧dH p (du (n-n/2)) (sh (du (n/2)).aU.1 x) (sh (du (n/2)).aU.2 z))∧dH p (iO (n/2) (cg (n/2) (n-n/2)) (n-n/2)) z y)↔_;simp only[gq (by lia),gu (by lia),e1,sh,RC (show 1≤n/2 by lia) (show 1≤n-n/2 by lia)];generalize hh:n/2=m at *;obtain⟨q,hq⟩:∃q,n=m+q:=⟨n-m,by lia⟩;have zJ:n-m=q:=by lia
  simp only[zJ]at *;constructor
  ·rintro⟨z,⟨c1,c2⟩,s1,⟨k1,k2⟩,s2⟩ j hj;by_cases e:j<m
   ·refine⟨(s1 j e).trans (c1 j e).1,?_⟩;have h2:=k2 j e;rw[show m+(q+j)=n+j by lia]at h2;exact h2.trans (c1 j e).2
   ·obtain⟨i,hi⟩:∃i,j=m+i:=⟨j-m,by lia⟩;subst hi;have h1:=k1 i (by lia);have h2:=c2 i (by lia);have h3:=s2 i (by lia);rw[show m+(m+i)=m+m+i by lia]at h1;rw[show m+(q+m+i)=n+(m+i) by lia,show m+(m+q+i)=m+m+(q+i) by lia]at h3;exact⟨h1.trans h2.1,h3.trans h2.2⟩
  ·intro hy;refine⟨λj=>if j<m then x j else if j<m+m then x (j-m)else if j<m+m+q then x (j-m)else x (j-m-q),⟨λj hj=>⟨?_,?_⟩,λj hj=>⟨?_,?_⟩⟩,λj hj=>?_,⟨λj hj=>?_,λj hj=>?_⟩,λj hj=>?_⟩
   ·dsimp only;rw[ae hj];exact .refl _ _
   ·dsimp only;rw[af (by lia),ae (by lia),show m+j-m=j by lia];exact .refl _ _
   ·dsimp only;rw[af (by lia),af (by lia),ae (by lia),show m+m+j-m=m+j by lia];exact .refl _ _
   ·dsimp only;rw[af (by lia),af (by lia),af (by lia),show m+m+(q+j)-m-q=m+j by lia];exact .refl _ _
   ·dsimp only;rw[ae hj];exact(hy j (by lia)).1
   ·dsimp only;rw[af (by lia),af (by lia),ae (by lia),show m+(m+j)-m=m+j by lia];exact(hy (m+j) (by lia)).1
   ·dsimp only;rw[af (by lia),ae (by lia),show m+j-m=j by lia,show m+(q+j)=n+j by lia];exact(hy j (by lia)).2
   ·dsimp only;rw[af (by lia),af (by lia),af (by lia),show m+(m+q+j)-m-q=m+j by lia,show m+(q+m+j)=n+(m+j) by lia];exact(hy (m+j) (by lia)).2
theorem acE(n:Nat)(hn:1≤n):∀x y:Fn,dH p (dv n) x y↔∀j,j<n→eq p (y j) (x j+x (n+j)):=by
 induction n using dv.induct with
 |case1 n h=>
  intro x y;unfold dv;rw[ae h]
  have:n=1:=by lia
  subst this;show eq p (y 0) (x 0+x 1)↔_;constructor
  ·intro h j hj
   have:j=0:=by lia
   subst this;exact h
  ·intro h;exact h 0 (by lia)
 |case2 n h gq gu=>
  intro x y;have e1:=tS (n/2) (by lia);unfold dv;rw[af h];show(∃z,dH p (iO (n/2) (cg (n-n/2) (n/2)) (n-n/2)) x z∧dH p (dv (n/2)) z y∧dH p (dv (n-n/2)) (sh (dv (n/2)).aU.1 z) (sh (dv (n/2)).aU.2 y))↔_;simp only[gq (by lia),gu (by lia),e1,sh,RC (show 1≤n-n/2 by lia) (show 1≤n/2 by lia)];generalize hh:n/2=m at *;obtain⟨q,hq⟩:∃q,n=m+q:=⟨n-m,by lia⟩;have zJ:n-m=q:=by lia
  simp only[zJ]at *;constructor
  ·rintro⟨z,⟨s1,⟨k1,k2⟩,s2⟩,a1,a2⟩ j hj;by_cases e:j<m
   ·have h2:=k1 j e;rw[show m+(q+j)=n+j by lia]at h2;exact(a1 j e).trans ((s1 j e).add h2)
   ·obtain⟨i,hi⟩:∃i,j=m+i:=⟨j-m,by lia⟩;subst hi;have h1:=a2 i (by lia);have h2:=k2 i (by lia);have h3:=s2 i (by lia);rw[show m+(m+i)=m+m+i by lia]at h2;rw[show m+(m+q+i)=m+m+(q+i) by lia,show m+(q+m+i)=n+(m+i) by lia]at h3;exact h1.trans (h2.add h3)
  ·intro hy;refine⟨λj=>if j<m then x j else if j<m+m then x (q+j)else if j<m+m+q then x (j-m)else x j,⟨λj hj=>?_,⟨λj hj=>?_,λj hj=>?_⟩,λj hj=>?_⟩,λj hj=>?_,λj hj=>?_⟩
   ·dsimp only;rw[ae hj];exact .refl _ _
   ·dsimp only;rw[af (by lia),ae (by lia),show q+(m+j)=m+(q+j) by lia];exact .refl _ _
   ·dsimp only;rw[af (by lia),af (by lia),ae (by lia),show m+(m+j)-m=m+j by lia];exact .refl _ _
   ·dsimp only;rw[af (by lia),af (by lia),af (by lia),show m+(m+q+j)=m+(q+m+j) by lia];exact .refl _ _
   ·dsimp only;rw[ae hj,af (by lia),ae (by lia),show q+(m+j)=n+j by lia];exact hy j (by lia)
   ·dsimp only;rw[af (by lia),af (by lia),ae (by lia),af (by lia),af (by lia),af (by lia),show m+m+j-m=m+j by lia,show m+m+(q+j)=n+(m+j) by lia];exact hy (m+j) (by lia)
noncomputable def dE:List Int→Fn→Int
 | [],_=>0
 |a::r,x=>a*x 0+dE r (sh 1 x)
theorem xg:∀(r s:List Int)(x:Fn),dE (r++s) x=dE r x+dE s (sh r.length x)
 | [],s,x=>by
  show dE s x=0+dE s (sh 0 x);rw[jy,show sh 0 x=x from funext λj=>by unfold sh;rw[uf]]
 |a::r,s,x=>by
  show a*x 0+dE (r++s) (sh 1 x)=a*x 0+dE r (sh 1 x)+dE s (sh (r.length+1) x);rw[xg r s,show sh r.length (sh 1 x)=sh (r.length+1) x from funext λj=>by unfold sh;rw[show 1+(r.length+j)=r.length+1+j by lia]]
  lia
theorem zK{p:Int}:∀(r:List Int)(x y:Fn),(∀j,j<r.length→eq p (x j) (y j))→eq p (dE r x) (dE r y)
 | [],x,y,_=>.refl _ _
 |a::r,x,y,h=>by
  have h0:eq p (a*x 0) (a*y 0):=by
   have:p∣a*(x 0-y 0):=AJ (h 0 (by simp))
   show p∣_;rwa[oT]at this
  exact h0.add (zK r (sh 1 x) (sh 1 y) λj hj=>h (1+j) (by simp;lia))
theorem vf:∀(r:List Int)(x:Fn),(∀a∈r,a=0)→dE r x=0
 | [],_,_=>rfl
 |a::r,x,h=>by
  show a*x 0+dE r (sh 1 x)=0;rw[h a ek,vf r _ λb hb=>h b (iy _ hb)];simp
def jZ(p:Int)(d:Dr)(aL:LL)(aM:Nat):Prop:=d.aU=(aM,aL.length)∧∀x y:Fn,dH p d x y↔∀j r,aL[j]?=some r→eq p (y j) (dE r x)
theorem acF(hc:1≤aM)(h1:jZ p d s aM)(h2:jZ p e t aM)(hs:∀r∈s++t,r.length=aM):jZ p (.bc (du aM) (.cC d e)) (s++t) aM:=by
 refine⟨?_,λx y=>?_⟩
 ·show((du aM).aU.1,d.aU.2+e.aU.2)=_;rw[rR aM hc,h1.1,h2.1,bY]
 ·show(∃z,dH p (du aM) x z∧dH p d z y∧dH p e (sh d.aU.1 z) (sh d.aU.2 y))↔_;simp only[acD aM hc,h1.1,h1.2,h2.2,sh];constructor
  ·rintro⟨z,hz,g1,g2⟩ j r hr;have hl:=hs r (cZ hr);by_cases hj:j<s.length
   ·rw[ia hj]at hr;exact(g1 j r hr).trans (zK r z x λi hi=>(hz i (by lia)).1)
   ·rw[iI (by lia)]at hr
    have:=g2 (j-s.length) r hr
    rw[show s.length+(j-s.length)=j by lia]at this;exact this.trans (zK r _ x λi hi=>(hz i (by lia)).2)
  ·intro hy;refine⟨λi=>if i<aM then x i else x (i-aM),λj hj=>⟨?_,?_⟩,λj r hr=>?_,λj r hr=>?_⟩
   ·dsimp only;rw[ae hj];exact .refl _ _
   ·dsimp only;rw[af (by lia),show aM+j-aM=j by lia];exact .refl _ _
   ·have hl:=hs r (nR _ (cZ hr));have hj:=(dB.mp hr).1;refine(hy j r (by rw[ia hj];exact hr)).trans (zK r _ _ λi hi=>?_);rw[ae (by lia)];exact .refl _ _
   ·have hl:=hs r (jb _ (cZ hr));refine(hy (s.length+j) r (by rw[iI (by lia),show s.length+j-s.length=j by lia];exact hr)).trans (zK r _ _ λi hi=>?_);unfold sh;dsimp only;rw[af (by lia),show aM+i-aM=i by lia];exact .refl _ _
theorem sum_add{m n:Nat}(hs:1≤s.length)(uA:s.length=t.length)(h1:jZ p d s m)(h2:jZ p e t n)(hm:∀r∈s,r.length=m):jZ p (.bc (.cC d e) (dv s.length)) (List.zipWith (·++·) s t) (m+n):=by
 refine⟨?_,λx y=>?_⟩
 ·show(d.aU.1+e.aU.1,(dv s.length).aU.2)=_;rw[tS _ hs,h1.1,h2.1,List.length_zipWith,← uA,Nat.min_self]
 ·show(∃z,(dH p d x z∧dH p e (sh d.aU.1 x) (sh d.aU.2 z))∧dH p (dv s.length) z y)↔_;simp only[acE _ hs,h1.1,h1.2,h2.2,sh];have at_:∀j,j<s.length→∃a b,s[j]?=some a∧t[j]?=some b∧(List.zipWith (·++·) s t)[j]?=some (a++b)∧a.length=m:=λj hj=>by
   refine⟨s[j],t[j]'(by lia),cf hj,cf (by lia),?_,hm _ (lj hj)⟩;rw[List.getElem?_zipWith,cf hj,cf (by lia)]
  constructor
  ·rintro⟨z,⟨g1,g2⟩,ha⟩ j r hr;have hj:j<s.length:=by
    have:=(dB.mp hr).1
    rw[List.length_zipWith]at this;lia
   obtain⟨a,b,ea,eb,er,la⟩:=at_ j hj;rw[er]at hr;cases hr;rw[xg,la];exact(ha j hj).trans ((g1 j a ea).add (g2 j b eb))
  ·intro hy;refine⟨λj=>if j<s.length then dE (s.getD j []) x else dE (t.getD (j-s.length) []) (sh m x),⟨λj r hr=>?_,λj r hr=>?_⟩,λj hj=>?_⟩
   ·have hj:=(dB.mp hr).1;dsimp only;rw[ae hj,cO,hr];exact .refl _ _
   ·dsimp only;rw[af (by lia),show s.length+j-s.length=j by lia,cO,hr];exact .refl _ _
   ·obtain⟨a,b,ea,eb,er,la⟩:=at_ j hj
    have:=hy j _ er
    rw[xg,la]at this;dsimp only;rw[ae hj,af (by lia),show s.length+j-s.length=j by lia,cO,ea,cO,eb];exact this
theorem acG{m n:Nat}(h1:jZ p d s m)(h2:jZ p e t n):jZ p (.cC d e) (s.map (·++List.replicate n 0)++t.map (List.replicate m 0++·)) (m+n):=by
 ·refine⟨?_,λx y=>?_⟩
  ·show(d.aU.1+e.aU.1,d.aU.2+e.aU.2)=_;rw[h1.1,h2.1,bY,aZ,aZ]
  ·show dH p d x y∧dH p e (sh d.aU.1 x) (sh d.aU.2 y)↔_;simp only[h1.1,h1.2,h2.2];have z1:∀r:List Int,dE (r++List.replicate n 0) x=dE r x:=λr=>by
    rw[xg,vf (List.replicate n 0) _ λa ha=>(qM.mp ha).2,oU]
   have z2:∀r:List Int,dE (List.replicate m 0++r) x=dE r (sh m x):=λr=>by
    rw[xg,vf (List.replicate m 0) _ λa ha=>(qM.mp ha).2,jy,dY]
   constructor
   ·rintro⟨g1,g2⟩ j r hr;by_cases hj:j<s.length
    ·rw[ia (by rw[aZ];exact hj),dU]at hr;cases e:s[j]? with
     |none=>rw[e]at hr;cases hr
     |some q=>
      rw[e]at hr;cases hr;rw[z1];exact g1 j q e
    ·rw[iI (by rw[aZ];lia),aZ,dU]at hr;cases e:t[j-s.length]? with
     |none=>rw[e]at hr;cases hr
     |some q=>
      rw[e]at hr;cases hr;rw[z2]
      have:=g2 (j-s.length) q e
      unfold sh at this;rw[show s.length+(j-s.length)=j by lia]at this;exact this
   ·intro hy;refine⟨λj r hr=>?_,λj r hr=>?_⟩
    ·have hj:=(dB.mp hr).1
     have:=hy j (r++List.replicate n 0) (by rw[ia (by rw[aZ];exact hj),dU,hr];rfl)
     rwa[z1]at this
    ·have:=hy (s.length+j) (List.replicate m 0++r) (by rw[iI (by rw[aZ];lia),aZ,show s.length+j-s.length=j by lia,dU,hr];rfl)
     rwa[z2]at this
theorem J5{α:Type}{a r:α}{j:Nat}(h:[a][j]?=some r):j=0∧r=a:=by
 cases j with
 |zero=>cases h;exact⟨rfl,rfl⟩
 |succ j=>simp at h
theorem acH:jZ p .id [[1]] 1:=⟨rfl,λx y=>by
 show eq p (y 0) (x 0)↔_;constructor
 ·intro h j r hr;obtain⟨rfl,rfl⟩:=J5 hr;show eq p (y 0) (1*x 0+0);simpa using h
 ·intro h
  have:eq p (y 0) (1*x 0+0):=h 0 [1] rfl
  simpa using this⟩
theorem acI{n:Int}:jZ p (.times n) [[n]] 1:=⟨rfl,λx y=>by
 show eq p (y 0) (n*x 0)↔_;constructor
 ·intro h j r hr;obtain⟨rfl,rfl⟩:=J5 hr;show eq p (y 0) (n*x 0+0);simpa using h
 ·intro h
  have:eq p (y 0) (n*x 0+0):=h 0 [n] rfl
  simpa using this⟩
theorem acJ:jZ p .fin [] 1:=⟨rfl,λx y=>⟨λ_ j r hr=>by simp at hr,λ_=>True.intro⟩⟩
theorem acK:jZ p .empty [] 0:=⟨rfl,λx y=>⟨λ_ j r hr=>by simp at hr,λ_=>True.intro⟩⟩
theorem acL:jZ p .none [[]] 0:=⟨rfl,λx y=>by
 show eq p (y 0) 0↔_;constructor
 ·intro h j r hr;obtain⟨rfl,rfl⟩:=J5 hr;exact h
 ·intro h;exact h 0 [] rfl⟩
theorem acM{a b:Dr}(h1:jZ p a s aM)(h2:jZ p b t aM)(x y:Fn) :
  dH p (.bc (.back a) b) x y↔∃z:Fn,(∀j r,s[j]?=some r→eq p (x j) (dE r z))∧∀j r,t[j]?=some r→eq p (y j) (dE r z):=by
 show(∃z,dH p a z x∧dH p b z y)↔_;simp only[h1.2,h2.2]
theorem J6{aN:LL}{f:Fn}:Sp p (RS aN) f↔∃z:Fn,∀j,eq p (f j) (dE (aN.map λr=>r.getD j 0) z):=by
 constructor
 ·intro h;induction h with
  |zero=>exact⟨λ_=>0,λj=>by
    have:∀(l:List Int),dE l (λ_=>0)=0:=λl=>by
     induction l with
     |nil=>rfl
     |cons a l ih=>show a*0+dE l (sh 1 λ_=>0)=0;rw[show sh 1 (λ_=>(0:Int))=λ_=>0 from rfl,ih];simp
    rw[this];exact .refl _ _⟩
  | @add v r c _ hr ih=>
   obtain⟨z,hz⟩:=ih;obtain⟨q,hq,rfl⟩:=hr;obtain⟨i,hi,rfl⟩:=my.mp hq;refine⟨λk=>z k+if k=i then c else 0,λj=>?_⟩
   have acN:∀(l:List Int)(i:Nat)(hi:i<l.length)(z:Fn),dE l (λk=>z k+if k=i then c else 0)=dE l z+c*l[i]:=λl=>by
    induction l with
    |nil=>intro i hi;exact absurd hi (by simp)
    |cons a l ih=>
     intro i hi z;cases i with
     |zero=>
      show a*(z 0+if 0=0 then c else 0)+dE l (sh 1 λk=>z k+if k=0 then c else 0)=a*z 0+dE l (sh 1 z)+c*a
      rw[show(sh 1 λk=>z k+if k=0 then c else 0)=sh 1 z from funext λk=>by unfold sh;dsimp only;rw[af (by lia)];simp]
      simp only[if_true,Int.mul_add];rw[sj a c];lia
     |succ i=>
      have i5:i<l.length:=by simpa using hi
      show a*(z 0+if 0=i+1 then c else 0)+dE l (sh 1 λk=>z k+if k=i+1 then c else 0)=a*z 0+dE l (sh 1 z)+c*l[i]
      rw[show(sh 1 λk=>z k+if k=i+1 then c else 0)=λk=>sh 1 z k+if k=i then c else 0 from funext λk=>by
       unfold sh;dsimp only;by_cases e:k=i
       ·rw[ae e,ae (by lia)]
       ·rw[af e,af (by lia)],ih i i5]
      simp;lia
   rw[acN _ i (by rw[aZ];exact hi),List.getElem_map];show eq p (v j+c*(aN[i]).getD j 0) _;exact(hz j).add (.refl _ _)
  |e8 _ e ih=>
   obtain⟨z,hz⟩:=ih;exact⟨z,λj=>eq.trans (eq.symm (e j)) (hz j)⟩
 ·rintro⟨z,hz⟩;have key:∀(L:LL)(z:Fn),(∀r∈L,r∈aN)→Sp p (RS aN) (λj=>dE (L.map λr=>r.getD j 0) z):=λL=>by
   induction L with
   |nil=>intro z _;exact .zero
   |cons r L ih=>
    intro z hL;have h1:=ih (sh 1 z) λq hq=>hL q (iy _ hq);refine(h1.add (z 0) ⟨r,hL r ek,rfl⟩).of_eq λj=>?_;show dE (L.map λr=>r.getD j 0) (sh 1 z)+z 0*r.getD j 0=r.getD j 0*z 0+dE (L.map λr=>r.getD j 0) (sh 1 z);rw[sj,Int.add_comm]
  refine .e8 (key aN z λ_ h=>h) λj=>?_;exact(hz j).symm
inductive Wd where
 |w (x:String)
 |n (i:Int)
 deriving DecidableEq
namespace Dr
noncomputable def aQ:Dr→List Wd
 |id=>[.w "id"] | swap=>[.w "swap"] | copy=>[.w "copy"] | fin=>[.w "end"] | add=>[.w "add"] | none=>[.w "none"] | jY=>[.w "cup"] | empty=>[.w "empty"]
 |times n=>[.w "times",.n n]
 |back d=>.w "back"::d.aQ
 |cC a b=>.w "beside"::(a.aQ++b.aQ)
 |bc a b=>.w "then"::(a.aQ++b.aQ)
end Dr
theorem DE:∀n,(cN (n+1)).aQ=List.replicate n (.w "beside")++List.replicate (n+1) (.w "id")
 |0=>rfl
 |n+1=>by
  show Wd.w "beside"::((cN (n+1)).aQ++[.w "id"])=_;rw[DE n,jr,← List.replicate_succ' (n:=n+1)];rfl
theorem zL{p:Int}:∀n,(cN n).wf p
 |0=>True.intro
 |1=>True.intro
 |n+2=>⟨zL (n+1),True.intro⟩
theorem RD(a b:Nat)(ha:1≤a)(hb:1≤b):(cg a b).wf p:=by
 induction a,b using cg.induct with
 |case1 a b h ih=>unfold cg;rw[ae h];exact ih hb ha
 |case2 a b h h1=>unfold cg;rw[af h,ae h1];exact True.intro
 |case3 a b h h1 gq gu=>
  unfold cg;rw[af h,af h1];refine⟨⟨zL _,gq (by lia) hb⟩,⟨gu (by lia) hb,zL _⟩,?_⟩;show(cN (a/2)).aU.2+(cg (a-a/2) b).aU.2=(cg (a/2) b).aU.1+(cN (a-a/2)).aU.1;rw[ir,ir,oH _ _ (by lia) hb,oH _ _ (by lia) hb];show a/2+(b+(a-a/2))=a/2+b+(a-a/2);lia
theorem RE(a b:Nat)(h:d.wf p):(iO a d b).wf p:=⟨zL _,h,zL _⟩
theorem acO(n:Nat)(hn:1≤n):(du n).wf p:=by
 induction n using du.induct with
 |case1 n h=>unfold du;rw[ae h];exact True.intro
 |case2 n h gq gu=>
  unfold du;rw[af h];refine⟨⟨gq (by lia),gu (by lia)⟩,RE _ _ (RD _ _ (by lia) (by lia)),?_⟩;show(du (n/2)).aU.2+(du (n-n/2)).aU.2=(cN (n/2)).aU.1+((cg (n/2) (n-n/2)).aU.1+(cN (n-n/2)).aU.1);rw[rR _ (by lia),rR _ (by lia),ir,ir,oH _ _ (by lia) (by lia)];show n/2+n/2+(n-n/2+(n-n/2))=n/2+(n/2+(n-n/2)+(n-n/2));lia
theorem acP(n:Nat)(hn:1≤n):(dv n).wf p:=by
 induction n using dv.induct with
 |case1 n h=>unfold dv;rw[ae h];exact True.intro
 |case2 n h gq gu=>
  unfold dv;rw[af h];refine⟨RE _ _ (RD _ _ (by lia) (by lia)),⟨gq (by lia),gu (by lia)⟩,?_⟩;show(cN (n/2)).aU.2+((cg (n-n/2) (n/2)).aU.2+(cN (n-n/2)).aU.2)=(dv (n/2)).aU.1+(dv (n-n/2)).aU.1;rw[tS _ (by lia),tS _ (by lia),ir,ir,oH _ _ (by lia) (by lia)];show n/2+(n/2+(n-n/2)+(n-n/2))=n/2+n/2+(n-n/2+(n-n/2));lia
noncomputable def kE(r:List Int):Bool:=r.all (· == 0)
noncomputable def qx(aL:LL)(k t:Nat):Bool:=(aL.take t).all (λr=>kE (r.drop k))&&(aL.drop t).all (λr=>kE (r.take k))
noncomputable def iP(aL:LL)(aM k t:Nat):Bool:=decide (0<k+t)&&decide (k+t<aM+aL.length)&&qx aL k t
noncomputable def lN(aL:LL)(aM:Nat):Option (Nat×Nat):=
 ((List.range (aM+1)).flatMap λk=>(List.range (aL.length+1)).map λt=>(k,t)).find? λkt=>iP aL aM kt.1 kt.2
noncomputable def mj(aL:LL)(aM:Nat):Dr:=
 match aL with
 | []=>if aM=1 then .fin else .empty
 |r::_=>if aM=0 then .none else if r.getD 0 0=1 then .id else .times (r.getD 0 0)
def iG(aL:LL)(aM:Nat):Prop:=aM+aL.length<2∨(aM=1∧aL.length=1∧(aL.getD 0 []).getD 0 0≠0)
instance (aL:LL) (aM:Nat):Decidable (iG aL aM):=by unfold iG;infer_instance
noncomputable def sumF:Nat→LL→Nat→Dr
 |0,aL,aM=>mj aL aM
 |n+1,aL,aM=>
  if iG aL aM then mj aL aM else
  match lN aL aM with
  |some (k,t)=>.cC (sumF n ((aL.take t).map (·.take k)) k) (sumF n ((aL.drop t).map (·.drop k)) (aM-k))
  |none=>
   if aM≤aL.length then .bc (du aM) (.cC (sumF n (aL.take (aL.length/2)) aM) (sumF n (aL.drop (aL.length/2)) aM))
   else .bc (.cC (sumF n (aL.map (·.take (aM/2))) (aM/2)) (sumF n (aL.map (·.drop (aM/2))) (aM-aM/2))) (dv aL.length)
theorem acQ{r:List Int}:kE r=true↔∀a∈r,a=0:=by unfold kE;simp
theorem RF{r:List Int}(h:kE r=true):r=List.replicate r.length 0:=List.eq_replicate_of_mem (acQ.mp h)
theorem DF{k t:Nat}(h:lN aL aM=some (k,t)):k≤aM∧t≤aL.length∧iP aL aM k t=true:=by
 unfold lN at h;have h1:=List.find?_some h;have h2:=List.mem_of_find?_eq_some h;simp at h2;exact⟨by lia,by lia,h1⟩
theorem acR(h:lN aL aM=none):∀k t,k≤aM→t≤aL.length→iP aL aM k t=false:=by
 intro k t hk ht;unfold lN at h;rw[List.find?_eq_none]at h
 have:=h (k,t) (by simp;lia)
 simpa using this
def bo(p:Int)(aL:LL)(aM:Nat):Prop:=∀r∈aL,r.length=aM∧∀a∈r,0≤a∧a<p
def Good(p:Int)(d:Dr)(aL:LL)(aM:Nat):Prop:=jZ p d aL aM∧d.wf p
theorem RG(h1:iG aL aM)(h:bo p aL aM):Good p (mj aL aM) aL aM:=by
 match aL,h1,h with
 | [],h1,_=>
  have hc:aM=0∨aM=1:=by
   rcases h1 with h1|h1
   ·simp at h1;lia
   ·lia
  rcases hc with rfl|rfl
  ·exact⟨acK,True.intro⟩
  ·exact⟨acJ,True.intro⟩
 |r::dM,h1,h=>
  have hl:dM=[]:=by
   rcases h1 with h1|h1
   ·simp at h1;exact uk (by lia)
   ·have:=h1.2.1;simp at this;exact this
  subst hl;obtain⟨hr,hb⟩:=h r (by simp);by_cases hc:aM=0
  ·subst hc
   have:r=[]:=uk hr
   subst this;exact⟨acL,True.intro⟩
  ·have sR:aM=1:=by
    rcases h1 with h1|h1
    ·simp at h1;lia
    ·exact h1.1
   subst sR;obtain⟨a,rfl⟩:=List.length_eq_one_iff.mp hr;have ha:=hb a (by simp);unfold mj;by_cases h1:a=1
   ·subst h1;exact⟨by simpa using acH,True.intro⟩
   ·have e:(if(1:Nat)=0 then Dr.none else if([a]:List Int).getD 0 0=1 then Dr.id else .times (([a]:List Int).getD 0 0))=.times a:=by simp[h1]
    show Good p (if(1:Nat)=0 then Dr.none else if([a]:List Int).getD 0 0=1 then Dr.id else .times (([a]:List Int).getD 0 0)) _ _
    rw[e];exact⟨acI,ha⟩
theorem acS{k t:Nat}(hk:k≤aM)(h:bo p aL aM)(hs:qx aL k t=true) :
  ((aL.take t).map (·.take k)).map (·++List.replicate (aM-k) 0)++((aL.drop t).map (·.drop k)).map (List.replicate k 0++·)=aL:=by
 unfold qx at hs;rw[eX,jN,jN]at hs;obtain⟨h1,h2⟩:=hs;have e1:((aL.take t).map (·.take k)).map (·++List.replicate (aM-k) (0:Int))=aL.take t:=by
  rw[List.map_map]
  conv=>rhs;rw[← List.map_id (aL.take t)]
  refine sk λr hr=>?_;show r.take k++List.replicate (aM-k) 0=r
  have:=RF (h1 r hr)
  rw[da,(h r (gy hr)).1]at this;rw[← this,x4]
 have e2:((aL.drop t).map (·.drop k)).map (List.replicate k (0:Int)++·)=aL.drop t:=by
  rw[List.map_map]
  conv=>rhs;rw[← List.map_id (aL.drop t)]
  refine sk λr hr=>?_;show List.replicate k 0++r.drop k=r
  have:=RF (h2 r hr)
  rw[cB,(h r (gM hr)).1,ug hk]at this;rw[← this,x4]
 rw[e1,e2,x4]
theorem RH(k:Nat):∀aL:LL,List.zipWith (·++·) (aL.map (·.take k)) (aL.map (·.drop k))=aL
 | []=>rfl
 |r::dM=>by simp[RH k dM]
theorem bo.sub(h:bo p t aM)(hs:∀r∈s,r∈t):bo p s aM:=λr hr=>h r (hs r hr)
theorem bo.take{p:Int}{s:LL}{aM k:Nat}(hk:k≤aM)(h:bo p s aM):bo p (s.map (·.take k)) k:=by
 intro r hr;obtain⟨q,hq,rfl⟩:=cP.mp hr;exact⟨by rw[cB,(h q hq).1];lia,λa ha=>(h q hq).2 a (gy ha)⟩
theorem bo.drop{p:Int}{s:LL}{aM k:Nat}(h:bo p s aM):bo p (s.map (·.drop k)) (aM-k):=by
 intro r hr;obtain⟨q,hq,rfl⟩:=cP.mp hr;exact⟨by rw[da,(h q hq).1],λa ha=>(h q hq).2 a (gM ha)⟩
theorem DG(h:bo p aL aM)(h1:¬iG aL aM)(hn:lN aL aM=none):1≤aM∧1≤aL.length∧3≤aM+aL.length:=by
 have hs:=acR hn;unfold iG at h1;have hc:1≤aM:=by
  by_cases hc:aM=0
  ·subst hc
   have:=hs 0 1 (by lia) (by lia)
   exfalso;have h2:iP aL 0 0 1=true:=by
    unfold iP qx;simp;refine⟨by lia,λr hr=>?_,λr hr=>rfl⟩
    have:=uk (h r (gy hr)).1
    rw[this];rfl
   rw[h2]at this;cases this
  ·lia
 have hl:1≤aL.length:=by
  by_cases hl:aL.length=0
  ·have e:=uk hl;subst e
   have:=hs 1 0 (by lia) (by lia)
   exfalso;have h2:iP [] aM 1 0=true:=by
    unfold iP qx;simp at h1 ⊢;lia
   rw[h2]at this;cases this
  ·lia
 refine⟨hc,hl,?_⟩;by_cases h3:aM+aL.length<3
 ·exfalso;have e1:aM=1:=by lia
  have e2:aL.length=1:=by lia
  subst e1;obtain⟨r,rfl⟩:=List.length_eq_one_iff.mp e2;obtain⟨a,rfl⟩:=List.length_eq_one_iff.mp (h r (by simp)).1;have ha:a=0:=by
   by_cases ha:a=0
   ·exact ha
   ·exact absurd (Or.inr ⟨rfl,rfl,by simpa using ha⟩) h1
  subst ha
  have:=hs 0 1 (by lia) (by simp)
  have h2:iP [[0]] 1 0 1=true:=by decide
  rw[h2]at this;cases this
 ·lia
theorem kH{p:Int}:∀(n:Nat)(aL:LL)(aM:Nat),aM+aL.length≤n→bo p aL aM→Good p (sumF n aL aM) aL aM
 |0,aL,aM,hn,h=>RG (Or.inl (by lia)) h
 |n+1,aL,aM,hn,h=>by
  unfold sumF;by_cases h1:iG aL aM
  ·rw[ae h1];exact RG h1 h
  rw[af h1];have h2:2≤aM+aL.length:=by unfold iG at h1;lia
  match hs:lN aL aM with
  |some (k,t)=>
   obtain⟨hk,ht,hc⟩:=DF hs;unfold iP at hc;rw[eX,eX,aH,aH]at hc;obtain⟨⟨sR,sJ⟩,zM⟩:=hc;have i1:=kH n ((aL.take t).map (·.take k)) k (by simp;lia) ((h.sub λr hr=>gy hr).take hk);have i2:=kH n ((aL.drop t).map (·.drop k)) (aM-k) (by simp;lia) (bo.drop (h.sub λr hr=>gM hr))
   have:=acG i1.1 i2.1
   rw[acS hk h zM,show k+(aM-k)=aM by lia]at this;exact⟨this,i1.2,i2.2⟩
  |none=>
   obtain⟨c1,c2,c3⟩:=DG h h1 hs;by_cases hl:aM≤aL.length
   ·show Good p (if _ then _ else _) _ _
    rw[ae hl];have i1:=kH n (aL.take (aL.length/2)) aM (by simp;lia) (h.sub λr hr=>gy hr);have i2:=kH n (aL.drop (aL.length/2)) aM (by simp;lia) (h.sub λr hr=>gM hr)
    have:=acF c1 i1.1 i2.1 (by rw[x4];exact λr hr=>(h r hr).1)
    rw[x4]at this;refine⟨this,acO _ c1,⟨i1.2,i2.2⟩,?_⟩;show(du aM).aU.2=(sumF n _ _).aU.1+(sumF n _ _).aU.1;rw[rR _ c1,i1.1.1,i2.1.1]
   ·show Good p (if _ then _ else _) _ _
    rw[af hl];have i1:=kH n (aL.map (·.take (aM/2))) (aM/2) (by simp;lia) (h.take (by lia));have i2:=kH n (aL.map (·.drop (aM/2))) (aM-aM/2) (by simp;lia) h.drop
    have:=sum_add (by simpa using c2) (by simp) i1.1 i2.1 (λr hr=>(h.take (by lia:aM/2≤aM) r hr).1)
    rw[RH,show aM/2+(aM-aM/2)=aM by lia,aZ]at this;refine⟨this,⟨i1.2,i2.2⟩,acP _ c2,?_⟩;show(sumF n _ _).aU.2+(sumF n _ _).aU.2=(dv aL.length).aU.1;rw[tS _ c2,i1.1.1,i2.1.1];simp
end D1
namespace D1
open Bw
variable{A B aL:LL}{a:List Int}{aM j m n:Nat}{g:List Int→List Int}{p:Int}
theorem xh(n:Nat)(hn:1≤n):(cN n).aQ.length+1=2*n:=by
 obtain⟨m,rfl⟩:∃m,n=m+1:=⟨n-1,by omega⟩;rw[DE];simp;omega
theorem acT(a b:Nat)(ha:1≤a)(hb:1≤b)(kK:a≤8)(rS:b≤8):(cg a b).aQ.length+18≤19*(a*b)∧(b<a→(cg a b).aQ.length+19≤19*(a*b)):=by
 induction a,b using cg.induct with
 |case1 a b h ih=>
  have:=(ih hb ha rS kK).2 h
  unfold cg;rw[ae h];refine⟨?_,λk=>absurd k (by omega)⟩;show(cg b a).aQ.length+1+18≤_;rw[Nat.mul_comm a b];omega
 |case2 a b h h1=>
  unfold cg;rw[af h,ae h1]
  have:a=1:=by omega
  have:b=1:=by omega
  subst a b;exact⟨by decide,λk=>absurd k (by decide)⟩
 |case3 a b h h1 gq gu=>
  have i1:=(gq (by omega) hb (by omega) rS).1;have i2:=(gu (by omega) hb (by omega) rS).1;have s1:=xh (a/2) (by omega);have s2:=xh (a-a/2) (by omega);have e:a*b=(a-a/2)*b+a/2*b:=by rw[← Nat.add_mul];congr 1;omega
  have hl:(cg a b).aQ.length+19≤19*(a*b):=by
   unfold cg;rw[af h,af h1];simp only[Dr.aQ,bY,eE];rw[e];generalize (a-a/2)*b=u at *;generalize a/2*b=v at *;omega
  exact⟨by omega,λ_=>hl⟩
theorem vg(a b:Nat)(ha:1≤a)(hb:1≤b)(kK:a≤8)(rS:b≤8):(cg a b).aQ.length≤1216:=by
 have:=(acT a b ha hb kK rS).1
 have:a*b≤8*8:=Nat.mul_le_mul kK rS
 omega
theorem DH(a b:Nat)(d:Dr)(ha:1≤a)(hb:1≤b):(iO a d b).aQ.length=d.aQ.length+2*(a+b):=by
 have s1:=xh a ha;have s2:=xh b hb;unfold iO;simp only[Dr.aQ,bY,eE];omega
theorem DI(n:Nat)(hn:1≤n)(h8:n≤8):(du n).aQ.length+1300≤1301*n:=by
 induction n using du.induct with
 |case1 n h=>
  unfold du;rw[ae h];show 1+1300≤_;omega
 |case2 n h gq gu=>
  have i1:=gq (by omega) (by omega);have i2:=gu (by omega) (by omega);have c:=vg (n/2) (n-n/2) (by omega) (by omega) (by omega) (by omega);have s:=DH (n/2) (n-n/2) (cg (n/2) (n-n/2)) (by omega) (by omega);unfold du;rw[af h];simp only[Dr.aQ,bY,eE];omega
theorem DJ(n:Nat)(hn:1≤n)(h8:n≤8):(dv n).aQ.length+1300≤1301*n:=by
 induction n using dv.induct with
 |case1 n h=>
  unfold dv;rw[ae h];show 1+1300≤_;omega
 |case2 n h gq gu=>
  have i1:=gq (by omega) (by omega);have i2:=gu (by omega) (by omega);have c:=vg (n-n/2) (n/2) (by omega) (by omega) (by omega) (by omega);have s:=DH (n/2) (n-n/2) (cg (n-n/2) (n/2)) (by omega) (by omega);unfold dv;rw[af h];simp only[Dr.aQ,bY,eE];omega
theorem RI(aL:LL)(aM:Nat):1≤(mj aL aM).aQ.length∧(mj aL aM).aQ.length≤2:=by
 unfold mj;split
 ·split<;>simp[Dr.aQ]
 ·split
  ·simp[Dr.aQ]
  ·split<;>simp[Dr.aQ]
noncomputable def parts(c l:Nat):Nat:=if c=0 then l else if l=0 then c else 2*(c*l)
theorem acU:((List.range 9).all λc=>(List.range 9).all λl=>(List.range 9).all λk=>(List.range 9).all λt=>decide (k≤c∧t≤l∧0<k+t∧k+t<c+l→parts k t+parts (c-k) (l-t)≤parts c l))=true:=by decide +kernel
theorem acV(c:Nat)(hc:c<9)(l:Nat)(hl:l<9)(k:Nat)(hk:k<9)(t:Nat)(ht:t<9)(h:k≤c∧t≤l∧0<k+t∧k+t<c+l):parts k t+parts (c-k) (l-t)≤parts c l:=by
 have:=acU
 simp only[jN,jq,aF]at this;exact this c hc l hl k hk t ht h
theorem acW:∀c,c<9→∀l,l<9→1≤c→2≤l→parts c (l/2)+parts c (l-l/2)≤parts c l:=by decide +kernel
theorem acX:∀c,c<9→∀l,l<9→2≤c→1≤l→parts (c/2) l+parts (c-c/2) l≤parts c l:=by decide +kernel
theorem RJ:∀c,c<9→∀l,l<9→1≤c+l→1≤parts c l∧parts c l≤128:=by decide +kernel
theorem tT{p:Int}:∀(n:Nat)(aL:LL)(aM:Nat),aM+aL.length≤n→aM<9→aL.length<9→1≤aM+aL.length→bo p aL aM→(sumF n aL aM).aQ.length+10000≤10002*parts aM aL.length
 |0,aL,aM,hn,_,_,h1,_=>absurd h1 (by omega)
 |n+1,aL,aM,hn,hc,hl,h1,h=>by
  have sg:(mj aL aM).aQ.length+10000≤10002*parts aM aL.length:=by
   have:=(RI aL aM).2
   have:=(RJ aM hc aL.length hl h1).1
   omega
  unfold sumF;by_cases ho:iG aL aM
  ·rw[ae ho];exact sg
  rw[af ho];have h2:2≤aM+aL.length:=by unfold iG at ho;omega
  match hs:lN aL aM with
  |some (k,t)=>
   obtain⟨hk,ht,pH⟩:=DF hs;unfold iP at pH;rw[eX,eX,aH,aH]at pH;obtain⟨⟨c1,c2⟩,c3⟩:=pH;have e1:((aL.take t).map (·.take k)).length=t:=by simp;omega
   have e2:((aL.drop t).map (·.drop k)).length=aL.length-t:=by simp
   have i1:=tT n ((aL.take t).map (·.take k)) k (by omega) (by omega) (by omega) (by omega) ((h.sub λr hr=>gy hr).take hk);have i2:=tT n ((aL.drop t).map (·.drop k)) (aM-k) (by omega) (by omega) (by omega) (by omega) (bo.drop (h.sub λr hr=>gM hr));have pc:=acV aM hc aL.length hl k (by omega) t (by omega) ⟨hk,ht,c1,c2⟩;rw[e1]at i1;rw[e2]at i2;show(Dr.cC _ _).aQ.length+10000≤_;simp only[Dr.aQ,bY,eE];omega
  |none=>
   obtain⟨c1,c2,c3⟩:=DG h ho hs;by_cases iX:aM≤aL.length
   ·show(if _ then _ else _:Dr).aQ.length+10000≤_
    rw[ae iX];have e1:(aL.take (aL.length/2)).length=aL.length/2:=by simp;omega
    have e2:(aL.drop (aL.length/2)).length=aL.length-aL.length/2:=by simp
    have i1:=tT n (aL.take (aL.length/2)) aM (by omega) hc (by omega) (by omega) (h.sub λr hr=>gy hr);have i2:=tT n (aL.drop (aL.length/2)) aM (by omega) hc (by omega) (by omega) (h.sub λr hr=>gM hr);have pc:=acW aM hc aL.length hl c1 (by omega);have cw:=DI aM c1 (by omega);rw[e1]at i1;rw[e2]at i2;simp only[Dr.aQ,bY,eE];omega
   ·show(if _ then _ else _:Dr).aQ.length+10000≤_
    rw[af iX];have e1:(aL.map (·.take (aM/2))).length=aL.length:=by simp
    have e2:(aL.map (·.drop (aM/2))).length=aL.length:=by simp
    have i1:=tT n (aL.map (·.take (aM/2))) (aM/2) (by omega) (by omega) (by omega) (by omega) (h.take (by omega));have i2:=tT n (aL.map (·.drop (aM/2))) (aM-aM/2) (by omega) (by omega) (by omega) (by omega) h.drop;have pc:=acX aM hc aL.length hl (by omega) c2;have cw:=DJ aL.length c2 (by omega);rw[e1]at i1;rw[e2]at i2;simp only[Dr.aQ,bY,eE];omega
theorem qy(hn:aM+aL.length≤n)(hc:aM<9)(hl:aL.length<9)(h:bo p aL aM):(sumF n aL aM).aQ.length≤1300000:=by
 by_cases h1:1≤aM+aL.length
 ·have:=tT n aL aM hn hc hl h1 h
  have:=(RJ aM hc aL.length hl h1).2
  omega
 ·have ho:iG aL aM:=Or.inl (by omega)
  have:=(RI aL aM).2
  match n with
  |0=>show(mj aL aM).aQ.length≤_;omega
  |n+1=>unfold sumF;rw[ae ho];omega
theorem RK{k:Nat}(h:k≤n):List.range (n+1)=List.range k++k::(List.range (n-k)).map λi=>k+(i+1):=by
 rw[show n+1=k+(n-k+1) by lia,List.range_add,List.range_succ_eq_map];simp
theorem acY{k t:Nat}(hk:k≤aM)(ht:t≤aL.length)(h:iP aL aM k t=true)(h1:∀i,i<k→∀j,j≤aL.length→iP aL aM i j=false)(h2:∀j,j<t→iP aL aM k j=false) :
  lN aL aM=some (k,t):=by
 unfold lN;rw[List.find?_eq_some_iff_append];refine⟨h,(List.range k).flatMap (λk=>(List.range (aL.length+1)).map λt=>(k,t))++(List.range t).map (λt=>(k,t)),?_⟩;rw[RK hk,List.flatMap_append,List.flatMap_cons]
 conv=>enter [1,bs,1,1,2,1];rw[RK ht]
 refine⟨_,by rw[dC,mx,jr,jr,qK],?_⟩;intro x hx;rw[dI,List.mem_flatMap,cP]at hx;rcases hx with⟨i,hi,hx⟩|⟨j,hj,rfl⟩
 ·obtain⟨j,hj,rfl⟩:=cP.mp hx;rw[jq]at hi hj;simp[h1 i hi j (by lia)]
 ·rw[jq]at hj;simp[h2 j hj]
theorem acZ(h:∀i,i≤aM→∀j,j≤aL.length→iP aL aM i j=false):lN aL aM=none:=by
 unfold lN;rw[List.find?_eq_none];intro x hx;rw[List.mem_flatMap]at hx;obtain⟨i,hi,hx⟩:=hx;obtain⟨j,hj,rfl⟩:=cP.mp hx;rw[jq]at hi hj;simp[h i (by lia) j (by lia)]
noncomputable def cs(A:LL)(j:Nat)(z:Fn):Int:=dE (A.map λr=>r.getD j 0) z
def jw(p:Int)(A:LL)(l r:Nat)(x y:Fn):Prop:=∃z:Fn,(∀j,j<l→eq p (x j) (cs A j z))∧∀j,j<r→eq p (y j) (cs A (l+j) z)
noncomputable def j0(l r:Nat)(x y:Fn):Fn:=λj=>if j<l then x j else if j<l+r then y (j-l)else 0
theorem ac0(h:∀r∈A,r.length=n)(hj:n≤j)(z:Fn):cs A j z=0:=vf _ _ λa ha=>by
 obtain⟨r,hr,rfl⟩:=cP.mp ha;rw[cO,lC (by rw[h r hr];exact hj)];rfl
theorem pI{j':Nat}(h:∀r∈A,(g r).getD j 0=r.getD j' 0)(z:Fn):cs (A.map g) j z=cs A j' z:=by
 unfold cs;rw[List.map_map];exact ai (λl=>dE l z) (sk h)
theorem xi(h:∀r∈A,(g r).getD j 0=0)(z:Fn):cs (A.map g) j z=0:=vf _ _ λa ha=>by
 obtain⟨q,hq,rfl⟩:=cP.mp ha;obtain⟨r,hr,rfl⟩:=cP.mp hq;exact h r hr
theorem RN:∀(l:List Int)(z:Fn),dE (l.map λa=>-a) z=-dE l z
 | [],_=>rfl
 |a::l,z=>by
  show -a*z 0+dE (l.map λa=>-a) (sh 1 z)=-(a*z 0+dE l (sh 1 z));rw[RN l,Int.neg_mul];lia
theorem ac1{j':Nat}(h:∀r∈A,(g r).getD j 0=-(r.getD j' 0))(z:Fn):cs (A.map g) j z=-cs A j' z:=by
 unfold cs;rw[← RN,List.map_map,List.map_map];exact ai (λl=>dE l z) (sk h)
theorem ml(A B:LL)(j:Nat)(z:Fn):cs (A++B) j z=cs A j z+cs B j (sh A.length z):=by
 unfold cs;rw[dC,xg,aZ]
theorem ac2(h:∀r∈A,p∣r.getD j 0)(z:Fn):p∣cs A j z:=by
 have key:∀(l:List Int)(z:Fn),(∀a∈l,p∣a)→p∣dE l z:=λl=>by
  induction l with
  |nil=>intro z _;exact⟨0,by show(0:Int)=_;simp⟩
  |cons a l ih=>intro z hl;exact p6 (Int.dvd_trans (hl a ek) ⟨z 0,rfl⟩) (ih _ λb hb=>hl b (iy _ hb))
 exact key _ z λa ha=>by
  obtain⟨r,hr,rfl⟩:=cP.mp ha;exact h r hr
noncomputable def jI(n:Nat)(u v:Fn):Fn:=λk=>if k<n then u k else v (k-n)
theorem DK(u v:Fn):cs A j (jI A.length u v)=cs A j u:=by
 have key:∀(l:List Int)(z z':Fn),(∀k,k<l.length→z k=z' k)→dE l z=dE l z':=λl=>by
  induction l with
  |nil=>intros;rfl
  |cons a l ih=>
   intro z z' h;show a*z 0+dE l (sh 1 z)=a*z' 0+dE l (sh 1 z');rw[h 0 (by simp),ih (sh 1 z) (sh 1 z') λk hk=>h (1+k) (by simp;lia)]
 exact key _ _ _ λk hk=>by
  rw[aZ]at hk;unfold jI;rw[ae hk]
theorem DM(n:Nat)(u v:Fn):sh n (jI n u v)=v:=funext λk=>by
 unfold sh jI;rw[af (by lia),show n+k-n=k by lia]
theorem kX{l r:Nat}(h:∀q∈A,q.length=l+r)(x y:Fn):Sp p (RS A) (j0 l r x y)↔jw p A l r x y:=by
 rw[J6];constructor
 ·rintro⟨z,hz⟩;refine⟨z,λj hj=>?_,λj hj=>?_⟩
  ·have:=hz j
   unfold j0 at this;rwa[ae hj]at this
  ·have:=hz (l+j)
   unfold j0 at this;rwa[af (by lia),ae (by lia),show l+j-l=j by lia]at this
 ·rintro⟨z,h1,h2⟩;refine⟨z,λj=>?_⟩;unfold j0;by_cases hj:j<l
  ·rw[ae hj];exact h1 j hj
  ·rw[af hj];by_cases vh:j<l+r
   ·rw[ae vh]
    have:=h2 (j-l) (by lia)
    rwa[show l+(j-l)=j by lia]at this
   ·rw[af vh]
    have:=ac0 h (show l+r≤j by lia) z
    unfold cs at this;rw[this];exact .refl _ _
noncomputable def oI(l:Nat)(q:List Int):List Int:=q.drop l++q.take l
noncomputable def jx(l l' r':Nat)(q:List Int):List Int:=q.take l++List.replicate l' 0++q.drop l++List.replicate r' 0
noncomputable def j4(l r l':Nat)(q:List Int):List Int:=List.replicate l 0++q.take l'++List.replicate r 0++q.drop l'
noncomputable def nI(r:Nat)(q:List Int):List Int:=q++List.replicate r 0
noncomputable def oJ(l m:Nat)(q:List Int):List Int:=List.replicate l 0++(q.take m).map (λx=>0-x)++q.drop m
noncomputable def xj(l m:Nat)(q:List Int):List Int:=q.take l++q.drop (l+m)
noncomputable def jJ(l m r:Nat)(A B:LL):LL:=A.map (nI r)++B.map (oJ l m)
noncomputable def nJ(p:Int)(l m r:Nat)(A B:LL):LL:=(fj p l (jJ l m r A B) m).2.map (xj l m)
noncomputable def zN(p:Int)(l m r:Nat)(A B:LL):LL:=(fj p 0 (nJ p l m r A B) (l+r)).1
namespace Dr
noncomputable def aN(p:Int):Dr→LL
 |id=>[[1,1]] | swap=>[[1,0,0,1],[0,1,1,0]] | copy=>[[1,1,1]] | fin=>[[1]] | add=>[[1,0,1],[0,1,1]] | none=>[] | jY=>[[1,1]] | empty=>[]
 |times n=>[[1,n]]
 |back d=>(d.aN p).map (oI d.l)
 |cC a b=>(a.aN p).map (jx a.l b.l b.r)++(b.aN p).map (j4 a.l a.r b.l)
 |bc a b=>zN p a.l a.r b.r (a.aN p) (b.aN p)
end Dr
section
variable{p:Int}
theorem jl{b:List Int}:(a++b).getD j 0=if j<a.length then a.getD j 0 else b.getD (j-a.length) 0:=by
 rw[cO,List.getElem?_append];split<;>rw[cO]
theorem zO{k:Nat}:(a.take k).getD j 0=if j<k then a.getD j 0 else 0:=by
 rw[cO,List.getElem?_take];split
 ·rw[cO]
 ·rfl
theorem vi{k:Nat}:(a.drop k).getD j 0=a.getD (k+j) 0:=by
 rw[cO,si,cO]
theorem oK{k:Nat}:(List.replicate k (0:Int)).getD j 0=0:=by
 rw[cO,FE];split<;>rfl
theorem RP{l r:Nat}(h:∀q∈A,q.length=l+r)(x y:Fn):jw p (A.map (oI l)) r l x y↔jw p A l r y x:=by
 have c1:∀j,j<r→∀z,cs (A.map (oI l)) j z=cs A (l+j) z:=λj hj z=>pI (λq hq=>by
  unfold oI;rw[jl,ae (by rw[da,h q hq];lia),vi]) z
 have c2:∀j,j<l→∀z,cs (A.map (oI l)) (r+j) z=cs A j z:=λj hj z=>pI (λq hq=>by
  unfold oI;rw[jl,af (by rw[da,h q hq];lia),zO,da,h q hq,show r+j-(l+r-l)=j by lia,ae hj]) z
 constructor
 ·rintro⟨z,h1,h2⟩;exact⟨z,λj hj=>c2 j hj z▸h2 j hj,λj hj=>c1 j hj z▸h1 j hj⟩
 ·rintro⟨z,h1,h2⟩;exact⟨z,λj hj=>(c1 j hj z).symm▸h2 j hj,λj hj=>(c2 j hj z).symm▸h1 j hj⟩
theorem RQ{l r l' r':Nat}(h:∀q∈A,q.length=l+r)(h':∀q∈B,q.length=l'+r')(x y:Fn) :
  jw p (A.map (jx l l' r')++B.map (j4 l r l')) (l+l') (r+r') x y↔jw p A l r x y∧jw p B l' r' (sh l x) (sh r y):=by
 have a1:∀j,j<l→∀z,cs (A.map (jx l l' r')) j z=cs A j z:=λj hj z=>pI (λq hq=>by
  have:=h q hq
  unfold jx;simp only[jl,zO,bY,cB,dY,da];rw[ae (by lia),ae (by lia),ae (by lia),ae hj]) z
 have a2:∀j,j<l'→∀z,cs (A.map (jx l l' r')) (l+j) z=0:=λj hj z=>xi (λq hq=>by
  have:=h q hq
  unfold jx;simp only[jl,oK,bY,cB,dY,da];rw[ae (by lia),ae (by lia),af (by lia)]) z
 have a3:∀j,j<r→∀z,cs (A.map (jx l l' r')) (l+l'+j) z=cs A (l+j) z:=λj hj z=>pI (λq hq=>by
  have:=h q hq
  unfold jx;simp only[jl,oK,vi,bY,cB,dY,da];rw[ae (by lia),af (by lia)]
  congr 1
  lia) z
 have a4:∀j,j<r'→∀z,cs (A.map (jx l l' r')) (l+l'+(r+j)) z=0:=λj hj z=>xi (λq hq=>by
  have:=h q hq
  unfold jx;simp only[jl,oK,vi,bY,cB,dY,da];rw[af (by lia)]) z
 have b1:∀j,j<l→∀z,cs (B.map (j4 l r l')) j z=0:=λj hj z=>xi (λq hq=>by
  have:=h' q hq
  unfold j4;simp only[jl,oK,bY,cB,dY,da];rw[ae (by lia),ae (by lia),ae (by lia)]) z
 have b2:∀j,j<l'→∀z,cs (B.map (j4 l r l')) (l+j) z=cs B j z:=λj hj z=>pI (λq hq=>by
  have:=h' q hq
  unfold j4;simp only[jl,oK,zO,bY,cB,dY,da];rw[ae (by lia),ae (by lia),af (by lia),show l+j-l=j by lia,ae hj]) z
 have b3:∀j,j<r→∀z,cs (B.map (j4 l r l')) (l+l'+j) z=0:=λj hj z=>xi (λq hq=>by
  have:=h' q hq
  unfold j4;simp only[jl,oK,zO,bY,cB,dY,da];rw[ae (by lia),af (by lia)]) z
 have b4:∀j,j<r'→∀z,cs (B.map (j4 l r l')) (l+l'+(r+j)) z=cs B (l'+j) z:=λj hj z=>pI (λq hq=>by
  have:=h' q hq
  unfold j4;simp only[jl,oK,vi,bY,cB,dY,da];rw[af (by lia)]
  congr 1
  lia) z
 constructor
 ·rintro⟨z,h1,h2⟩;refine⟨⟨z,λj hj=>?_,λj hj=>?_⟩,⟨sh A.length z,λj hj=>?_,λj hj=>?_⟩⟩
  ·have:=h1 j (by lia)
   rwa[ml,a1 j hj,b1 j hj,oU]at this
  ·have:=h2 j (by lia)
   rwa[ml,a3 j hj,b3 j hj,oU]at this
  ·have:=h1 (l+j) (by lia)
   rwa[ml,a2 j hj,b2 j hj,jy,aZ]at this
  ·have:=h2 (r+j) (by lia)
   rwa[ml,a4 j hj,b4 j hj,jy,aZ]at this
 ·rintro⟨⟨z,h1,h2⟩,⟨z',h3,h4⟩⟩;refine⟨jI A.length z z',λj hj=>?_,λj hj=>?_⟩
  ·by_cases vj:j<l
   ·rw[ml,a1 j vj,b1 j vj,oU,DK];exact h1 j vj
   ·have:=h3 (j-l) (by lia)
    rw[show j=l+(j-l) by lia,ml,a2 _ (by lia),b2 _ (by lia),jy,aZ,DM];exact this
  ·by_cases vj:j<r
   ·rw[ml,a3 j vj,b3 j vj,oU,DK];exact h2 j vj
   ·have:=h4 (j-r) (by lia)
    rw[show j=r+(j-r) by lia,ml,a4 _ (by lia),b4 _ (by lia),jy,aZ,DM];exact this
theorem DN{l r:Nat}(p0:0<p)(h:Bw.bo p (l+m) A)(h':Bw.bo p (m+r) B):oG p (l+m+r) l (l+m) 0 (jJ l m r A B) (jJ l m r A B):=by
 refine .start (λq hq=>?_) (λq hq x hx=>?_) (λq hq j hj=>?_);all_goals rcases(dI.mp hq)with(qz|qz)
 all_goals clear hq
 all_goals obtain⟨q,hq,rfl⟩:=cP.mp qz
 all_goals clear qz
 ·have:=(h q hq).1
  simp only[nI,bY,dY];lia
 ·have:=(h' q hq).1
  simp only[oJ,bY,dY,aZ,cB,da];lia
 ·unfold nI at hx;rcases(dI.mp hx)with(hx|hx)
  ·have:=(h q hq).2 x hx
   lia
  ·have:=(qM.mp hx).2
   lia
 ·unfold oJ at hx;rcases(dI.mp hx)with(hx|hx)
  ·rcases(dI.mp hx)with(hx|hx)
   ·have:=(qM.mp hx).2
    lia
   ·obtain⟨u,hu,rfl⟩:=cP.mp hx
    have:=(h' q hq).2 u (gy hu)
    lia
  ·have:=(h' q hq).2 x (gM hx)
   lia
 ·unfold nI;rw[jl,oK];split
  ·exact((h q hq).at p0 j).1
  ·lia
 ·have hl:=(h' q hq).1;unfold oJ;simp only[jl,oK,vi,bY,aZ,cB,dY];rcases hj with hj|hj
  ·rw[ae (by lia),ae (by lia)];lia
  ·rw[af (by lia)];exact((h' q hq).at p0 _).1
theorem xk{l r:Nat}(pp:p∈cq)(h:Bw.bo p (l+m) A)(h':Bw.bo p (m+r) B):Bw.bo p (l+r) (nJ p l m r A B):=by
 have p0:0<p:=by have:=fe p pp;lia
 have S:=DD pp (DN p0 h h') m;intro q0 qz;obtain⟨q,hq,rfl⟩:=cP.mp qz;clear qz;have hl:=S.len q hq;refine⟨by simp only[xj,bY,cB,da];lia,λx hx=>?_⟩;unfold xj at hx;rcases(dI.mp hx)with(hx|hx)
 ·obtain⟨i,hi,rfl⟩:=my.mp hx;rw[cB]at hi;rw[List.getElem_take];have h1:=S.near q hq _ (lj (show i<q.length by lia));have h2:=S.pos q hq i (.inl (by lia));rw[cO,cf (show i<q.length by lia)]at h2;exact⟨h2,h1.2⟩
 ·obtain⟨i,hi,rfl⟩:=my.mp hx;rw[da]at hi;rw[List.getElem_drop];have h1:=S.near q hq _ (lj (show l+m+i<q.length by lia));have h2:=S.pos q hq (l+m+i) (.inr (by lia));rw[cO,cf (show l+m+i<q.length by lia)]at h2;exact⟨h2,h1.2⟩
theorem RR{l r:Nat}(pp:p∈cq)(h:Bw.bo p (l+m) A)(h':Bw.bo p (m+r) B):zN p l m r A B=cD p (nJ p l m r A B):=zH pp (xk pp h h')
theorem ac3{l r:Nat}(pp:p∈cq)(h:Bw.bo p (l+m) A)(h':Bw.bo p (m+r) B)(x y:Fn) :
  jw p (zN p l m r A B) l r x y↔∃z,jw p A l m x z∧jw p B m r z y:=by
 have p0:0<p:=by have:=fe p pp;lia
 have hT:=xk pp h h';have R:=gZ pp hT;have S:=DD pp (DN p0 h h') m;rw[RR pp h h',← kX (λq hq=>(R.rws q hq).1),(⟨pj R.sub,pj R.sup⟩:Sp p (RS (cD p (nJ p l m r A B))) (j0 l r x y)↔Sp p (RS (nJ p l m r A B)) (j0 l r x y)),kX (λq hq=>(hT q hq).1)];have t1:∀j,j<l→∀z,cs (nJ p l m r A B) j z=cs (fj p l (jJ l m r A B) m).2 j z:=λj hj z=>pI (λq hq=>by
  have:=S.len q hq
  unfold xj;rw[jl,zO,ae (by rw[cB];lia),ae hj]) z
 have t2:∀j,j<r→∀z,cs (nJ p l m r A B) (l+j) z=cs (fj p l (jJ l m r A B) m).2 (l+m+j) z:=λj hj z=>pI (λq hq=>by
  have:=S.len q hq
  unfold xj;rw[jl,vi,af (by rw[cB];lia),cB]
  congr 1
  lia) z
 have t3:∀j,j<m→∀z,p∣cs (fj p l (jJ l m r A B) m).2 (l+j) z:=λj hj z=>ac2 (λq hq=>((S.sp (fn q)).mp (.mem ⟨q,hq,rfl⟩)).2 (l+j) (by lia) (by lia)) z;have a1:∀j,j<l→∀z,cs (A.map (nI r)) j z=cs A j z:=λj hj z=>pI (λq hq=>by
  have:=(h q hq).1
  unfold nI;rw[jl,ae (by lia)]) z
 have a2:∀j,j<m→∀z,cs (A.map (nI r)) (l+j) z=cs A (l+j) z:=λj hj z=>pI (λq hq=>by
  have:=(h q hq).1
  unfold nI;rw[jl,ae (by lia)]) z
 have a3:∀j,j<r→∀z,cs (A.map (nI r)) (l+m+j) z=0:=λj hj z=>xi (λq hq=>by
  have:=(h q hq).1
  unfold nI;rw[jl,af (by lia),oK]) z
 have b1:∀j,j<l→∀z,cs (B.map (oJ l m)) j z=0:=λj hj z=>xi (λq hq=>by
  unfold oJ;simp only[jl,oK,bY,aZ,cB,dY];rw[ae (by lia),ae (by lia)]) z
 have b2:∀j,j<m→∀z,cs (B.map (oJ l m)) (l+j) z=-cs B j z:=λj hj z=>ac1 (λq hq=>by
  have hl:=(h' q hq).1;unfold oJ;simp only[jl,oK,bY,aZ,cB,dY];rw[ae (by lia),af (by lia),show l+j-l=j by lia,cO,dU,List.getElem?_take,ae hj,cf (by lia),cO,cf (by lia)];exact Int.zero_sub _) z
 have b3:∀j,j<r→∀z,cs (B.map (oJ l m)) (l+m+j) z=cs B (m+j) z:=λj hj z=>pI (λq hq=>by
  have hl:=(h' q hq).1;unfold oJ;simp only[jl,vi,bY,aZ,cB,dY];rw[af (by lia)]
  congr 1
  lia) z
 have CO:∀q∈jJ l m r A B,q.length=l+m+r:=(DN p0 h h').len
 let f:Fn:=j0 l (m+r) x (jI m (λ_=>0) y)
 have fz:∀j,l≤j→j<l+m→p∣f j:=λj h1 h2=>⟨0,by
  show j0 l (m+r) x (jI m (λ_=>0) y) j=_;unfold j0 jI;rw[af (by lia),ae (by lia),ae (by lia)];simp⟩
 have e1:jw p (nJ p l m r A B) l r x y↔Sp p (RS (fj p l (jJ l m r A B) m).2) f:=by
  rw[kX (λq hq=>by rw[S.len q hq];lia)];constructor
  ·rintro⟨z,h1,h2⟩;refine⟨z,λj hj=>t1 j hj z▸h1 j hj,λj hj=>?_⟩;unfold jI;by_cases hm:j<m
   ·rw[ae hm];exact eq.symm (show p∣_-0 by rw[Int.sub_zero];exact t3 j hm z)
   ·rw[af hm]
    have:=h2 (j-m) (by lia)
    rwa[t2 _ (by lia),show l+m+(j-m)=l+j by lia]at this
  ·rintro⟨z,h1,h2⟩;refine⟨z,λj hj=>(t1 j hj z).symm▸h1 j hj,λj hj=>?_⟩
   have:=h2 (m+j) (by lia)
   unfold jI at this;rw[af (by lia),show m+j-m=j by lia,show l+(m+j)=l+m+j by lia]at this;rw[t2 j hj];exact this
 rw[e1,S.sp f,kX (λq hq=>by rw[CO q hq];lia)];constructor
 ·rintro⟨⟨z,h1,h2⟩,_⟩;have two:∀j,j<m→eq p (cs A (l+j) z) (cs B j (sh A.length z)):=λj hj=>by
   have:=h2 j (by lia)
   unfold jI at this;rw[ae hj,show cs (jJ l m r A B) (l+j) z=_ from ml _ _ _ _,a2 j hj,b2 j hj,aZ]at this
   obtain⟨c,hc⟩:=this;have iJ:(0:Int)-(cs A (l+j) z + -cs B j (sh A.length z))=p*c:=hc;exact⟨-c,by rw[Int.mul_neg,← iJ];lia⟩
  refine⟨λj=>cs A (l+j) z,⟨z,λj hj=>?_,λj hj=>.refl _ _⟩,⟨sh A.length z,λj hj=>two j hj,λj hj=>?_⟩⟩
  ·have:=h1 j hj
   rwa[show cs (jJ l m r A B) j z=_ from ml _ _ _ _,a1 j hj,b1 j hj,oU]at this
  ·have:=h2 (m+j) (by lia)
   unfold jI at this;rwa[af (by lia),show m+j-m=j by lia,show l+(m+j)=l+m+j by lia,show cs (jJ l m r A B) (l+m+j) z=_ from ml _ _ _ _,a3 j hj,b3 j hj,jy,aZ]at this
 ·rintro⟨w,⟨z,h1,h2⟩,⟨z',h3,h4⟩⟩;refine⟨⟨jI A.length z z',λj hj=>?_,λj hj=>?_⟩,fz⟩
  ·rw[show cs (jJ l m r A B) j (jI A.length z z')=_ from ml _ _ _ _,a1 j hj,b1 j hj,oU,DK]
   exact h1 j hj
  ·by_cases hm:j<m
   ·rw[show cs (jJ l m r A B) (l+j) (jI A.length z z')=_ from ml _ _ _ _,a2 j hm,b2 j hm,DK,aZ,DM]
    unfold jI;rw[ae hm];obtain⟨c,hc⟩:=(h2 j hm).symm.trans (h3 j hm);refine⟨-c,?_⟩;show(0:Int)-(cs A (l+j) z + -cs B j z')=_;rw[Int.mul_neg,← hc];lia
   ·have:=h4 (j-m) (by lia)
    rw[show l+j=l+m+(j-m) by lia,show cs (jJ l m r A B) (l+m+(j-m)) (jI A.length z z')=_ from ml _ _ _ _,a3 _ (by lia),b3 _ (by lia),jy,aZ,DM]
    unfold jI;rw[af hm];exact this
theorem RT{n:Int}{x y:Fn}:jw p [[1,n]] 1 1 x y↔eq p (y 0) (n*x 0):=by
 constructor
 ·rintro⟨z,h1,h2⟩;obtain⟨a,ha⟩:=h1 0 (by lia);obtain⟨b,hb⟩:=h2 0 (by lia);have rQ:x 0-(1*z 0+0)=p*a:=ha;have iU:y 0-(n*z 0+0)=p*b:=hb;exact⟨b-n*a,by grind⟩
 ·rintro⟨a,ha⟩;refine⟨x,λj hj=>?_,λj hj=>?_⟩
  ·obtain rfl:j=0:=by lia
   exact⟨0,by show x 0-(1*x 0+0)=_;lia⟩
  ·obtain rfl:j=0:=by lia
   exact⟨a,by show y 0-(n*x 0+0)=_;lia⟩
theorem zP(h:j<2):j=0∨j=1:=by lia
theorem vk(pp:p∈cq):∀{d:Dr},d.wf p→Bw.bo p (d.l+d.r) (d.aN p)∧(d.aN p).length≤d.l+d.r∧∀x y:Fn,dH p d x y↔jw p (d.aN p) d.l d.r x y:=by
 have p2:2≤p:=(fe p pp).1;have box:∀{q:List Int},(∀x∈q,x=0∨x=1)→∀x∈q,0≤x∧x<p:=λh x hx=>by rcases h x hx with h|h<;>lia
 intro d;induction d with
 |id=>
  intro _;refine⟨λq hq=>?_,(by show 1≤2;decide),λx y=>(Iff.trans ?_ RT.symm)⟩
  ·obtain rfl:=dP.mp hq;exact⟨rfl,box (by simp)⟩
  ·show eq p (y 0) (x 0)↔_;rw[qN]
 |times n=>
  intro h;refine⟨λq hq=>?_,(by show 1≤2;decide),λx y=>RT.symm⟩;obtain rfl:=dP.mp hq;refine⟨rfl,λx hx=>?_⟩;have h0:0≤n∧n<p:=h;rcases(eW.mp hx)with(rfl|hx)
  ·lia
  ·obtain rfl:=dP.mp hx;exact h0
 |swap=>
  intro _;refine⟨λq hq=>?_,by show 2≤4;decide,λx y=>⟨?_,?_⟩⟩
  ·rcases(eW.mp hq)with(rfl|hq)
   ·exact⟨rfl,box (by simp)⟩
   ·obtain rfl:=dP.mp hq;exact⟨rfl,box (by simp)⟩
  ·rintro⟨⟨a,ha⟩,⟨b,hb⟩⟩;refine⟨x,λj hj=>?_,λj hj=>?_⟩
   ·rcases zP hj with rfl|rfl
    ·exact⟨0,by show x 0-(1*x 0+(0*x (1+0)+0))=_;simp⟩
    ·exact⟨0,by show x 1-(0*x 0+(1*x (1+0)+0))=_;simp⟩
   ·rcases zP hj with rfl|rfl
    ·exact⟨a,by show y 0-(0*x 0+(1*x (1+0)+0))=_;rw[show(1+0)=1 from rfl];lia⟩
    ·exact⟨b,by show y 1-(1*x 0+(0*x (1+0)+0))=_;lia⟩
  ·rintro⟨z,h1,h2⟩;obtain⟨a,ha⟩:=h1 0 (by decide);obtain⟨b,hb⟩:=h1 1 (by decide);obtain⟨c,hc⟩:=h2 0 (by decide);obtain⟨e,he⟩:=h2 1 (by decide);have rQ:x 0-(1*z 0+(0*z (1+0)+0))=p*a:=ha;have iU:x 1-(0*z 0+(1*z (1+0)+0))=p*b:=hb;have iJ:y 0-(0*z 0+(1*z (1+0)+0))=p*c:=hc;have RU:y 1-(1*z 0+(0*z (1+0)+0))=p*e:=he;exact⟨⟨c-b,by rw[oT];lia⟩,⟨e-a,by rw[oT];lia⟩⟩
 |copy=>
  intro _;refine⟨λq hq=>?_,by show 1≤3;decide,λx y=>⟨?_,?_⟩⟩
  ·obtain rfl:=dP.mp hq;exact⟨rfl,box (by simp)⟩
  ·rintro⟨⟨a,ha⟩,⟨b,hb⟩⟩;refine⟨x,λj hj=>?_,λj hj=>?_⟩
   ·obtain rfl:j=0:=by have:j<1:=hj;lia
    exact⟨0,by show x 0-(1*x 0+0)=_;lia⟩
   ·rcases zP hj with rfl|rfl
    ·exact⟨a,by show y 0-(1*x 0+0)=_;lia⟩
    ·exact⟨b,by show y 1-(1*x 0+0)=_;lia⟩
  ·rintro⟨z,h1,h2⟩;obtain⟨a,ha⟩:=h1 0 (by decide);obtain⟨c,hc⟩:=h2 0 (by decide);obtain⟨e,he⟩:=h2 1 (by decide);have rQ:x 0-(1*z 0+0)=p*a:=ha;have iJ:y 0-(1*z 0+0)=p*c:=hc;have RU:y 1-(1*z 0+0)=p*e:=he;exact⟨⟨c-a,by rw[oT];lia⟩,⟨e-a,by rw[oT];lia⟩⟩
 |fin=>
  intro _;refine⟨λq hq=>?_,by show 1≤1;decide,λx y=>⟨λ_=>⟨x,λj hj=>?_,λj hj=>absurd hj (by show ¬j<0;lia)⟩,λ_=>trivial⟩⟩
  ·obtain rfl:=dP.mp hq;exact⟨rfl,box (by simp)⟩
  ·obtain rfl:j=0:=by have:j<1:=hj;lia
   exact⟨0,by show x 0-(1*x 0+0)=_;lia⟩
 |add=>
  intro _;refine⟨λq hq=>?_,by show 2≤3;decide,λx y=>⟨?_,?_⟩⟩
  ·rcases(eW.mp hq)with(rfl|hq)
   ·exact⟨rfl,box (by simp)⟩
   ·obtain rfl:=dP.mp hq;exact⟨rfl,box (by simp)⟩
  ·rintro⟨a,ha⟩;refine⟨x,λj hj=>?_,λj hj=>?_⟩
   ·rcases zP hj with rfl|rfl
    ·exact⟨0,by show x 0-(1*x 0+(0*x (1+0)+0))=_;simp⟩
    ·exact⟨0,by show x 1-(0*x 0+(1*x (1+0)+0))=_;simp⟩
   ·obtain rfl:j=0:=by have:j<1:=hj;lia
    exact⟨a,by show y 0-(1*x 0+(1*x (1+0)+0))=_;rw[show(1+0)=1 from rfl];lia⟩
  ·rintro⟨z,h1,h2⟩;obtain⟨a,ha⟩:=h1 0 (by decide);obtain⟨b,hb⟩:=h1 1 (by decide);obtain⟨c,hc⟩:=h2 0 (by decide);have rQ:x 0-(1*z 0+(0*z (1+0)+0))=p*a:=ha;have iU:x 1-(0*z 0+(1*z (1+0)+0))=p*b:=hb;have iJ:y 0-(1*z 0+(1*z (1+0)+0))=p*c:=hc;exact⟨c-a-b,by rw[oT,oT];lia⟩
 |none=>
  intro _;refine⟨λq hq=>(nomatch hq),by show 0≤1;decide,λx y=>⟨λh=>⟨x,λj hj=>absurd hj (by show ¬j<0;lia),λj hj=>?_⟩,λ⟨z,_,h2⟩=>h2 0 (by decide)⟩⟩;obtain rfl:j=0:=by have:j<1:=hj;lia
  exact h
 |jY=>
  intro _;refine⟨λq hq=>?_,by show 1≤2;decide,λx y=>⟨?_,?_⟩⟩
  ·obtain rfl:=dP.mp hq;exact⟨rfl,box (by simp)⟩
  ·rintro⟨a,ha⟩;refine⟨y,λj hj=>absurd hj (by show ¬j<0;lia),λj hj=>?_⟩;rcases zP hj with rfl|rfl
   ·exact⟨0,by show y 0-(1*y 0+0)=_;lia⟩
   ·exact⟨a,by show y 1-(1*y 0+0)=_;lia⟩
  ·rintro⟨z,_,h2⟩;obtain⟨c,hc⟩:=h2 0 (by decide);obtain⟨e,he⟩:=h2 1 (by decide);have iJ:y 0-(1*z 0+0)=p*c:=hc;have RU:y 1-(1*z 0+0)=p*e:=he;exact⟨e-c,by rw[oT];lia⟩
 |empty=>
  intro _;exact⟨λq hq=>(nomatch hq),by show 0≤0;decide,λx y=>⟨λh=>⟨x,λj hj=>absurd hj (by show ¬j<0;lia),λj hj=>absurd hj (by show ¬j<0;lia)⟩,λ_=>trivial⟩⟩
 |back d ih=>
  intro h;obtain⟨i1,i2,i3⟩:=ih h;refine⟨λq0 qz=>?_,?_,λx y=>?_⟩
  ·obtain⟨q,hq,rfl⟩:=cP.mp qz;obtain⟨j1,j2⟩:=i1 q hq;refine⟨?_,λx hx=>?_⟩
   ·show(oI d.l q).length=d.r+d.l;simp only[oI,bY,da,cB];lia
   ·rcases(dI.mp hx)with(hx|hx)
    ·exact j2 x (gM hx)
    ·exact j2 x (gy hx)
  ·show((d.aN p).map _).length≤d.r+d.l;rw[aZ];lia
  ·exact(i3 y x).trans (RP (λq hq=>(i1 q hq).1) x y).symm
 |cC a b rT rV=>
  intro h;obtain⟨i1,i2,i3⟩:=rT h.1;obtain⟨j1,j2,j3⟩:=rV h.2;refine⟨λq0 qz=>?_,?_,λx y=>?_⟩
  ·rcases(dI.mp qz)with(gG|gG)
   ·obtain⟨q,hq,rfl⟩:=cP.mp gG;obtain⟨k1,k2⟩:=i1 q hq;refine⟨?_,λx hx=>?_⟩
    ·show(jx a.l b.l b.r q).length=a.l+b.l+(a.r+b.r);simp only[jx,bY,da,cB,dY];lia
    ·unfold jx at hx;simp only[dI,qM]at hx;rcases hx with((hx|hx)|hx)|hx
     ·exact k2 x (gy hx)
     ·lia
     ·exact k2 x (gM hx)
     ·lia
   ·obtain⟨q,hq,rfl⟩:=cP.mp gG;obtain⟨k1,k2⟩:=j1 q hq;refine⟨?_,λx hx=>?_⟩
    ·show(j4 a.l a.r b.l q).length=a.l+b.l+(a.r+b.r);simp only[j4,bY,da,cB,dY];lia
    ·unfold j4 at hx;simp only[dI,qM]at hx;rcases hx with((hx|hx)|hx)|hx
     ·lia
     ·exact k2 x (gy hx)
     ·lia
     ·exact k2 x (gM hx)
  ·show(((a.aN p).map _)++((b.aN p).map _)).length≤a.l+b.l+(a.r+b.r);rw[bY,aZ,aZ];lia
  ·show dH p a x y∧dH p b (sh a.l x) (sh a.r y)↔_;rw[i3,j3];exact(RQ (λq hq=>(i1 q hq).1) (λq hq=>(j1 q hq).1) x y).symm
 |bc a b rT rV=>
  intro h;obtain⟨i1,i2,i3⟩:=rT h.1;obtain⟨j1,j2,j3⟩:=rV h.2.1;have e:b.l=a.r:=h.2.2.symm;rw[e]at j1 j3;have R:=gZ pp (xk pp i1 j1);have er:Dr.aN p (.bc a b)=cD p (nJ p a.l a.r b.r (a.aN p) (b.aN p)):=RR pp i1 j1;refine⟨?_,?_,λx y=>?_⟩
  ·rw[er];exact R.rws
  ·rw[er,← zH pp (xk pp i1 j1)];exact(zG pp (xk pp i1 j1) (a.l+b.r) (cu _)).len (cu _)
  ·show(∃z,dH p a x z∧dH p b z y)↔_;simp only[i3,j3];exact(ac3 pp i1 j1 x y).symm
end
end D1
namespace D1
open Bw
namespace Dr
def cL(B:Nat):Dr→Prop
 |back d=>d.cL B
 |cC a b=>a.cL B∧b.cL B∧a.l+b.l+(a.r+b.r)≤B
 |bc a b=>a.cL B∧b.cL B∧a.l+b.r≤B
 |_=>True
end Dr
theorem RV{B:Nat}(h4:4≤B):∀{d:Dr},d.cL B→d.l+d.r≤B
 | .id,_=>by show 1+1≤B;lia
 | .swap,_=>by show 2+2≤B;lia
 | .copy,_=>by show 1+2≤B;lia
 | .fin,_=>by show 1+0≤B;lia
 | .add,_=>by show 2+1≤B;lia
 | .none,_=>by show 0+1≤B;lia
 | .jY,_=>by show 0+2≤B;lia
 | .empty,_=>by show 0+0≤B;lia
 | .times _,_=>by show 1+1≤B;lia
 | .back d,h=>by have:d.l+d.r≤B:=RV h4 (d:=d) h;show d.r+d.l≤B;lia
 | .cC _ _,h=>h.2.2
 | .bc _ _,h=>h.2.2
section
variable{B:Nat}
theorem zQ:∀n,2*n≤B→(cN n).cL B
 |0,_=>trivial
 |1,_=>trivial
 |n+2,h=>by
  refine⟨zQ (n+1) (by lia),trivial,?_⟩;show(cN (n+1)).aU.1+1+((cN (n+1)).aU.2+1)≤B;rw[ir];show n+1+1+(n+1+1)≤B;lia
theorem ac4(a b:Nat)(ha:1≤a)(hb:1≤b)(h:2*(a+b)≤B):(cg a b).cL B:=by
 induction a,b using cg.induct with
 |case1 a b h1 ih=>
  unfold cg;rw[ae h1];exact ih hb ha (by lia)
 |case2 a b h1 h2=>
  unfold cg;rw[af h1,ae h2];trivial
 |case3 a b h1 h2 gq gu=>
  unfold cg;rw[af h1,af h2];have c1:=oH (a-a/2) b (by lia) hb;have c2:=oH (a/2) b (by lia) hb;refine⟨⟨zQ _ (by lia),gq (by lia) hb (by lia),?_⟩,⟨gu (by lia) hb (by lia),zQ _ (by lia),?_⟩,?_⟩
  ·show(cN (a/2)).aU.1+(cg (a-a/2) b).aU.1+((cN (a/2)).aU.2+(cg (a-a/2) b).aU.2)≤B;rw[ir,c1];show a/2+(a-a/2+b)+(a/2+(b+(a-a/2)))≤B;lia
  ·show(cg (a/2) b).aU.1+(cN (a-a/2)).aU.1+((cg (a/2) b).aU.2+(cN (a-a/2)).aU.2)≤B;rw[ir,c2];show a/2+b+(a-a/2)+(b+a/2+(a-a/2))≤B;lia
  ·show(cN (a/2)).aU.1+(cg (a-a/2) b).aU.1+((cg (a/2) b).aU.2+(cN (a-a/2)).aU.2)≤B;rw[ir,ir,c1,c2];show a/2+(a-a/2+b)+(b+a/2+(a-a/2))≤B;lia
theorem RW(a c e b:Nat)(hc:1≤c)(he:1≤e)(h:2*(a+c+e+b)≤B):(iO a (cg c e) b).cL B∧(iO a (cg c e) b).aU=(a+(c+e+b),a+(e+c+b)):=by
 have c1:=oH c e hc he;have s:(iO a (cg c e) b).aU=(a+(c+e+b),a+(e+c+b)):=by
  show((cN a).aU.1+((cg c e).aU.1+(cN b).aU.1),(cN a).aU.2+((cg c e).aU.2+(cN b).aU.2))=_;rw[ir,ir,c1]
 refine⟨⟨zQ _ (by lia),⟨ac4 _ _ hc he (by lia),zQ _ (by lia),?_⟩,?_⟩,s⟩
 ·show(cg c e).aU.1+(cN b).aU.1+((cg c e).aU.2+(cN b).aU.2)≤B;rw[ir,c1];show c+e+b+(e+c+b)≤B;lia
 ·show(iO a (cg c e) b).aU.1+(iO a (cg c e) b).aU.2≤B;rw[s];show a+(c+e+b)+(a+(e+c+b))≤B;lia
theorem ac5(n:Nat)(hn:1≤n)(h:4*n≤B):(du n).cL B:=by
 induction n using du.induct with
 |case1 n h1=>
  unfold du;rw[ae h1];trivial
 |case2 n h1 gq gu=>
  unfold du;rw[af h1];have s1:=rR (n/2) (by lia);have s2:=rR (n-n/2) (by lia);have i:=RW (B:=B) (n/2) (n/2) (n-n/2) (n-n/2) (by lia) (by lia) (by lia);refine⟨⟨gq (by lia) (by lia),gu (by lia) (by lia),?_⟩,i.1,?_⟩
  ·show(du (n/2)).aU.1+(du (n-n/2)).aU.1+((du (n/2)).aU.2+(du (n-n/2)).aU.2)≤B;rw[s1,s2];show n/2+(n-n/2)+(n/2+n/2+(n-n/2+(n-n/2)))≤B;lia
  ·show(du (n/2)).aU.1+(du (n-n/2)).aU.1+(iO (n/2) (cg (n/2) (n-n/2)) (n-n/2)).aU.2≤B;rw[s1,s2,i.2];show n/2+(n-n/2)+(n/2+(n-n/2+n/2+(n-n/2)))≤B;lia
theorem ac6(n:Nat)(hn:1≤n)(h:4*n≤B):(dv n).cL B:=by
 induction n using dv.induct with
 |case1 n h1=>
  unfold dv;rw[ae h1];trivial
 |case2 n h1 gq gu=>
  unfold dv;rw[af h1];have s1:=tS (n/2) (by lia);have s2:=tS (n-n/2) (by lia);have i:=RW (B:=B) (n/2) (n-n/2) (n/2) (n-n/2) (by lia) (by lia) (by lia);refine⟨i.1,⟨gq (by lia) (by lia),gu (by lia) (by lia),?_⟩,?_⟩
  ·show(dv (n/2)).aU.1+(dv (n-n/2)).aU.1+((dv (n/2)).aU.2+(dv (n-n/2)).aU.2)≤B;rw[s1,s2];show n/2+n/2+(n-n/2+(n-n/2))+(n/2+(n-n/2))≤B;lia
  ·show(iO (n/2) (cg (n-n/2) (n/2)) (n-n/2)).aU.1+((dv (n/2)).aU.2+(dv (n-n/2)).aU.2)≤B;rw[s1,s2,i.2];show n/2+(n-n/2+n/2+(n-n/2))+(n/2+(n-n/2))≤B;lia
theorem RX(aL:LL)(aM:Nat):(mj aL aM).cL B:=by
 unfold mj;split
 ·split<;>trivial
 ·split
  ·trivial
  ·split<;>trivial
theorem tU{p:Int}:∀(n:Nat)(aL:LL)(aM:Nat),aM+aL.length≤n→aM<9→aL.length<9→bo p aL aM→(sumF n aL aM).cL 64
 |0,aL,aM,hn,_,_,_=>by
  unfold sumF;exact RX _ _
 |n+1,aL,aM,hn,hc,hl,h=>by
  unfold sumF;by_cases ho:iG aL aM
  ·rw[ae ho];exact RX _ _
  rw[af ho];have h2:2≤aM+aL.length:=by unfold iG at ho;lia
  match hs:lN aL aM with
  |some (k,t)=>
   obtain⟨hk,ht,pH⟩:=DF hs;unfold iP at pH;rw[eX,eX,aH,aH]at pH;obtain⟨⟨c1,c2⟩,c3⟩:=pH;have e1:((aL.take t).map (·.take k)).length=t:=by simp;lia
   have e2:((aL.drop t).map (·.drop k)).length=aL.length-t:=by simp
   have r1:=(h.sub λr hr=>gy (i:=t) hr).take hk;have r2:bo p ((aL.drop t).map (·.drop k)) (aM-k):=bo.drop (h.sub λr hr=>gM hr);have i1:=tU n ((aL.take t).map (·.take k)) k (by lia) (by lia) (by lia) r1;have i2:=tU n ((aL.drop t).map (·.drop k)) (aM-k) (by lia) (by lia) (by lia) r2;have s1:=(kH n _ k (by lia) r1).1.1;have s2:=(kH n _ (aM-k) (by lia) r2).1.1;rw[e1]at s1;rw[e2]at s2;refine⟨i1,i2,?_⟩;show(sumF n ((aL.take t).map (·.take k)) k).aU.1+(sumF n ((aL.drop t).map (·.drop k)) (aM-k)).aU.1+((sumF n ((aL.take t).map (·.take k)) k).aU.2+(sumF n ((aL.drop t).map (·.drop k)) (aM-k)).aU.2)≤64;rw[s1,s2];show k+(aM-k)+(t+(aL.length-t))≤64;lia
  |none=>
   obtain⟨c1,c2,c3⟩:=DG h ho hs;by_cases iX:aM≤aL.length
   ·show(if _ then _ else _:Dr).cL 64
    rw[ae iX];have e1:(aL.take (aL.length/2)).length=aL.length/2:=by simp;lia
    have e2:(aL.drop (aL.length/2)).length=aL.length-aL.length/2:=by simp
    have r1:bo p (aL.take (aL.length/2)) aM:=h.sub λr hr=>gy hr;have r2:bo p (aL.drop (aL.length/2)) aM:=h.sub λr hr=>gM hr;have i1:=tU n (aL.take (aL.length/2)) aM (by lia) hc (by lia) r1;have i2:=tU n (aL.drop (aL.length/2)) aM (by lia) hc (by lia) r2;have s1:=(kH n _ aM (by lia) r1).1.1;have s2:=(kH n _ aM (by lia) r2).1.1;have cs:=rR aM c1;rw[e1]at s1;rw[e2]at s2;refine⟨ac5 aM c1 (by lia),⟨i1,i2,?_⟩,?_⟩
    ·show(sumF n (aL.take (aL.length/2)) aM).aU.1+(sumF n (aL.drop (aL.length/2)) aM).aU.1+((sumF n (aL.take (aL.length/2)) aM).aU.2+(sumF n (aL.drop (aL.length/2)) aM).aU.2)≤64;rw[s1,s2];show aM+aM+(aL.length/2+(aL.length-aL.length/2))≤64;lia
    ·show(du aM).aU.1+((sumF n (aL.take (aL.length/2)) aM).aU.2+(sumF n (aL.drop (aL.length/2)) aM).aU.2)≤64;rw[s1,s2,cs];show aM+(aL.length/2+(aL.length-aL.length/2))≤64;lia
   ·show(if _ then _ else _:Dr).cL 64
    rw[af iX];have e1:(aL.map (·.take (aM/2))).length=aL.length:=by simp
    have e2:(aL.map (·.drop (aM/2))).length=aL.length:=by simp
    have r1:bo p (aL.map (·.take (aM/2))) (aM/2):=h.take (by lia);have r2:bo p (aL.map (·.drop (aM/2))) (aM-aM/2):=h.drop;have i1:=tU n (aL.map (·.take (aM/2))) (aM/2) (by lia) (by lia) (by lia) r1;have i2:=tU n (aL.map (·.drop (aM/2))) (aM-aM/2) (by lia) (by lia) (by lia) r2;have s1:=(kH n _ (aM/2) (by lia) r1).1.1;have s2:=(kH n _ (aM-aM/2) (by lia) r2).1.1;have as:=tS aL.length c2;rw[e1]at s1;rw[e2]at s2;refine⟨⟨i1,i2,?_⟩,ac6 aL.length c2 (by lia),?_⟩
    ·show(sumF n (aL.map (·.take (aM/2))) (aM/2)).aU.1+(sumF n (aL.map (·.drop (aM/2))) (aM-aM/2)).aU.1+((sumF n (aL.map (·.take (aM/2))) (aM/2)).aU.2+(sumF n (aL.map (·.drop (aM/2))) (aM-aM/2)).aU.2)≤64;rw[s1,s2];show aM/2+(aM-aM/2)+(aL.length+aL.length)≤64;lia
    ·show(sumF n (aL.map (·.take (aM/2))) (aM/2)).aU.1+(sumF n (aL.map (·.drop (aM/2))) (aM-aM/2)).aU.1+(dv aL.length).aU.2≤64;rw[s1,s2,as];show aM/2+(aM-aM/2)+aL.length≤64;lia
end
abbrev pJ:=Option Int×List Dr
noncomputable def DO:Option Int→List Wd
 |some m=>[.n m]
 |none=>[]
noncomputable def mn(s:pJ):List Wd:=DO s.1++s.2.flatMap Dr.aQ
noncomputable def vm:pJ→pJ
 |(some _,ds)=>(none,ds)
 |(none,[])=>(none,[])
 |(none,.times n::ds)=>(some n,ds)
 |(none,.back d::ds)=>(none,d::ds)
 |(none,.cC a b::ds)=>(none,a::b::ds)
 |(none,.bc a b::ds)=>(none,a::b::ds)
 |(none,_::ds)=>(none,ds)
noncomputable def iH(s:pJ):Nat→pJ
 |0=>s
 |i+1=>vm (iH s i)
theorem ac7:∀s:pJ,mn (vm s)=(mn s).drop 1
 |(some m,ds)=>rfl
 |(none,[])=>rfl
 |(none,.times n::ds)=>rfl
 |(none,.back d::ds)=>rfl
 |(none,.cC a b::ds)=>by simp[vm,mn,DO,Dr.aQ]
 |(none,.bc a b::ds)=>by simp[vm,mn,DO,Dr.aQ]
 |(none,.id::ds)=>rfl
 |(none,.swap::ds)=>rfl
 |(none,.copy::ds)=>rfl
 |(none,.fin::ds)=>rfl
 |(none,.add::ds)=>rfl
 |(none,.none::ds)=>rfl
 |(none,.jY::ds)=>rfl
 |(none,.empty::ds)=>rfl
theorem DP(s:pJ):∀i,mn (iH s i)=(mn s).drop i
 |0=>by rw[vE];rfl
 |i+1=>by
  show mn (vm (iH s i))=_;rw[ac7,DP s i,List.drop_drop]
theorem words_pos:∀d:Dr,1≤d.aQ.length:=λd=>by cases d<;>simp[Dr.aQ]
theorem J7:∀ds:List Dr,ds.length≤(ds.flatMap Dr.aQ).length
 | []=>cu 0
 |d::ds=>by
  have:=J7 ds
  have:=words_pos d
  rw[List.flatMap_cons,bY,eE];lia
theorem ac8{s:pJ}(h:mn s=[]):s=(none,[]):=by
 obtain⟨m,ds⟩:=s;unfold mn at h;obtain⟨h1,h2⟩:=List.append_eq_nil_iff.mp h;cases m with
 |some m=>cases h1
 |none=>
  have:=J7 ds
  dsimp only at h2;rw[h2]at this;rw[List.length_eq_zero_iff.mp (Nat.le_zero.mp this)]
def ma(p:Int)(B:Nat)(s:pJ):Prop:=(∀m,s.1=some m→0≤m∧m<p)∧∀d∈s.2,d.wf p∧d.cL B
theorem ac9{p:Int}{B:Nat}:∀s:pJ,ma p B s→ma p B (vm s):=by
 intro s h;obtain⟨m,ds⟩:=s;have tl:∀{d:Dr}{ds:List Dr},ma p B (none,d::ds)→ma p B (none,ds):=λh=>⟨λm e=>(nomatch e),λd hd=>h.2 d (iy _ hd)⟩;have hd:∀{d:Dr}{ds:List Dr},ma p B (none,d::ds)→d.wf p∧d.cL B:=λh=>h.2 _ ek;have cn:∀{d:Dr}{ds:List Dr},d.wf p∧d.cL B→ma p B (none,ds)→ma p B (none,d::ds):=λa h=>⟨λm e=>(nomatch e),λd hd=>by
  rcases(eW.mp hd)with(rfl|hd)
  ·exact a
  ·exact h.2 d hd⟩
 cases m with
 |some m=>exact⟨λm e=>(nomatch e),h.2⟩
 |none=>
  cases ds with
  |nil=>exact h
  |cons d ds=>
   cases d with
   |times n=>exact⟨λm e=>by cases e;exact(hd h).1,(tl h).2⟩
   |back d=>exact cn (d:=d) ⟨(hd h).1,(hd h).2⟩ (tl h)
   |cC a b=>exact cn ⟨(hd h).1.1,(hd h).2.1⟩ (cn ⟨(hd h).1.2,(hd h).2.2.1⟩ (tl h))
   |bc a b=>exact cn ⟨(hd h).1.1,(hd h).2.1⟩ (cn ⟨(hd h).1.2.1,(hd h).2.2.1⟩ (tl h))
   |_=>exact tl h
theorem RY{p:Int}{B:Nat}{s:pJ}(h:ma p B s):∀i,ma p B (iH s i)
 |0=>h
 |i+1=>ac9 _ (RY h i)
theorem J8(d:Dr):mn (none,[d])=d.aQ:=by simp[mn,DO]
theorem ada{d:Dr}{i:Nat}:d.aQ[i]?=(mn (iH (none,[d]) i))[0]?:=by
 rw[DP,J8,si,Nat.add_zero]
theorem RZ(d:Dr):iH (none,[d]) d.aQ.length=(none,[]):=ac8 (by rw[DP,J8,List.drop_length])
theorem adb(d:Dr)(i:Nat):(iH (none,[d]) i).2.length≤d.aQ.length:=by
 have h:=DP (none,[d]) i;rw[J8]at h;have e:=ai List.length h;have f:=J7 (iH (none,[d]) i).2;unfold mn at e;rw[bY,da]at e;lia
end D1
namespace S21
open PySem L2 Bw
variable{E:XK}{H H1:Hp}{Pt f:Addr}{a i j m n:Nat}{d:D1.Dr}{fd:FuncData}{ta tb te:TE}{u y:Fn}{ws:List D1.Wd}{x:String}{σ:St}
noncomputable def di:D1.Wd→V
 | .w x=>.str x
 | .n i=>.int i
def IE(te:TE)(σ:St)(H:Hp)(k:Int):Prop:=∀H',aK H H'→∀R:VK,R (.int k) H'→te σ H' R
def g7(K:Frag)(te:TE)(σ:St)(H:Hp)(ws:List D1.Wd):Prop:=∀H',aK H H'→∀R:VK,(∀v eT,aK H' eT→bf K eT v (ws.map di)→R (.ref v) eT)→te σ H' R
def oM(K:Frag)(H:Hp)(ws:List D1.Wd)(Q:VK):Prop:=∀v H',aK H H'→bf K H' v (ws.map di)→Q (.ref v) H'
section
variable{K:Frag}{σ:St}{H:Hp}
theorem ade{k:Int}:IE (tC (.int k)) σ H k:=λ_ _ _ q=>q
theorem fK{k:Int}(h:σ[i]?=some (some (.int k))):IE (aY i) σ H k:=λ_ _ _ q=>⟨_,h,q⟩
theorem adf{i j:Int}(h1:IE ta σ H i)(h2:IE tb σ H j):IE (bz (e7 λi j=>.int (i-j)) ta tb) σ H (i-j):=λH' s _ q=>h1 H' s _ (h2 H' s _ ⟨i,j,rfl,rfl,q⟩)
theorem DQ{a:Addr}(h:σ[i]?=some (some (.ref a)))(ha:bf K H a (ws.map di)):g7 K (aY i) σ H ws:=λ_ s _ q=>⟨_,h,q a _ (.refl _) (s.bh ha)⟩
theorem jK:g7 K (jQ (bg (tC (.str x)) cm)) σ H [.w x]:=λH' _ R q=>⟨by show 1≤sizeLine;decide,λa ha=>q a _ (aK.upd ha) (.of aV)⟩
theorem J9{y:String}:g7 K (jQ (bg (tC (.str x)) (bg (tC (.str y)) cm))) σ H [.w x,.w y]:=λH' _ R q=>⟨by show 2≤sizeLine;decide,λa ha=>q a _ (aK.upd ha) (.of aV)⟩
theorem gi{ns ms:List D1.Wd}(h1:g7 K ta σ H ns)(h2:g7 K tb σ H ms)(hl:ns.length+ms.length≤10000000):g7 K (bz (uM K) ta tb) σ H (ns++ms):=λH' s R q=>by
 have z:(10000000:Nat)≤sizeLine:=by decide
 refine h1 H' s _ λa H1 s1 ha=>h2 H1 (s.trans s1) _ λb H2 s2 hb=>?_;refine⟨a,b,_,_,rfl,rfl,s2.bh ha,hb,by simp only[aZ];lia,λc H3 s3 hc=>q c H3 (s1.trans (s2.trans s3)) ?_⟩;rw[dC];exact hc
theorem DR{α:Type}(v:α):∀n:Nat,(List.replicate n [v]).flatten=List.replicate n v
 |0=>rfl
 |n+1=>by rw[qJ,vD,DR v n];rfl
theorem R0{tk:TE}{k:Nat}(h:IE tk σ H (k:Int))(hk:k≤10000):g7 K (bz (yI K) (jQ (bg (tC (.str x)) cm)) tk) σ H (List.replicate k (.w x)):=λH' s R q=>by
 have z:(10000:Nat)≤sizeLine:=by decide
 refine⟨by show 1≤sizeLine;decide,λa ha=>?_⟩;have sa:=aK.upd (o:=.tup [.str x]) ha;refine h _ (s.trans sa) _ ⟨a,(k:Int),[.str x],rfl,rfl,.of aV,by simp,by lia,by lia,by show 1*(k:Int).toNat≤sizeLine;lia,λc H3 s3 hc=>q c H3 (sa.trans s3) ?_⟩;rw[show(k:Int).toNat=k by lia,DR]at hc;rw[AN];exact hc
theorem g7.tell{Q:VK}(h:g7 K te σ H ws)(q:oM K H ws Q):te σ H Q:=h H (.refl _) Q λv H' s hv=>q v H' s hv
theorem oM.mono{Q:VK}(q:oM K H ws Q)(s:aK H H1):oM K H1 ws Q:=λv H' s'=>q v H' (s.trans s')
end
def zR(K:Frag):Sp:=λvs H Q _=>∃n:Nat,vs=[.int ((n+1:Nat):Int)]∧n≤100∧oM K H (D1.cN (n+1)).aQ Q
theorem adg:cT ["count"] ["count"] (bu IJ):=de rfl rfl rfl (by decide +kernel) rfl
theorem DT(F:cA K "straight" "straight" IJ f fd):br P w K mg base bp 1 f fd ["count"] (zR K):=by
 refine F.ok adg (λvs H Q E h=>?_) (λbE A outer s H vs Q E hr h=>?_)
 ·obtain⟨n,rfl,_⟩:=h;rfl
 ·obtain⟨n,rfl,hn,q⟩:=h;refine⟨_,bq (bV (aX (dh K rfl) (aX (rn K rfl) (c7 (aJ cz aO)) (aX iS (pv 0) aW)) (aX (rn K rfl) (c7 (aJ cz aO)) (pv 0)))),?_⟩;rw[D1.DE]at q;refine(gi (R0 (k:=n) ?_ (by lia)) (R0 (k:=n+1) (fK rfl) (by lia)) (by simp only[dY];lia)).tell q
  have:=adf (σ:=[some (V.int ((n+1:Nat):Int))]) (H:=H) (fK (i:=0) rfl) (ade (k:=1))
  rwa[show((n+1:Nat):Int)-1=(n:Int) by lia]at this
theorem R3(n:Nat):(D1.cN (n+1)).aQ.length=2*n+1:=by rw[D1.DE];simp;lia
theorem Ka(h:IE te σ H ((n+1:Nat):Int))(hn:n≤100):g7 K (iD (zR K) [] E (bg te cm)) σ H (D1.cN (n+1)).aQ:=λH' s _ q=>h H' s _ ⟨n,rfl,hn,q⟩
def DU(K:Frag):Sp:=λvs H Q _=>∃(m n:Nat)(a:Addr)(d:D1.Dr),vs=[.int ((m+1:Nat):Int),.ref a,.int ((n+1:Nat):Int)]∧m≤100∧n≤100∧d.aQ.length≤100000∧bf K H a (d.aQ.map di)∧oM K H (D1.iO (m+1) d (n+1)).aQ Q
theorem adh:cT ["above","words","below"] ["above","words","below"] (bu II):=de rfl rfl rfl (by decide +kernel) rfl
theorem R4{fS:Addr}{eS:FuncData}(F:cA K "inside" "inside" II f fd)
  (GS:br P w K mg base bp 1 fS eS ["count"] (zR K)) (kS:Kp K fS) (bS:Binds K eS ["count"] []) (mS:Mg mg "straight" fS) :
  br P w K mg base bp 2 f fd ["above","words","below"] (DU K):=by
 refine F.ok adh (λvs H Q E h=>?_) (λbE A outer s H vs Q E hr h=>?_)
 ·obtain⟨m,n,a,d,rfl,_⟩:=h;rfl
 ·obtain⟨m,n,a,d,rfl,hm,hn,hd,ha,q⟩:=h;have rL:dt 1 _:=hr.mono (by decide);refine⟨_,bq (bV (aX (dh K rfl) (aX (dh K rfl) (aX (dh K rfl) (aX (dh K rfl) (c7 (aJ cz aO)) (bZ GS rL rfl mS kS bS .nil cb (aJ (pv 0) aO))) (c7 (aJ cz aO))) (pv 1)) (bZ GS rL rfl mS kS bS .nil cb (aJ (pv 2) aO)))),?_⟩;have e:(D1.iO (m+1) d (n+1)).aQ=[.w "beside"]++(D1.cN (m+1)).aQ++[.w "beside"]++d.aQ++(D1.cN (n+1)).aQ:=by
   show D1.Wd.w "beside"::((D1.cN (m+1)).aQ++(D1.Wd.w "beside"::(d.aQ++(D1.cN (n+1)).aQ)))=_;simp
  rw[e]at q;have l1:=R3 m;have l2:=R3 n;refine(gi (gi (gi (gi jK (Ka (fK rfl) hm) ?_) jK ?_) (DQ rfl ha) ?_) (Ka (fK rfl) hn) ?_).tell q;all_goals simp only[bY,xX,l1,l2];lia
noncomputable def conv:D1.Dr→Drw
 | .id=>.box "id" 1 1 [[1,1]] | .swap=>.box "swap" 2 2 [[1,0,0,1],[0,1,1,0]] | .copy=>.box "copy" 1 2 [[1,1,1]] | .fin=>.box "end" 1 0 [[1]] | .add=>.box "add" 2 1 [[1,0,1],[0,1,1]]
 | .none=>.box "none" 0 1 [] | .jY=>.box "cup" 0 2 [[1,1]] | .empty=>.box "empty" 0 0 []
 | .times n=>.times n
 | .back d=>.back (conv d)
 | .cC a b=>.cC (conv a) (conv b)
 | .bc a b=>.bc (conv a) (conv b)
theorem pK:∀d,(conv d).aU=d.aU
 | .id=>rfl | .swap=>rfl | .copy=>rfl | .fin=>rfl | .add=>rfl | .none=>rfl | .jY=>rfl | .empty=>rfl | .times _=>rfl
 | .back d=>by show((conv d).aU.2,(conv d).aU.1)=_;rw[pK d];rfl
 | .cC a b=>by show((conv a).aU.1+(conv b).aU.1,(conv a).aU.2+(conv b).aU.2)=_;rw[pK a,pK b];rfl
 | .bc a b=>by show((conv a).aU.1,(conv b).aU.2)=_;rw[pK a,pK b];rfl
theorem rW(d:D1.Dr):(conv d).dG=d.l:=ai Prod.fst (pK d)
theorem qA(d:D1.Dr):(conv d).df=d.r:=ai Prod.snd (pK d)
theorem mq:∀d,(conv d).aQ=d.aQ.map di
 | .id=>rfl | .swap=>rfl | .copy=>rfl | .fin=>rfl | .add=>rfl | .none=>rfl | .jY=>rfl | .empty=>rfl | .times _=>rfl
 | .back d=>by show V.str "back"::(conv d).aQ=_;rw[mq d];rfl
 | .cC a b=>by show V.str "beside"::((conv a).aQ++(conv b).aQ)=_;rw[mq a,mq b,← dC];rfl
 | .bc a b=>by show V.str "then"::((conv a).aQ++(conv b).aQ)=_;rw[mq a,mq b,← dC];rfl
theorem vn{p:Int}:∀{d:D1.Dr},d.wf p→(conv d).wf p
 | .id,_=>by show _∈iN;decide
 | .swap,_=>by show _∈iN;decide
 | .copy,_=>by show _∈iN;decide
 | .fin,_=>by show _∈iN;decide
 | .add,_=>by show _∈iN;decide
 | .none,_=>by show _∈iN;decide
 | .jY,_=>by show _∈iN;decide
 | .empty,_=>by show _∈iN;decide
 | .times _,h=>h
 | .back d,h=>vn (d:=d) h
 | .cC _ _,h=>⟨vn h.1,vn h.2⟩
 | .bc a b,h=>⟨vn h.1,vn h.2.1,by rw[qA,rW];exact h.2.2⟩
theorem vo:∀{d:D1.Dr},d.cL 64→(conv d).sm
 | .id,_=>trivial | .swap,_=>trivial | .copy,_=>trivial | .fin,_=>trivial | .add,_=>trivial | .none,_=>trivial | .jY,_=>trivial | .empty,_=>trivial | .times _,_=>trivial
 | .back d,h=>vo (d:=d) h
 | .cC a b,h=>⟨vo h.1,vo h.2.1,by have:=h.2.2;rw[rW,rW];lia,by have:=h.2.2;rw[qA,qA];lia⟩
 | .bc a b,h=>⟨vo h.1,vo h.2.1⟩
theorem xl{p:Int}(h:d.wf p)(n:d.cL 64):Ok p (conv d):=⟨vn h,vo n⟩
theorem Kb{q:List Int}{l r:Nat}(h:q.length=l+r):fn q=D1.j0 l r (fn q) (D1.sh l (fn q)):=funext λj=>by
 unfold D1.j0 D1.sh;by_cases h1:j<l
 ·rw[ae h1]
 ·rw[af h1];by_cases h2:j<l+r
  ·rw[ae h2];show fn q j=fn q (l+(j-l));rw[show l+(j-l)=j by lia]
  ·rw[af h2];show q.getD j 0=0;rw[cO,lC (by lia)];rfl
section
variable{p:Int}
theorem R5{l r:Nat}{L:LL}(pp:p∈cq)(hn:n=l+r)(h:Bw.bo p n L)(x y:Fn):D1.jw p (cD p L) l r x y↔D1.jw p L l r x y:=by
 have R:=gZ pp h;rw[← D1.kX (λq hq=>by rw[(R.rws q hq).1,hn]),← D1.kX (λq hq=>by rw[(h q hq).1,hn])];exact⟨pj R.sub,pj R.sup⟩
theorem R6{l r:Nat}{L:LL}(h:Bw.bo p (l+r) L):L.map (jX l r)=L.map (D1.oI l):=sk λq hq=>by
 have hl:=(h q hq).1;unfold jX D1.oI;rw[jM (by rw[da];lia),List.drop_eq_nil_of_le (as:=q) (i:=l+r) (by lia),j8]
theorem adi{l r l' r':Nat}{A B:LL}(h:Bw.bo p (l+r) A):pA l r l' r' A B=A.map (D1.jx l l' r')++B.map (D1.j4 l r l'):=by
 unfold pA
 congr 1
 refine sk λq hq=>?_;have hl:=(h q hq).1;unfold uZ D1.jx;rw[jM (l:=q.drop l) (by rw[da];lia),List.drop_eq_nil_of_le (as:=q) (i:=l+r) (by lia),j8]
theorem zS{l r:Nat}{x:Fn}(h:l+r≤j):D1.j0 l r x y j=0:=by
 unfold D1.j0;rw[af (by lia),af (by lia)]
theorem zT{l r:Nat}{x:Fn}(h:j<l):D1.j0 l r x y j=x j:=by
 unfold D1.j0;rw[ae h]
theorem zU{l r:Nat}{x:Fn}(h:j<r):D1.j0 l r x y (l+j)=y j:=by
 unfold D1.j0;rw[af (by lia),ae (by lia),show l+j-l=j by lia]
theorem R7{l r:Nat}(h:j<l):cY (ji l m r) u (m+j)=u j:=by
 unfold cY ji;rw[af (by lia),ae (by lia)];show 1*u (m+j-m)=_;rw[show m+j-m=j by lia,qN]
theorem R8{l r:Nat}(h:j<r):cY (ji l m r) u (m+(l+j))=0:=by
 unfold cY ji;rw[af (by lia),af (by lia),ae (by lia)]
theorem adj{l r:Nat}(h:l+r≤j):cY (ji l m r) u (m+j)=u (m+j-r):=by
 unfold cY ji;rw[af (by lia),af (by lia),af (by lia)];exact qN _
theorem R9{l:Nat}{v:Fn}(h:j<l):cY (jH l m) v (m+j)=0:=by
 unfold cY jH;rw[af (by lia),ae (by lia)]
theorem Kc{l:Nat}{v:Fn}(h:l≤j):cY (jH l m) v (m+j)=v (m+j-l):=by
 unfold cY jH;rw[af (by lia),af (by lia)];exact qN _
theorem adk{A B:LL}{l r:Nat}(pp:p∈cq)(h:Bw.bo p (l+m) A)(h':Bw.bo p (m+r) B)(x y:Fn):D1.jw p (oF p l m r A B) l r x y↔∃z,D1.jw p A l m x z∧D1.jw p B m r z y:=by
 have p0:0<p:=by have:=fe p pp;lia
 have tl:∀q∈oF p l m r A B,q.length=l+r:=λq hq=>(Qz (x:=0) pp h h' q hq).1;rw[← D1.kX tl,acp (x:=0) (x':=0) pp h h' (zw (x:=0) p0 h h')];have oA:∀{u:Fn}{j:Nat},Bw.Sp p (RS A) u→l+m≤j→p∣u j:=λhu hj=>JT (λq hq=>(h q hq).out hj) hu;have oB:∀{v:Fn}{j:Nat},Bw.Sp p (RS B) v→m+r≤j→p∣v j:=λhv hj=>JT (λq hq=>(h' q hq).out hj) hv;constructor
 ·rintro⟨u,v,hu,hv,hm,e⟩;refine⟨λj=>u (l+j),?_,?_⟩
  ·rw[← D1.kX (λq hq=>(h q hq).1)];refine .e8 hu λj=>?_;by_cases h1:j<l
   ·have:=e j
    rw[zT h1]at this ⊢;simpa only[R7 h1,R9 h1,oU]using this
   ·by_cases h2:j<l+m
    ·obtain⟨i,rfl⟩:∃i,j=l+i:=⟨j-l,by lia⟩;rw[zU (by lia)];exact⟨0,by simp⟩
    ·rw[zS (by lia),Int.sub_zero];exact oA hu (by lia)
  ·rw[← D1.kX (λq hq=>(h' q hq).1)];refine .e8 hv λj=>?_;by_cases h1:j<m
   ·rw[zT h1];obtain⟨c,hc⟩:=hm j h1;exact⟨-c,by rw[Int.mul_neg,← hc];lia⟩
   ·by_cases h2:j<m+r
    ·obtain⟨i,rfl⟩:∃i,j=m+i:=⟨j-m,by lia⟩
     have:=e (l+i)
     rw[zU (by lia)]at this ⊢;dsimp only at this;rwa[R8 (by lia),Kc (by lia),jy,show m+(l+i)-l=m+i by lia]at this
    ·rw[zS (by lia),Int.sub_zero];exact oB hv (by lia)
 ·rintro⟨z,h1,h2⟩;rw[← D1.kX (λq hq=>(h q hq).1)]at h1;rw[← D1.kX (λq hq=>(h' q hq).1)]at h2;refine⟨_,_,h1,h2,λj hj=>?_,λj=>?_⟩
  ·rw[zU hj,zT hj];exact⟨0,by simp⟩
  ·dsimp only;by_cases c1:j<l
   ·rw[R7 c1,R9 c1,zT c1,zT c1];exact⟨0,by simp⟩
   ·by_cases c2:j<l+r
    ·obtain⟨i,rfl⟩:∃i,j=l+i:=⟨j-l,by lia⟩;rw[R8 (by lia),Kc (by lia),show m+(l+i)-l=m+i by lia,zU (by lia),zU (by lia)];exact⟨0,by simp⟩
    ·rw[adj (by lia),Kc (by lia),zS (by lia),zS (by lia),zS (by lia)];exact⟨0,by simp⟩
theorem adl(pp:p∈cq):∀{d:D1.Dr},d.wf p→d.cL 64→∀x y:Fn,D1.jw p ((conv d).aN p) d.l d.r x y↔D1.dH p d x y:=by
 have p0:0<p:=by have:=fe p pp;lia
 have gd:∀{d:D1.Dr},d.wf p→d.cL 64→Bw.bo p (d.l+d.r) ((conv d).aN p):=λ{d} h n=>by
  have:=(Drw.good pp (vn h) (vo n)).2.2.2
  rwa[rW,qA]at this
 have same:∀{d:D1.Dr},d.wf p→(conv d).aN p=d.aN p→∀x y:Fn,D1.jw p ((conv d).aN p) d.l d.r x y↔D1.dH p d x y:=λ{d} h e x y=>by
  rw[e];exact((D1.vk pp h).2.2 x y).symm
 intro d;induction d with
 |back d ih=>
  intro h n x y;have hR:=gd (d:=d) h n;have e:(conv (.back d)).aN p=cD p (((conv d).aN p).map (jX (conv d).dG (conv d).df)):=rfl;rw[e,rW,qA,R6 hR];have hS:Bw.bo p (d.r+d.l) (((conv d).aN p).map (D1.oI d.l)):=by
   rw[← R6 hR];intro q hq;obtain⟨q',zJ,rfl⟩:=cP.mp hq;exact C4 (x:=0) (hR q' zJ)
  refine(R5 (l:=d.r) (r:=d.l) pp rfl hS x y).trans ((D1.RP (λq hq=>(hR q hq).1) x y).trans (ih h n y x))
 |cC a b rT rV=>
  intro h n x y;have hA:=gd h.1 n.1;have hB:=gd h.2 n.2.1;have e:(conv (.cC a b)).aN p=cD p (pA (conv a).dG (conv a).df (conv b).dG (conv b).df ((conv a).aN p) ((conv b).aN p)):=rfl;have hS:=Dg (x:=0) p0 hA hB;rw[e,rW,qA,rW,qA];refine(R5 (l:=a.l+b.l) (r:=a.r+b.r) pp rfl hS x y).trans ?_;rw[adi hA];refine(D1.RQ (λq hq=>(hA q hq).1) (λq hq=>(hB q hq).1) x y).trans ?_;rw[rT h.1 n.1,rV h.2 n.2.1];exact Iff.rfl
 |bc a b rT rV=>
  intro h n x y;have hA:=gd h.1 n.1;have hB:=gd h.2.1 n.2.1;have Dz:b.l=a.r:=h.2.2.symm;have Sa:=rV h.2.1 n.2.1;rw[Dz]at hB Sa;have e:(conv (.bc a b)).aN p=oF p (conv a).dG (conv a).df (conv b).df ((conv a).aN p) ((conv b).aN p):=rfl;rw[e,rW,qA,qA];refine(adk pp hA hB x y).trans ?_;simp only[rT h.1 n.1,Sa];exact Iff.rfl
 |times n=>intro h _;exact same h rfl
 |_=>intro h _;exact same h rfl
theorem zV(pp:p∈cq)(h:d.wf p)(n:d.cL 64):(conv d).aN p=cD p (d.aN p):=by
 have o:=xl h n;obtain⟨r1,_,r3⟩:=D1.vk pp h;have hR:=(Drw.good pp o.1 o.2).2.2.2;rw[rW,qA]at hR;rw[← Drw.one pp o];have key:∀{q:List Int},q.length=d.l+d.r→(Bw.Sp p (RS ((conv d).aN p)) (fn q)↔Bw.Sp p (RS (d.aN p)) (fn q)):=λ{q} hq=>by
  rw[Kb hq,D1.kX (λq hq=>(hR q hq).1),D1.kX (λq hq=>(r1 q hq).1),adl pp h n,r3]
 exact tu.red pp hR r1 ⟨λq hq=>(key (hR q hq).1).mp (md hq),λq hq=>(key (r1 q hq).1).mpr (md hq)⟩
end
theorem Sb(g:Nat→Int):∀n,Sg g (n+1)=g 0+Sg (λi=>g (i+1)) n
 |0=>by show Sg g 0+g 0=g 0+Sg _ 0;rw[show Sg g 0=0 from rfl,show Sg (λi=>g (i+1)) 0=0 from rfl];lia
 |n+1=>by
  show Sg g (n+1)+g (n+1)=g 0+(Sg (λi=>g (i+1)) n+g (n+1));rw[Sb g n];lia
theorem Kd:∀(l:List Int)(z:Fn),D1.dE l z=dot z (fn l) l.length
 | [],_=>rfl
 |a::l,z=>by
  show a*z 0+D1.dE l (D1.sh 1 z)=Sg (λi=>z i*fn (a::l) i) (l.length+1);rw[Sb,Kd l];show a*z 0+Sg (λi=>D1.sh 1 z i*fn l i) l.length=z 0*a+Sg (λi=>z (i+1)*fn (a::l) (i+1)) l.length;rw[sj a]
  congr 1
  refine ai (λg=>Sg g l.length) (funext λi=>?_);show z (1+i)*l.getD i 0=z (i+1)*(a::l).getD (i+1) 0;rw[Nat.add_comm 1 i];rfl
theorem Sd{p:Int}{rs:LL}{r:List Int}(hR:Bw.bo p n rs)(hr:Rw p n r):(∃f:Fn,∀j,j<n→p∣dot f (fn (rs.map λq=>q.getD j 0)) rs.length-r.getD j 0)↔Bw.Sp p (RS rs) (fn r):=by
 rw[D1.J6];constructor
 ·rintro⟨f,h⟩;refine⟨f,λj=>?_⟩;by_cases hj:j<n
  ·have e:=Kd (rs.map λq=>q.getD j 0) f;rw[aZ]at e;rw[e];exact D1.eq.symm (h j hj)
  ·have e0:fn r j=0:=hr.out (by lia);rw[e0,D1.vf _ _ λa ha=>?_]
   ·exact .refl _ _
   ·obtain⟨q,hq,rfl⟩:=cP.mp ha;exact(hR q hq).out (by lia)
 ·rintro⟨z,h⟩;refine⟨z,λj hj=>?_⟩;have e:=Kd (rs.map λq=>q.getD j 0) z;rw[aZ]at e;rw[← e];exact D1.eq.symm (h j)
def Se(K:Frag):Sp:=λvs H Q _=>∃(p:Int)(a b:Addr)(AS BS:List V)(rs os:LL)(n:Nat),vs=[.int p,.ref a,.ref b]∧p∈cq∧bf K H a AS∧bj K H AS (rs.map cj)∧bf K H b BS∧bj K H BS (os.map cj)∧Bw.bo p n rs∧Bw.bo p n os∧rs.length≤900∧os.length≤900∧n≤900∧
 (∀H',aK H H'→(∀r∈rs,Bw.Sp p (RS os) (fn r))→Q .ck H')∧∀t r H',aK H H'→r∈rs→¬Bw.Sp p (RS os) (fn r)→bf K H' t (r.map V.int)→Q (.ref t) H'
theorem Sf:cT ["p","rows","others","row"] ["p","rows","others"] (bu Iz):=de rfl rfl rfl (by decide +kernel) rfl
theorem Sh{fF:Addr}{ox:FuncData}(F:cA K "row_outside" "row_outside" Iz f fd)
  (GF:br P w K mg base bp 4 fF ox ["p","rows","row"] (Ru K)) (kF:Kp K fF) (bF:Binds K ox ["p","rows","row"] []) (mF:Mg mg "factors_of" fF):br P w K mg base bp 5 f fd ["p","rows","others"] (Se K):=by
 refine F.ok Sf (λvs H Q E h=>?_) (λbE A outer s H vs Q E hr h=>?_)
 ·obtain⟨p,a,b,AS,BS,rs,os,n,rfl,_⟩:=h;rfl
 ·obtain⟨p,a,b,AS,BS,rs,os,n,rfl,pp,ha,hA,hb,hB,hR,hO,lr,lo,hn,q1,q2⟩:=h;refine⟨_,ba (kc lD rfl (oa K rfl (pv 1)) (cx (i:=3) Sf.nd rfl (.inl rfl)) (bq (cX (cM MY (bZ GF hr rfl mF kF bF .nil cb (aJ (pv 0) (aJ (pv 2) (aJ (pv 3) aO)))) oY (cJ _)) (bq (bV (pv 3))) dy))) (bq (bV oY)),?_⟩;have eA:=fg hA;refine⟨_,rfl,a,rfl,⟨_,ha⟩,FZ (xs:=AS) (λi σ H'=>aK H H'∧(∃s3,σ=[some (.int p),some (.ref a),some (.ref b),s3])∧∀r∈rs.take i,Bw.Sp p (RS os) (fn r)) ⟨.refl _,⟨none,rfl⟩,λr hr=>by simp at hr⟩ (λi σ H' _ ⟨sm,_⟩=>sm.bh ha) ?_ ?_⟩
  ·rintro i x σ H1 hx ⟨sm,⟨s3,rfl⟩,o9⟩;obtain⟨r,ra,fi,rfl,cV⟩:=jd hA hx;have DV:=cZ fi;refine⟨_,rfl,_,rfl,_,rfl,p,b,ra,false,BS,os,r,n,rfl,pp,sm.bh hb,hB.mono sm,hO,lo,hn,sm.bh cV,hR r DV,λH2 s2 nV=>?_,λt fs H2 s2 ht _ hfs=>?_⟩
   ·refine⟨rfl,_,rfl,?_⟩;rw[aC rfl];exact dZ ⟨_,rfl,q2 ra r H2 (sm.trans s2) DV (λh=>by obtain⟨f,hf⟩:=(Sd hO (hR r DV)).mpr h;exact nV f hf) ((sm.trans s2).bh cV)⟩
   ·refine⟨rfl,_,rfl,?_⟩;rw[ab (show ¬V.ref t=V.ck from λz=>nomatch z)]
    refine dW ⟨sm.trans s2,⟨_,rfl⟩,λr' fY=>?_⟩;rw[gK,fi]at fY;rcases dI.mp fY with h|h
    ·exact o9 r' h
    ·obtain rfl:r'=r:=by simpa using h
     exact(Sd hO (hR _ DV)).mp ⟨_,hfs⟩
  ·rintro σ H1 ⟨sm,⟨s3,rfl⟩,o9⟩;rw[eA,lT]at o9;exact q1 H1 sm o9
def Si(K:Frag):Sp:=λvs H Q _=>∃(a b:Addr)(l r:Int),vs=[.ref a,.ref b]∧bf K H a [.int l,.int r]∧bf K H b [.int l,.int r]∧Q .ck H
theorem adm:cT ["one","other"] ["one","other"] (bu Iy):=de rfl rfl rfl (by decide +kernel) rfl
theorem Sj(F:cA K "refuse_sides" "refuse_sides" Iy f fd):br P w K mg base bp 1 f fd ["one","other"] (Si K):=by
 refine F.ok adm (λvs H Q E h=>?_) (λbE A outer s H vs Q E hr h=>?_)
 ·obtain⟨a,b,l,r,rfl,_⟩:=h;rfl
 ·obtain⟨a,b,l,r,rfl,ha,hb,q⟩:=h;have hu:=hr.units;refine⟨_,bq (cX (cM (BW K rfl hu) (pv 0) (pv 1) (cJ _)) MK dy),?_⟩;exact⟨_,rfl,_,rfl,_,_,.tuple ha (.cons (.int l) (.cons (.int r) .nil)),.tuple hb (.cons (.int l) (.cons (.int r) .nil)),rfl,rfl,_,rfl,BU rfl q⟩
theorem Sk{H2:Hp}(h1:aK (S21.del Pt H) H1)(h2:aK (S21.del Pt H1) H2):aK (S21.del Pt H) H2:=λb o e=>h2 b o (by rw[C7 (C8 e).1];exact h1 b o e)
theorem rX{H2:Hp}(h1:aK (S21.del Pt H) H1)(h2:aK H1 H2):aK (S21.del Pt H) H2:=λb o e=>h2 b o (h1 b o e)
theorem Sl{rs os:LL}(h:rs.map cj=os.map cj):rs=os:=(List.map_inj_right λ_ _ e=>ZM e).mp h
def adn(K:Frag)(Pt:Addr)(p:Int)(d e:Drw)(H:Hp)(Q:VK):Prop:=
 (d.aN p=e.aN p→∀t H',aK (S21.del Pt H) H'→jV H' Pt (qq lL) qr→bf K H' t [.str (Str.ofString "same")]→Q (.ref t) H')∧
 (d.aN p≠e.aN p→∀t v row (i:Int) H',aK (S21.del Pt H) H'→jV H' Pt (qq lL) qr→bf K H' t [.str (Str.ofString "parted"),.ref v,.int i]→bf K H' v (row.map V.int)→Rw p (d.dG+d.df) row→((i=0∧Bw.Sp p (RS (d.aN p)) (fn row)∧¬Bw.Sp p (RS (e.aN p)) (fn row))∨(i=1∧Bw.Sp p (RS (e.aN p)) (fn row)∧¬Bw.Sp p (RS (d.aN p)) (fn row)))→Q (.ref t) H')
def Ke(K:Frag)(Pt:Addr):Sp:=λvs H Q _=>∃(p:Int)(a b:Addr)(d e:Drw),vs=[.int p,.ref a,.ref b]∧p∈cq∧Ok p d∧Ok p e∧d.aU=e.aU∧d.aQ.length≤900000∧e.aQ.length≤900000∧bf K H a d.aQ∧bf K H b e.aQ∧jV H Pt (qq lL) qr∧adn K Pt p d e H Q
theorem DW:cT ["p","one","other","first","second","row"] ["p","one","other"] (bu Iw):=de rfl rfl rfl (by decide +kernel) rfl
theorem Sm{fR fW fP fO:Addr}{zW tQ zX zY:FuncData}(F:cA K "compared" "compared" Iw f fd)
  (GR:br P w K mg base bp 1 fR zW ["one","other"] (Si K)) (kR:Kp K fR) (bR:Binds K zW ["one","other"] []) (mR:Mg mg "refuse_sides" fR)
  (GW:br P w K mg base bp 6 fW tQ ["words"] (Rq K)) (kW:Kp K fW) (bW:Binds K tQ ["words"] []) (mW:Mg mg "wires" fW)
  (GP:br P w K mg base bp 10 fP zX ["p","words"] (QR K Pt)) (kP:Kp K fP) (bP:Binds K zX ["p","words"] []) (mP:Mg mg "plain" fP)
  (GO:br P w K mg base bp 5 fO zY ["p","rows","others"] (Se K)) (kO:Kp K fO) (bO:Binds K zY ["p","rows","others"] []) (mO:Mg mg "row_outside" fO) :
  br P w K mg base bp 11 f fd ["p","one","other"] (Ke K Pt):=by
 refine F.ok DW (λvs H Q E h=>?_) (λbE A outer s H vs Q E hr h=>?_)
 ·obtain⟨p,a,b,d,e,rfl,_⟩:=h;rfl
 ·obtain⟨p,a,b,d,e,rfl,pp,od,oe,xm,ld,le,hd,he,pC,q1,q2⟩:=h;have hu:=hr.units;have r1:dt 1 _:=hr.mono (by lia);have r5:dt 5 _:=hr.mono (by lia);have r6:dt 6 _:=hr.mono (by lia);refine⟨_,ba (mH (bZ GR r1 rfl mR kR bR .nil cb (aJ (bZ GW r6 rfl mW kW bW .nil cb (aJ (pv 1) aO)) (aJ (bZ GW r6 rfl mW kW bW .nil cb (aJ (pv 2) aO)) aO)))) (ba (bH (i:=3) DW.nd rfl (.inl rfl) (bZ GP hr rfl mP kP bP .nil cb (aJ (pv 0) (aJ (pv 1) aO)))) (ba (bH (i:=4) DW.nd rfl (.inl rfl) (bZ GP hr rfl mP kP bP .nil cb (aJ (pv 0) (aJ (pv 2) aO)))) (ba (cX (cM (BV K rfl hu) (pv 3) (pv 4) (cJ _)) (bq (bV (c7 (aJ cz aO)))) dy) (ba (bH (i:=5) DW.nd rfl (.inl rfl) (bZ GO r5 rfl mO kO bO .nil cb (aJ (pv 0) (aJ (pv 3) (aJ (pv 4) aO))))) (ba (cX (cM MZ (pv 5) oY (cJ _)) (bq (bV (c7 (aJ cz (aJ (pv 5) (aJ aW aO)))))) dy) (bq (bV (c7 (aJ cz (aJ (bZ GO r5 rfl mO kO bO .nil cb (aJ (pv 0) (aJ (pv 4) (aJ (pv 3) aO)))) (aJ aW aO))))))))))),?_⟩;obtain⟨gd1,xn,gd3,tV⟩:=Drw.good pp od.1 od.2;obtain⟨ge1,ge2,ge3,qB⟩:=Drw.good pp oe.1 oe.2;have hs1:e.dG=d.dG:=ai Prod.fst xm.symm;have o8:e.df=d.df:=ai Prod.snd xm.symm;rw[hs1,o8]at qB;refine⟨_,rfl,p,a,d,rfl,od.1,od.2,ld,hd,λv1 H1 s1 xo=>⟨_,rfl,p,b,e,rfl,oe.1,oe.2,le,s1.bh he,λv2 H2 s2 lO=>?_⟩⟩;rw[hs1,o8]at lO;refine⟨v1,v2,_,_,rfl,s2.bh xo,lO,?_⟩;have s12:=s1.trans s2;have Kf:=pC.mono s12;refine⟨_,rfl,_,rfl,p,a,d,rfl,pp,od.1,od.2,ld,s12.bh hd,Kf,λf1 FS H3 s3 xp Je Sn=>?_⟩;obtain⟨ps2,So⟩:=Kf.tab;have he3:=s3.bh (bf.del So (s12.bh he));refine⟨_,rfl,_,rfl,p,b,e,rfl,pp,oe.1,oe.2,le,he3,xp,λf2 GS H4 s4 xq ju zZ=>?_⟩;obtain⟨ps3,Kg⟩:=xp.tab;have Kh:=s4.bh (bf.del Kg Je);have Ki:=(bj.del Kg Sn).mono s4;have sD:aK (S21.del Pt H) H4:=Sk (Sk (aK.abH s12) s3) s4;clear s4 s3 s12 s1 s2 Sn Je xp Kf Kg So;refine⟨_,rfl,_,rfl,_,_,.tuple Kh Ki,.tuple ju zZ,tD _,tD _,_,rfl,?_⟩;by_cases same:d.aN p=e.aN p
  ·refine Ja (by rw[same]) ?_;exact⟨by show 1≤sizeLine;decide,λt ht=>q1 same t _ (rX sD (.upd ht)) (xq.mono (.upd ht)) (.of aV)⟩
  refine I0 (λz=>same (Sl (Dat.tuple.inj z))) ?_;have q2:=q2 same;refine⟨_,rfl,_,rfl,_,rfl,p,f1,f2,FS,GS,d.aN p,e.aN p,d.dG+d.df,rfl,pp,Kh,Ki,ju,zZ,tV,qB,by lia,by lia,by lia,λH5 s5 o9=>?_,λt r H5 s5 Sr nV ht=>?_⟩
  ·refine⟨_,rfl,rfl,_,rfl,om (λz=>absurd rfl z) (λ_=>?_)⟩;refine⟨_,rfl,_,rfl,_,rfl,p,f2,f1,GS,FS,e.aN p,d.aN p,d.dG+d.df,rfl,pp,s5.bh ju,zZ.mono s5,s5.bh Kh,Ki.mono s5,qB,tV,by lia,by lia,by lia,λH6 s6 ado=>?_,λt r H6 s6 Ss nV ht=>?_⟩
   ·refine absurd ?_ same;rw[← Drw.one pp od,← Drw.one pp oe];exact tu.red pp tV qB ⟨o9,ado⟩
   ·refine⟨by show 3≤sizeLine;decide,λu j5=>?_⟩;exact q2 u t r 1 _ (rX sD ((s5.trans s6).trans (.upd j5))) (xq.mono ((s5.trans s6).trans (.upd j5))) (.of aV) ((aK.upd j5).bh ht) (qB r Ss) (.inr ⟨rfl,md Ss,nV⟩)
  ·refine⟨_,rfl,rfl,_,rfl,om (λ_=>?_) (λz=>nomatch z)⟩;refine⟨_,rfl,by show 3≤sizeLine;decide,λu j5=>?_⟩;exact q2 u t r 0 _ (rX sD (s5.trans (.upd j5))) (xq.mono (s5.trans (.upd j5))) (.of aV) ((aK.upd j5).bh ht) (tV r Sr) (.inl ⟨rfl,md Sr,nV⟩)
noncomputable def oO(a b:Nat):Nat:=(a+b)*2+(if a<b then 1 else 0)
theorem DX(a b:Nat):oO a b≤(a+b)*2+1:=by unfold oO;split<;>lia
theorem Kj(a b:Nat):(a+b)*2≤oO a b:=by unfold oO;lia
def DY(K:Frag)(n:Nat):Sp:=λvs H Q _=>∃a b:Nat,vs=[.int (a:Int),.int (b:Int)]∧1≤a∧1≤b∧a≤8∧b≤8∧oO a b≤n∧oM K H (D1.cg a b).aQ Q
theorem Aa{b:Nat}(h1:IE ta σ H (a:Int))(h2:IE tb σ H (b:Int))(ha:1≤a)(hb:1≤b)(kK:a≤8)(rS:b≤8)(hn:oO a b≤n) :
  g7 K (iD (DY K n) [] E (bg ta (bg tb cm))) σ H (D1.cg a b).aQ:=λH' s _ q=>h1 H' s _ (h2 H' s _ ⟨a,b,rfl,ha,hb,kK,rS,hn,q⟩)
theorem Su(h:IE te σ H (n:Int))(h1:1≤n)(hn:n≤100):g7 K (iD (zR K) [] E (bg te cm)) σ H (D1.cN n).aQ:=by
 obtain⟨m,rfl⟩:∃m,n=m+1:=⟨n-1,by lia⟩;exact Ka h (by lia)
theorem i8{j k:Int}(h:σ[i]?=some (some (.int j)))(e:j=k):IE (aY i) σ H k:=e▸fK h
theorem Kk{s2:TS}{D:Ends}(ws:List D1.Wd)(h:g7 K te σ H ws)(k:∀v H1,aK H H1→bf K H1 v (ws.map di)→s2 D (σ.set i (some (.ref v))) H1):cI (dz te (bX i)) s2 D σ H:=h.tell k
theorem Ab:cT ["above","below","half","rest","lower"] ["above","below"] (bu IH):=de rfl rfl rfl (by decide +kernel) rfl
theorem Kl{f fS:Addr}{fd eS:FuncData}(F:cA K "crossing" "crossing" IH f fd)(b:Binds K fd ["above","below"] [])(m:Mg mg "crossing" f)
  (GS:br P w K mg base bp 1 fS eS ["count"] (zR K)) (kS:Kp K fS) (bS:Binds K eS ["count"] []) (mS:Mg mg "straight" fS) :
  ∀n:Nat,br P w K mg base bp (n+2) f fd ["above","below"] (DY K n)
 |0=>by
  refine F.ok Ab (λvs H Q E h=>?_) (λbE A outer s H vs Q E hr h=>?_)
  ·obtain⟨a,b,rfl,_⟩:=h;rfl
  ·obtain⟨a,b,rfl,ha,hb,_,_,hn,_⟩:=h
   have:=Kj a b
   exact absurd hn (by lia)
 |n+1=>by
  have G:=Kl F b m GS kS bS mS n;refine F.ok Ab (λvs H Q E h=>?_) (λbE A outer s H vs Q E hr h=>?_)
  ·obtain⟨a,b,rfl,_⟩:=h;rfl
  ·obtain⟨a,c,rfl,ha,hc,kK,xt,hn,q⟩:=h;have iM:dt 1 _:=hr.mono (by lia);refine⟨_,ba (cX (cM vQ (pv 0) (pv 1) (cJ _)) (bq (bV (aX (dh K rfl) (c7 (aJ cz aO)) (bZ G hr rfl m F.kp b .nil cb (aJ (pv 1) (aJ (pv 0) aO)))))) dy) (ba (cX (cM eO (pv 0) aW (cJ _)) (bq (bV (c7 (aJ cz aO)))) dy) (ba (bH (i:=2) Ab.nd rfl (.inl rfl) (aX kd (pv 0) aW)) (ba (bH (i:=3) Ab.nd rfl (.inl rfl) (aX iS (pv 0) (pv 2))) (ba (bH (i:=4) Ab.nd rfl (.inl rfl) (aX (dh K rfl) (aX (dh K rfl) (c7 (aJ cz aO)) (bZ GS iM rfl mS kS bS .nil cb (aJ (pv 2) aO))) (bZ G hr rfl m F.kp b .nil cb (aJ (pv 3) (aJ (pv 1) aO))))) (bq (bV (aX (dh K rfl) (aX (dh K rfl) (aX (dh K rfl) (aX (dh K rfl) (c7 (aJ cz aO)) (pv 4)) (c7 (aJ cz aO))) (bZ G hr rfl m F.kp b .nil cb (aJ (pv 2) (aJ (pv 1) aO)))) (bZ GS iM rfl mS kS bS .nil cb (aJ (pv 3) aO))))))))),?_⟩;unfold D1.cg at q;refine⟨_,rfl,_,rfl,_,_,rfl,rfl,_,rfl,?_⟩;by_cases h1:a<c
   ·rw[ae h1]at q;rw[aC (show(a:Int)<(c:Int) by lia)];have hm:oO c a≤n:=by unfold oO at *;rw[ae h1]at hn;rw[af (by lia)];lia
    have wl:=D1.vg c a hc ha xt kK;exact dZ ((gi (ns:=[.w "back"]) jK (Aa (fK rfl) (fK rfl) hc ha xt kK hm) (by simp only[xX];lia)).tell q)
   ·rw[af h1]at q;rw[ab (show ¬(a:Int)<(c:Int) by lia)];refine dW ?_;refine⟨_,rfl,rfl,_,rfl,?_⟩;by_cases h2:a≤1
    ·rw[ae h2]at q;rw[aC (show V.int (a:Int)=V.int 1 from ai V.int (by lia))]
     exact dZ ((jK (x := "swap")).tell q)
    ·rw[af h2]at q;rw[ab (show ¬V.int (a:Int)=V.int 1 from λe=>by injection e with e;lia)]
     refine dW ⟨_,rfl,_,_,rfl,rfl,⟨by decide,by decide⟩,?_⟩;refine⟨_,rfl,_,rfl,_,_,rfl,rfl,?_⟩;have e1:(a:Int)/2=((a/2:Nat):Int):=by lia
     have e2:(a:Int)-(a:Int)/2=((a-a/2:Nat):Int):=by lia
     have m1:oO (a-a/2) c≤n:=by have:=DX (a-a/2) c;have:=Kj a c;lia
     have m2:oO (a/2) c≤n:=by have:=DX (a/2) c;have:=Kj a c;lia
     have l1:=D1.xh (a/2) (by lia);have l2:=D1.xh (a-a/2) (by lia);have l3:=D1.vg (a-a/2) c (by lia) hc (by lia) xt;have l4:=D1.vg (a/2) c (by lia) hc (by lia) xt;dsimp only[bX];show cI (dz _ (bX 4)) _ _ [some (.int (a:Int)),some (.int (c:Int)),some (.int ((a:Int)/2)),some (.int ((a:Int)-(a:Int)/2)),none] H;refine Kk ([.w "beside"]++(D1.cN (a/2)).aQ++(D1.cg (a-a/2) c).aQ) (gi ?_ ?_ ?_) λv H1 s1 hv=>?_
     ·exact gi jK (Su (i8 rfl e1) (by lia) (by lia)) (by simp only[xX];lia)
     ·exact Aa (i8 rfl e2) (fK rfl) (by lia) hc (by lia) xt m1
     ·simp only[bY,xX];lia
     have e:([.w "then"]++([.w "beside"]++(D1.cN (a/2)).aQ++(D1.cg (a-a/2) c).aQ)++[.w "beside"]++(D1.cg (a/2) c).aQ++(D1.cN (a-a/2)).aQ:List D1.Wd)=(D1.Dr.bc (.cC (D1.cN (a/2)) (D1.cg (a-a/2) c)) (.cC (D1.cg (a/2) c) (D1.cN (a-a/2)))).aQ:=by
      simp[D1.Dr.aQ]
     rw[← e]at q;refine g7.tell (gi (gi (gi (gi jK (DQ rfl hv) ?_) jK ?_) ?_ ?_) ?_ ?_) (q.mono s1)
     case refine_3=>exact Aa (i8 rfl e1) (fK rfl) (by lia) hc (by lia) xt m2
     case refine_5=>exact Su (i8 rfl e2) (by lia) (by lia)
     all_goals simp only[bY,xX];lia
theorem Sv{tw:TE}{b:Nat}(h1:IE ta σ H (a:Int))(h2:g7 K tw σ H d.aQ)(h3:IE tb σ H (b:Int))(ha:1≤a)(hb:1≤b)(kK:a≤8)(rS:b≤8)(hd:d.aQ.length≤100000) :
  g7 K (iD (DU K) [] E (bg ta (bg tw (bg tb cm)))) σ H (D1.iO a d b).aQ:=λH' s _ q=>by
 obtain⟨m,rfl⟩:∃m,a=m+1:=⟨a-1,by lia⟩;obtain⟨n,rfl⟩:∃n,b=n+1:=⟨b-1,by lia⟩;exact h1 H' s _ (h2 H' s _ λv H1 s1 hv=>h3 H1 (s.trans s1) _ ⟨m,n,v,d,rfl,by lia,by lia,hd,hv,λu H2 s2 hu=>q u H2 (s1.trans s2) hu⟩)
def Km(K:Frag)(n:Nat):Sp:=λvs H Q _=>∃a:Nat,vs=[.int (a:Int)]∧1≤a∧a≤8∧a≤n∧oM K H (D1.du a).aQ Q
def Kn(K:Frag)(n:Nat):Sp:=λvs H Q _=>∃a:Nat,vs=[.int (a:Int)]∧1≤a∧a≤8∧a≤n∧oM K H (D1.dv a).aQ Q
theorem Ko(h1:IE ta σ H (a:Int))(ha:1≤a)(kK:a≤8)(hn:a≤n) :
  g7 K (iD (Km K n) [] E (bg ta cm)) σ H (D1.du a).aQ:=λH' s _ q=>h1 H' s _ ⟨a,rfl,ha,kK,hn,q⟩
theorem Kq(h1:IE ta σ H (a:Int))(ha:1≤a)(kK:a≤8)(hn:a≤n) :
  g7 K (iD (Kn K n) [] E (bg ta cm)) σ H (D1.dv a).aQ:=λH' s _ q=>h1 H' s _ ⟨a,rfl,ha,kK,hn,q⟩
theorem DZ:cT ["count","half","rest"] ["count"] (bu IF):=de rfl rfl rfl (by decide +kernel) rfl
theorem D0:cT ["count","half","rest"] ["count"] (bu IG):=de rfl rfl rfl (by decide +kernel) rfl
theorem Sw{f fI fC:Addr}{fd Ac fH:FuncData}(F:cA K "copying" "copying" IF f fd)(b:Binds K fd ["count"] [])(m:Mg mg "copying" f)
  (GI:br P w K mg base bp 2 fI Ac ["above","words","below"] (DU K)) (kI:Kp K fI) (bI:Binds K Ac ["above","words","below"] []) (mI:Mg mg "inside" fI)
  (GC:br P w K mg base bp 35 fC fH ["above","below"] (DY K 33)) (kC:Kp K fC) (bC:Binds K fH ["above","below"] []) (mC:Mg mg "crossing" fC) :
  ∀n:Nat,br P w K mg base bp (n+36) f fd ["count"] (Km K n)
 |0=>by
  refine F.ok DZ (λvs H Q E h=>?_) (λbE A outer s H vs Q E hr h=>?_)
  ·obtain⟨a,rfl,_⟩:=h;rfl
  ·obtain⟨a,rfl,ha,_,hn,_⟩:=h;exact absurd hn (by lia)
 |n+1=>by
  have G:=Sw F b m GI kI bI mI GC kC bC mC n;refine F.ok DZ (λvs H Q E h=>?_) (λbE A outer s H vs Q E hr h=>?_)
  ·obtain⟨a,rfl,_⟩:=h;rfl
  ·obtain⟨a,rfl,ha,kK,hn,q⟩:=h;have Ad:dt 2 _:=hr.mono (by lia);have Kr:dt 35 _:=hr.mono (by lia);refine⟨_,ba (cX (cM eO (pv 0) aW (cJ _)) (bq (bV (c7 (aJ cz aO)))) dy) (ba (bH (i:=1) DZ.nd rfl (.inl rfl) (aX kd (pv 0) aW)) (ba (bH (i:=2) DZ.nd rfl (.inl rfl) (aX iS (pv 0) (pv 1))) (bq (bV (aX (dh K rfl) (aX (dh K rfl) (aX (dh K rfl) (c7 (aJ cz (aJ cz aO))) (bZ G hr rfl m F.kp b .nil cb (aJ (pv 1) aO))) (bZ G hr rfl m F.kp b .nil cb (aJ (pv 2) aO))) (bZ GI Ad rfl mI kI bI .nil cb (aJ (pv 1) (aJ (bZ GC Kr rfl mC kC bC .nil cb (aJ (pv 1) (aJ (pv 2) aO))) (aJ (pv 2) aO))))))))),?_⟩;unfold D1.du at q;refine⟨_,rfl,rfl,_,rfl,?_⟩;by_cases h2:a≤1
   ·rw[ae h2]at q;rw[aC (show V.int (a:Int)=V.int 1 from ai V.int (by lia))]
    exact dZ ((jK (x := "copy")).tell q)
   ·rw[af h2]at q;rw[ab (show ¬V.int (a:Int)=V.int 1 from λe=>by injection e with e;lia)]
    refine dW ⟨_,rfl,_,_,rfl,rfl,⟨by decide,by decide⟩,?_⟩;refine⟨_,rfl,_,rfl,_,_,rfl,rfl,?_⟩;have e1:(a:Int)/2=((a/2:Nat):Int):=by lia
    have e2:(a:Int)-(a:Int)/2=((a-a/2:Nat):Int):=by lia
    dsimp only[bX];have m1:oO (a/2) (a-a/2)≤33:=by have:=DX (a/2) (a-a/2);lia
    have l1:=D1.DI (a/2) (by lia) (by lia);have l2:=D1.DI (a-a/2) (by lia) (by lia);have l3:=D1.vg (a/2) (a-a/2) (by lia) (by lia) (by lia) (by lia);have l4:=D1.DH (a/2) (a-a/2) (D1.cg (a/2) (a-a/2)) (by lia) (by lia);have e:([.w "then",.w "beside"]++(D1.du (a/2)).aQ++(D1.du (a-a/2)).aQ++(D1.iO (a/2) (D1.cg (a/2) (a-a/2)) (a-a/2)).aQ:List D1.Wd)=(D1.Dr.bc (.cC (D1.du (a/2)) (D1.du (a-a/2))) (D1.iO (a/2) (D1.cg (a/2) (a-a/2)) (a-a/2))).aQ:=by
     simp[D1.Dr.aQ]
    rw[← e]at q;refine g7.tell (gi (gi (gi J9 ?_ ?_) ?_ ?_) ?_ ?_) q
    case refine_1=>exact Ko (i8 rfl e1) (by lia) (by lia) (by lia)
    case refine_3=>exact Ko (i8 rfl e2) (by lia) (by lia) (by lia)
    case refine_5=>exact Sv (i8 rfl e1) (Aa (i8 rfl e1) (i8 rfl e2) (by lia) (by lia) (by lia) (by lia) m1) (i8 rfl e2) (by lia) (by lia) (by lia) (by lia) (by lia)
    all_goals simp only[bY,eE,so];lia
theorem Sx{f fI fC:Addr}{fd Ac fH:FuncData}(F:cA K "adding" "adding" IG f fd)(b:Binds K fd ["count"] [])(m:Mg mg "adding" f)
  (GI:br P w K mg base bp 2 fI Ac ["above","words","below"] (DU K)) (kI:Kp K fI) (bI:Binds K Ac ["above","words","below"] []) (mI:Mg mg "inside" fI)
  (GC:br P w K mg base bp 35 fC fH ["above","below"] (DY K 33)) (kC:Kp K fC) (bC:Binds K fH ["above","below"] []) (mC:Mg mg "crossing" fC) :
  ∀n:Nat,br P w K mg base bp (n+36) f fd ["count"] (Kn K n)
 |0=>by
  refine F.ok D0 (λvs H Q E h=>?_) (λbE A outer s H vs Q E hr h=>?_)
  ·obtain⟨a,rfl,_⟩:=h;rfl
  ·obtain⟨a,rfl,ha,_,hn,_⟩:=h;exact absurd hn (by lia)
 |n+1=>by
  have G:=Sx F b m GI kI bI mI GC kC bC mC n;refine F.ok D0 (λvs H Q E h=>?_) (λbE A outer s H vs Q E hr h=>?_)
  ·obtain⟨a,rfl,_⟩:=h;rfl
  ·obtain⟨a,rfl,ha,kK,hn,q⟩:=h;have Ad:dt 2 _:=hr.mono (by lia);have Kr:dt 35 _:=hr.mono (by lia);refine⟨_,ba (cX (cM eO (pv 0) aW (cJ _)) (bq (bV (c7 (aJ cz aO)))) dy) (ba (bH (i:=1) D0.nd rfl (.inl rfl) (aX kd (pv 0) aW)) (ba (bH (i:=2) D0.nd rfl (.inl rfl) (aX iS (pv 0) (pv 1))) (bq (bV (aX (dh K rfl) (aX (dh K rfl) (aX (dh K rfl) (aX (dh K rfl) (c7 (aJ cz aO)) (bZ GI Ad rfl mI kI bI .nil cb (aJ (pv 1) (aJ (bZ GC Kr rfl mC kC bC .nil cb (aJ (pv 2) (aJ (pv 1) aO))) (aJ (pv 2) aO))))) (c7 (aJ cz aO))) (bZ G hr rfl m F.kp b .nil cb (aJ (pv 1) aO))) (bZ G hr rfl m F.kp b .nil cb (aJ (pv 2) aO))))))),?_⟩;unfold D1.dv at q;refine⟨_,rfl,rfl,_,rfl,?_⟩;by_cases h2:a≤1
   ·rw[ae h2]at q;rw[aC (show V.int (a:Int)=V.int 1 from ai V.int (by lia))]
    exact dZ ((jK (x := "add")).tell q)
   ·rw[af h2]at q;rw[ab (show ¬V.int (a:Int)=V.int 1 from λe=>by injection e with e;lia)]
    refine dW ⟨_,rfl,_,_,rfl,rfl,⟨by decide,by decide⟩,?_⟩;refine⟨_,rfl,_,rfl,_,_,rfl,rfl,?_⟩;have e1:(a:Int)/2=((a/2:Nat):Int):=by lia
    have e2:(a:Int)-(a:Int)/2=((a-a/2:Nat):Int):=by lia
    dsimp only[bX];have m1:oO (a-a/2) (a/2)≤33:=by have:=DX (a-a/2) (a/2);lia
    have l1:=D1.DJ (a/2) (by lia) (by lia);have l2:=D1.DJ (a-a/2) (by lia) (by lia);have l3:=D1.vg (a-a/2) (a/2) (by lia) (by lia) (by lia) (by lia);have l4:=D1.DH (a/2) (a-a/2) (D1.cg (a-a/2) (a/2)) (by lia) (by lia);have e:([.w "then"]++(D1.iO (a/2) (D1.cg (a-a/2) (a/2)) (a-a/2)).aQ++[.w "beside"]++(D1.dv (a/2)).aQ++(D1.dv (a-a/2)).aQ:List D1.Wd)=(D1.Dr.bc (D1.iO (a/2) (D1.cg (a-a/2) (a/2)) (a-a/2)) (.cC (D1.dv (a/2)) (D1.dv (a-a/2)))).aQ:=by
     simp[D1.Dr.aQ]
    rw[← e]at q;refine g7.tell (gi (gi (gi (gi jK ?_ ?_) jK ?_) ?_ ?_) ?_ ?_) q
    case refine_1=>exact Sv (i8 rfl e1) (Aa (i8 rfl e2) (i8 rfl e1) (by lia) (by lia) (by lia) (by lia) m1) (i8 rfl e2) (by lia) (by lia) (by lia) (by lia) (by lia)
    case refine_4=>exact Kq (i8 rfl e1) (by lia) (by lia) (by lia)
    case refine_6=>exact Kq (i8 rfl e2) (by lia) (by lia) (by lia)
    all_goals simp only[bY,eE,so];lia
end S21
namespace L2
open PySem PySem.Spec PyProof.Rows
noncomputable def D3(b:Bool)(K:Frag)(a:Addr):It:=match b with
 |true=>qe K a
 |false=>qf K a
def Sy(b:Bool)(K:Frag)(tl:TE):TI:=λσ H R=>tl σ H λx H1=>∃a,x=.ref a∧(∃xs,Sq b K H1 a xs)∧R (D3 b K a) H1
theorem vp{X:Cx}(K:Frag)(hK:X.K=K)(b:Bool){tg l:Expr}{tl:TE}(hl:PE X l tl):PI X tg l (Sy b K tl):=by
 cases b with
 |true=>exact iZ K hK hl
 |false=>exact oa K hK hl
theorem Ks{b:Bool}{K:Frag}{H1:Hp}{a:Addr}{xs:List V}{tt:TT}{te:TE}{Q:VK}{cp:St}(Pv:Nat→Hp→List V→Prop)(hq:Sq b K H1 a xs)(hz:xs.length≤sizeLine)(h0:Pv 0 H1 [])(cF:∀i H zs,Pv i H zs→zs.length≤i)
  (step:∀i x H zs,xs[i]?=some x→aK H1 H→Pv i H zs→tt (some x::cp) H λc H4=>if c=true then te (some x::cp) H4 λv H5=>ki 1 cp H1 (Pv (i+1)) (some x::cp) H5 (zs++[v])else ki 1 cp H1 (Pv (i+1)) (some x::cp) H4 zs)
  (done:∀H zs,aK H1 H→Pv xs.length H zs→∀p,H p=none→Q (.ref p) (upd H p (.lst zs))) :
  ∃W:Nat→Nat→St→Hp→List V→Prop,(∃m,W 0 m (List.replicate 1 none++cp) H1 [])∧jD (D3 b K a) (bX 0) tt te Q W:=by
 cases b with
 |true=>exact n9 Pv hq hz h0 cF step done
 |false=>exact we Pv hq hz h0 cF step done
end L2
namespace S21
open PySem L2 Bw
variable{H:Hp}{a f:Addr}{b:Bool}{fd:FuncData}{n:Nat}{p:Int}{rs:LL}{tk:TE}{σ:St}
def adp(b:Bool)(K:Frag):R2:=λx y H Q=>∃p xs i v,x=.ref p∧y=.int i∧Sq b K H p xs∧nW xs i=some v∧Q v H
theorem Kt{X:Cx}(K:Frag)(hK:X.K=K)(b:Bool):vT X (adp b K):=by
 cases b with
 |true=>exact cU K hK
 |false=>exact cH K hK
def D4(b:Bool)(K:Frag):V→Option Int→Option Int→Hp→VK→Prop:=λx lo hi H Q=>∃a xs,x=.ref a∧Sq b K H a xs∧∀p H',aK H H'→Sq b K H' p (fV xs lo hi)→Q (.ref p) H'
theorem tW{X:Cx}(K:Frag)(hK:X.K=K)(b:Bool):sM X (D4 b K):=by
 cases b with
 |true=>
  intro aI s σ H x v vl vu lo hi sl Q I rx hs pl pu h;obtain⟨a,xs,rfl,hx,q⟩:=h;exact kl K hK aI s σ H _ v vl vu lo hi sl Q I rx hs pl pu ⟨a,xs,rfl,hx,λp hp=>q p _ (aK.upd hp) (.of aV)⟩
 |false=>
  intro aI s σ H x v vl vu lo hi sl Q I rx hs pl pu h;obtain⟨a,xs,rfl,hx,q⟩:=h;exact ip K hK aI s σ H _ v vl vu lo hi sl Q I rx hs pl pu ⟨a,xs,rfl,hx,λp H' s' hp=>q p H' s' hp⟩
theorem adq{K:Frag}{xs:List V}(h:Sq b K H a xs):Gh K (.ref a) H (!xs.isEmpty):=by
 cases b with
 |true=>exact .inl ⟨xs,h,rfl⟩
 |false=>exact .inr (.inl ⟨xs,h,rfl⟩)
def Sz(K:Frag):Sp:=λvs H Q _=>∃(b:Bool)(a:Addr)(RS:List V)(aL:LL)(aM:Nat),vs=[.ref a,.int (aM:Int)]∧Sq b K H a RS∧bj K H RS (aL.map cj)∧(∀r∈aL,r.length=aM)∧oM K H (D1.mj aL aM).aQ Q
theorem ads:cT ["sums","count"] ["sums","count"] (bu IC):=de rfl rfl rfl (by decide +kernel) rfl
theorem adt(F:cA K "single" "single" IC f fd):br P w K mg base bp 1 f fd ["sums","count"] (Sz K):=by
 refine F.ok ads (λvs H Q E h=>?_) (λbE A outer s H vs Q E hr h=>?_)
 ·obtain⟨b,a,RS,aL,aM,rfl,_⟩:=h;rfl
 ·obtain⟨b,a,RS,aL,aM,rfl,hq,hA,hl,q⟩:=h;refine⟨_,ba (cX (Ba (Bj (pv 0) (λ_=>rfl))) (bq (bV (ym (cM eO (pv 1) aW (cJ _)) (c7 (aJ cz aO)) (c7 (aJ cz aO))))) dy) (ba (cX (cM eO (pv 1) aW (cJ _)) (bq (bV (c7 (aJ cz aO)))) dy) (bq (bV (ym (cM eO (bt (cH K rfl) (bt (Kt K rfl b) (pv 0) aW (λ_ _=>rfl)) aW (λ_ _=>rfl)) aW (cJ _)) (c7 (aJ cz aO)) (c7 (aJ cz (aJ (bt (cH K rfl) (bt (Kt K rfl b) (pv 0) aW (λ_ _=>rfl)) aW (λ_ _=>rfl)) aO))))))),?_⟩;refine⟨_,rfl,_,adq hq,?_⟩;have eL:RS.length=aL.length:=by rw[hA.length,aZ]
  match aL,hl,q,hA,eL with
  | [],hl,q,hA,eL=>
   have:RS=[]:=uk eL
   subst this;refine dZ ⟨_,rfl,rfl,_,rfl,?_⟩;unfold D1.mj at q;by_cases hc:aM=1
   ·rw[aC (show V.int (aM:Int)=V.int 1 from ai V.int (by lia))]
    simp only[hc,if_true]at q;exact dZ ((jK (x := "end")).tell q)
   ·rw[ab (show ¬V.int (aM:Int)=V.int 1 from λe=>by injection e with e;lia)]
    simp only[hc,if_false]at q;exact dW ((jK (x := "empty")).tell q)
  |r::dM,hl,q,hA,eL=>
   match RS,eL,hA,hq with
   |x::JC,eL,hA,hq=>
    obtain⟨r0,ra,rL,rfl,cV⟩:=jd (i:=0) hA rfl;have e0:r=r0:=c8 rL;subst e0;refine dW ⟨_,rfl,rfl,_,rfl,?_⟩;unfold D1.mj at q;by_cases hc:aM=0
    ·rw[aC (show V.int (aM:Int)=V.int 0 from ai V.int (by lia))]
     simp only[hc,if_true]at q;exact dZ ((jK (x := "none")).tell q)
    ·rw[ab (show ¬V.int (aM:Int)=V.int 0 from λe=>by injection e with e;lia)]
     simp only[hc,if_false]at q;have ot:=hl r (by simp)
     match r,ot,cV,q with
     | [],ot,_,_=>exact absurd ot.symm hc
     |u::us,ot,cV,q=>
      refine dW ⟨_,rfl,a,_,0,.ref ra,rfl,rfl,hq,bw (j:=0) rfl,ra,_,0,.int u,rfl,rfl,cV,bw (j:=0) rfl,rfl,_,rfl,?_⟩;by_cases hu:u=1
      ·subst hu;exact dZ ((jK (x := "id")).tell q)
      ·rw[ab (show ¬V.int u=V.int 1 from λe=>by injection e with e;exact hu e)]
       have j5:¬((u::us).getD 0 0=1):=hu;rw[af j5]at q;exact dW ⟨_,rfl,a,_,0,.ref ra,rfl,rfl,hq,bw (j:=0) rfl,ra,_,0,.int u,rfl,rfl,cV,bw (j:=0) rfl,(by show 2≤sizeLine;decide),λp hp=>q p _ (aK.upd hp) (.of aV)⟩
theorem SA{K:Frag}{H1:Hp}{t:Addr}{RS:List V}{aN:LL}{g:List Int→Bool}{cp:St}{te:TE}{Q:VK}(h2:Sq b K H1 t RS)(h3:bj K H1 RS (aN.map cj))(hz:aN.length≤1000)
  (step:∀row ra H,row∈aN→aK H1 H→bf K H ra (row.map V.int)→∀R:VK,(∀H',aK H H'→R (.bl (g row)) H')→te (some (.ref ra)::cp) H R)
  (done:∀H,aK H1 H→∀p,H p=none→Q (.ref p) (upd H p (.lst ((aN.map g).map V.bl)))) :
  ∃W:Nat→Nat→St→Hp→List V→Prop,(∃m,W 0 m (List.replicate 1 none++cp) H1 [])∧jD (D3 b K t) (bX 0) jC te Q W:=by
 have i7:(1000:Nat)≤sizeLine:=by decide
 have pq:RS.length=aN.length:=by rw[h3.length,aZ]
 refine Ks (b:=b) (xs:=RS) (cp:=cp) (λi H' zs=>zs=((aN.map g).take i).map V.bl) h2 (by lia) rfl (λi H' zs h=>by rw[h,aZ,cB];exact Nat.min_le_left _ _) ?_ ?_
 ·rintro i v H2 zs hv sm rfl;obtain⟨row,ra,fi,rfl,cV⟩:=jd h3 hv;refine jc (step row ra H2 (cZ fi) sm (sm.bh cV) _ λH3 s3=>⟨⟨[_],rfl,rfl⟩,sm.trans s3,?_⟩);have e:(aN.map g)[i]?=some (g row):=by rw[dU,fi];rfl
  rw[gK,e];show _=((aN.map g).take i++[_]).map V.bl;rw[dC];rfl
 ·rintro H2 zs sm rfl p hp;rw[jM (by rw[aZ];lia)];exact done H2 sm p hp
theorem bj.Ku{K:Frag}{RS:List V}{aN:LL}(h:bj K H RS (aN.map cj))(k:Nat):bj K H (RS.take k) ((aN.take k).map cj):=by
 rw[List.map_take];exact bj.take k h
theorem bj.Kv{K:Frag}{RS:List V}{aN:LL}(h:bj K H RS (aN.map cj))(k:Nat):bj K H (RS.drop k) ((aN.drop k).map cj):=by
 rw[List.map_drop];exact bj.drop k h
theorem Kw{r:List Int}{k:Nat}(h:k≤r.length):fV (r.map V.int) none (some (k:Int))=(r.take k).map V.int:=by
 rw[CJ (by rw[aZ];exact h),List.map_take]
theorem Kx{r:List Int}{k:Nat}(h:k≤r.length):fV (r.map V.int) (some (k:Int)) none=(r.drop k).map V.int:=by
 rw[CK (by rw[aZ];exact h),List.map_drop]
theorem SD(r:List Int):(r.any λn=>n != 0)=!D1.kE r:=by
 unfold D1.kE;induction r with
 |nil=>rfl
 |cons a r ih=>
  simp only[List.any_cons,List.all_cons,ih,Bool.not_and];rfl
def SE(K:Frag):Sp:=λvs H Q _=>∃(b:Bool)(a:Addr)(RS:List V)(aL:LL)(aM k t:Nat),vs=[.ref a,.int (k:Int),.int (t:Int)]∧Sq b K H a RS∧bj K H RS (aL.map cj)∧(∀r∈aL,r.length=aM)∧k≤aM∧t≤aL.length∧aL.length≤100∧
 ∀H',aK H H'→Q (.bl (D1.qx aL k t)) H'
noncomputable abbrev SF:List Str:=["sums","wires","taken"]
theorem SG:(["row","wires"]:List Str).Nodup:=by decide +kernel
theorem adu:cT ["sums","wires","taken"] ["sums","wires","taken"] (bu ze):=de rfl rfl rfl (by decide +kernel) rfl
theorem adv(F:cA K "is_seam" "is_seam" ze f fd)(T:Txt mg):br P w K mg base bp 1 f fd ["sums","wires","taken"] (SE K):=by
 refine F.ok adu (λvs H Q E h=>?_) (λbE A outer s H vs Q E hr h=>?_)
 ·obtain⟨b,a,RS,aL,aM,k,t,rfl,_⟩:=h;rfl
 ·obtain⟨b,a,RS,aL,aM,k,t,rfl,hq,hA,hl,hk,ht,hz,q⟩:=h;refine⟨_,bq (bV (MG (eG (aad K rfl rfl) rfl T.any B0 (aJ (aX eQ (iV (N:=["row","wires"]) (own:=1) (caps:=[1]) rfl (vp K rfl b (dD (tW K rfl b) (pv 0) dQ (dj (pv 2)))) (show dJ SF (bu ze) ["row","wires"] 1 [1] _ from .mk' (by decide +kernel)) (λ_ _ _ _ _=>cx (i:=0) SG rfl (.inl rfl)) (λ_ _ _ _ _=>fq) (λ_ _ _ _ _=>eG (Ia K rfl rfl) rfl T.any B0 (aJ (dD (ip K rfl) (pv 0) (dj (pv 1)) dQ) aO))) (iV (N:=["row","wires"]) (own:=1) (caps:=[1]) rfl (vp K rfl b (dD (tW K rfl b) (pv 0) (dj (pv 2)) dQ)) (show dJ SF (bu ze) ["row","wires"] 1 [1] _ from .mk' (by decide +kernel)) (λ_ _ _ _ _=>cx (i:=0) SG rfl (.inl rfl)) (λ_ _ _ _ _=>fq) (λ_ _ _ _ _=>eG (Ia K rfl rfl) rfl T.any B0 (aJ (dD (ip K rfl) (pv 0) dQ (dj (pv 1))) aO)))) aO)))),?_⟩
  have i7:(1000:Nat)≤sizeLine:=by decide
  have pq:RS.length=aL.length:=by rw[hA.length,aZ]
  refine⟨_,rfl,_,rfl,_,rfl,a,_,rfl,hq,λc1 H1 s1 sR=>⟨c1,rfl,⟨_,sR⟩,?_⟩⟩;rw[CJ (by lia)]at sR;refine SA (b:=b) (aN:=aL.take t) (g:=λr=>!D1.kE (r.drop k)) (cp:=[some (.int (k:Int))]) sR ((bj.Ku hA t).mono s1) (by rw[cB];lia) ?_ ?_
  ·intro row ra H2 eV sm cV R r;have pk:=hl row (gy eV);refine⟨_,rfl,_,rfl,_,rfl,ra,_,rfl,cV,λc H3 s3 hc=>?_⟩;rw[Kx (by lia)]at hc;refine⟨c,_,rfl,hc,?_⟩;rw[SD];exact r H3 s3
  intro H2 s2 p2 uK;have sA:aK H (upd H2 p2 (.lst (((aL.take t).map λr=>!D1.kE (r.drop k)).map V.bl))):=s1.trans (s2.trans (.upd uK));refine⟨_,rfl,_,rfl,_,rfl,a,_,rfl,sA.sq (b:=b) hq,λc3 H3 s3 zM=>⟨c3,rfl,⟨_,zM⟩,?_⟩⟩;rw[CK (by lia)]at zM;refine SA (b:=b) (aN:=aL.drop t) (g:=λr=>!D1.kE (r.take k)) (cp:=[some (.int (k:Int))]) zM ((bj.Kv hA t).mono (sA.trans s3)) (by rw[da];lia) ?_ ?_
  ·intro row ra H4 eV sm cV R r;have pk:=hl row (gM eV);refine⟨_,rfl,_,rfl,_,rfl,ra,_,rfl,cV,λc H5 s5 hc=>?_⟩;rw[Kw (by lia)]at hc;refine⟨c,_,rfl,hc,?_⟩;rw[SD];exact r H5 s5
  intro H4 s4 p4 hp4;have sB:aK (upd H2 p2 (.lst (((aL.take t).map λr=>!D1.kE (r.drop k)).map V.bl))) (upd H4 p4 (.lst (((aL.drop t).map λr=>!D1.kE (r.take k)).map V.bl))):=s3.trans (s4.trans (.upd hp4));refine⟨p2,p4,_,_,rfl,rfl,sB _ _ aV,aV,by simp only[aZ,cB,da];lia,λp5 hp5=>?_⟩;refine⟨p5,(aL.take t).map (λr=>!D1.kE (r.drop k))++(aL.drop t).map (λr=>!D1.kE (r.take k)),rfl,by rw[dC];exact .of aV,_,rfl,?_⟩;have e:(!(((aL.take t).map (λr=>!D1.kE (r.drop k))++(aL.drop t).map (λr=>!D1.kE (r.take k))).any id))=D1.qx aL k t:=by
   unfold D1.qx;rw[List.any_append,Bool.not_or,List.any_map,List.any_map,List.not_any_eq_all_not,List.not_any_eq_all_not]
   congr 1
   ·congr 1;funext r;simp
   ·congr 1;funext r;simp
  rw[e];exact q _ (sA.trans (sB.trans (.upd hp5)))
theorem Sq.or{K:Frag}{xs:List V}(h:Sq b K H a xs):dq K H a xs∨bf K H a xs:=by
 cases b with
 |true=>exact .inl h
 |false=>exact .inr h
def SH(K:Frag):Sp:=λvs H Q _=>∃(b:Bool)(a:Addr)(RS:List V)(aL:LL)(aM:Nat),vs=[.ref a,.int (aM:Int)]∧Sq b K H a RS∧bj K H RS (aL.map cj)∧(∀r∈aL,r.length=aM)∧aM≤100∧aL.length≤100∧
 (D1.lN aL aM=none→∀H',aK H H'→Q .ck H')∧∀k t,D1.lN aL aM=some (k,t)→∀v H',aK H H'→bf K H' v [.int (k:Int),.int (t:Int)]→Q (.ref v) H'
theorem Ky:cT ["sums","count","wires","taken"] ["sums","count"] (bu ID):=de rfl rfl rfl (by decide +kernel) rfl
theorem adw{fS:Addr}{eS:FuncData}(F:cA K "seam_of" "seam_of" ID f fd)(T:Txt mg)
  (GS:br P w K mg base bp 1 fS eS ["sums","wires","taken"] (SE K)) (kS:Kp K fS) (bS:Binds K eS ["sums","wires","taken"] []) (mS:Mg mg "is_seam" fS) :
  br P w K mg base bp 2 f fd ["sums","count"] (SH K):=by
 refine F.ok Ky (λvs H Q E h=>?_) (λbE A outer s H vs Q E hr h=>?_)
 ·obtain⟨b,a,RS,aL,aM,rfl,_⟩:=h;rfl
 ·obtain⟨b,a,RS,aL,aM,rfl,hq,hA,hl,hc,hz,q0,q1⟩:=h;have iM:dt 1 _:=hr.mono (by decide);have pq:RS.length=aL.length:=by rw[hA.length,aZ]
  refine⟨_,ba (kc lD rfl (qX rfl T.range (aJ (aX eU (pv 1) aW) aO)) (cx (i:=2) Ky.nd rfl (.inl rfl)) (bq (kc lD rfl (qX rfl T.range (aJ (aX eU (eG (gk K rfl) rfl T.len gm (aJ (pv 0) aO)) aW) aO)) (cx (i:=3) Ky.nd rfl (.inl rfl)) (bq (cX (PW.pt (uy (XB vQ vQ aW (aX eU (pv 2) (pv 3)) (aX eU (pv 1) (eG (gk K rfl) rfl T.len gm (aJ (pv 0) aO)))) (yk (ux (bZ GS iM rfl mS kS bS .nil cb (aJ (pv 0) (aJ (pv 2) (aJ (pv 3) aO)))))))) (bq (bV (c7 (aJ (pv 2) (aJ (pv 3) aO))))) dy))))) (bq (bV oY)),?_⟩;refine⟨_,rfl,_,_,rfl,rfl,_,rfl,by lia,by lia,?_⟩;have eN:((aM:Int)+1).toNat=aM+1:=by lia
  refine uB (lo:=0) (λi σ H'=>aK H H'∧(∃s2 s3,σ=[some (.ref a),some (.int (aM:Int)),s2,s3])∧∀i',i'<i→∀j,j≤aL.length→D1.iP aL aM i' j=false) ⟨.refl _,⟨none,none,rfl⟩,λi' h=>absurd h (by lia)⟩ ?_ ?_
  ·rintro i σ H1 hi ⟨sm,⟨s2,s3,rfl⟩,hb⟩;have i5:i≤aM:=by lia
   refine⟨_,rfl,a,RS,rfl,Sq.or (sm.sq (b:=b) hq),_,_,rfl,rfl,_,rfl,by lia,by lia,?_⟩;have eM:((RS.length:Int)+1).toNat=aL.length+1:=by lia
   refine uB (lo:=0) (λj σ H'=>aK H H'∧(∃s3,σ=[some (.ref a),some (.int (aM:Int)),some (.int (i:Int)),s3])∧∀j',j'<j→D1.iP aL aM i j'=false) ⟨sm,⟨s3,by show[_,_,some (V.int (0+(i:Int))),_]=_;rw[jy]⟩,λj' h=>absurd h (by lia)⟩ ?_ ?_
   ·rintro j σ H2 hj ⟨eh,⟨s3,rfl⟩,mr⟩;have rC:j≤aL.length:=by lia
    rw[jy];have eC:D1.iP aL aM i j=(decide (0<i+j)&&decide (i+j<aM+aL.length)&&D1.qx aL i j):=rfl;have no:∀H3,aK H2 H3→D1.iP aL aM i j=false→aK H H3∧(∃s3,[some (V.ref a),some (V.int (aM:Int)),some (V.int (i:Int)),some (V.int (j:Int))]=[some (.ref a),some (.int (aM:Int)),some (.int (i:Int)),s3])∧∀j',j'<j+1→D1.iP aL aM i j'=false:=λH3 s3 e=>⟨eh.trans s3,⟨_,rfl⟩,λj' vh=>by
     by_cases e':j'=j
     ·subst e';exact e
     ·exact mr j' (by lia)⟩
    refine⟨_,rfl,_,rfl,_,_,rfl,rfl,_,_,rfl,rfl,_,rfl,?_⟩;by_cases h0:0<i+j
    ·rw[aC (show(0:Int)<(i:Int)+(j:Int) by lia)];refine dZ ⟨_,rfl,_,rfl,a,RS,rfl,Sq.or (eh.sq (b:=b) hq),_,_,rfl,rfl,_,_,rfl,rfl,_,rfl,?_⟩;by_cases h1:i+j<aM+aL.length
     ·rw[aC (show(i:Int)+(j:Int)<(aM:Int)+(RS.length:Int) by lia)];refine dZ ⟨_,rfl,_,rfl,_,rfl,b,a,RS,aL,aM,i,j,rfl,eh.sq (b:=b) hq,hA.mono eh,hl,i5,rC,hz,λH3 s3=>⟨_,rfl,?_⟩⟩;by_cases h2:D1.qx aL i j=true
      ·rw[h2];have cut:D1.iP aL aM i j=true:=by rw[eC,aC h0,aC h1,h2];rfl
       exact dZ ⟨_,rfl,_,rfl,by show 2≤sizeLine;decide,λp hp=>q1 i j (D1.acY i5 rC cut hb mr) p _ ((eh.trans s3).trans (.upd hp)) (.of aV)⟩
      ·rw[Bool.not_eq_true]at h2;rw[h2];exact dW (no H3 s3 (by rw[eC,h2,Bool.and_false]))
     ·rw[ab (show ¬(i:Int)+(j:Int)<(aM:Int)+(RS.length:Int) by lia)];exact dW (dW (no H2 (.refl _) (by rw[eC,ab h1,Bool.and_false,Bool.false_and])))
    ·rw[ab (show ¬(0:Int)<(i:Int)+(j:Int) by lia)];exact dW ⟨_,rfl,dW (dW (no H2 (.refl _) (by rw[eC,ab h0,Bool.false_and,Bool.false_and])))⟩
   ·rintro σ H2 ⟨eh,⟨s3,rfl⟩,mr⟩;refine⟨eh,⟨_,_,rfl⟩,λi' uQ j hj=>?_⟩;by_cases e:i'=i
    ·subst e;exact mr j (by lia)
    ·exact hb i' (by lia) j hj
  ·rintro σ H1 ⟨sm,⟨s2,s3,rfl⟩,hb⟩;exact q0 (D1.acZ λi hi j hj=>hb i (by lia) j hj) H1 sm
def Kz(b:Bool)(K:Frag)(te:TE)(σ:St)(H:Hp)(aN:LL):Prop:=∀H',aK H H'→∀R:VK,(∀v eT RS,aK H' eT→Sq b K eT v RS→bj K eT RS (aN.map cj)→R (.ref v) eT)→te σ H' R
theorem D5{K:Frag}{H1:Hp}{t:Addr}{RS:List V}{aN:LL}{g:List Int→List Int}{cp:St}{te:TE}{Q:VK}(h2:Sq b K H1 t RS)(h3:bj K H1 RS (aN.map cj))(hz:aN.length≤1000)
  (step:∀row ra H,row∈aN→aK H1 H→bf K H ra (row.map V.int)→∀R:VK,(∀v H',aK H H'→bf K H' v ((g row).map V.int)→R (.ref v) H')→te (some (.ref ra)::cp) H R)
  (done:∀v H ZS,aK H1 H→dq K H v ZS→bj K H ZS ((aN.map g).map cj)→Q (.ref v) H) :
  ∃W:Nat→Nat→St→Hp→List V→Prop,(∃m,W 0 m (List.replicate 1 none++cp) H1 [])∧jD (D3 b K t) (bX 0) jC te Q W:=by
 have i7:(1000:Nat)≤sizeLine:=by decide
 have pq:RS.length=aN.length:=by rw[h3.length,aZ]
 refine Ks (b:=b) (xs:=RS) (cp:=cp) (λi H' zs=>bj K H' zs (((aN.map g).take i).map cj)) h2 (by lia) .nil (λi H' zs h=>by rw[h.length,aZ,cB];exact Nat.min_le_left _ _) ?_ ?_
 ·rintro i v H2 zs hv sm h;obtain⟨row,ra,fi,rfl,cV⟩:=jd h3 hv;refine jc (step row ra H2 (cZ fi) sm (sm.bh cV) _ λu H3 s3 hu=>⟨⟨[_],rfl,rfl⟩,sm.trans s3,?_⟩);have e:(aN.map g)[i]?=some (g row):=by rw[dU,fi];rfl
  rw[gK,e];show bj K H3 _ (((aN.map g).take i++[_]).map cj);rw[dC];exact(h.mono s3).append (.cons (kj hu) .nil)
 ·rintro H2 ZS sm h p hp;rw[jM (by rw[aZ];lia)]at h;exact done p _ ZS (sm.trans (.upd hp)) (.of aV) (h.mono (.upd hp))
theorem qC{c:TT}{t u:TS}{D:Ends}(d:Bool)(h:∀R:Bool→Hp→Prop,R d H→c σ H R)(ht:d=true→t { D with nx:=u D } σ H)(hf:d=false→u D σ H):cI (fb c t iR) u D σ H:=by
 refine h _ ?_;cases d with
 |true=>exact dZ (ht rfl)
 |false=>exact dW (hf rfl)
def KA(K:Frag)(n:Nat):Sp:=λvs H Q _=>∃(p:Int)(b:Bool)(a:Addr)(RS:List V)(aL:LL)(aM:Nat),vs=[.ref a,.int (aM:Int)]∧Sq b K H a RS∧bj K H RS (aL.map cj)∧D1.bo p aL aM∧aM<9∧aL.length<9∧aM+aL.length<n∧
 oM K H (D1.sumF n aL aM).aQ Q
theorem tX{tl:TE}{E:XK}{aL:LL}{aM:Nat}(h1:Kz b K tl σ H aL)(h2:IE tk σ H (aM:Int))(hR:D1.bo p aL aM)(hc:aM<9)(hl:aL.length<9)(hn:aM+aL.length<n) :
  g7 K (iD (KA K n) [] E (bg tl (bg tk cm))) σ H (D1.sumF n aL aM).aQ:=λH' s _ q=>
 h1 H' s _ λv H1 RS s1 hv hA=>h2 H1 (s.trans s1) _ ⟨p,b,v,RS,aL,aM,rfl,hv,hA,hR,hc,hl,hn,λu H2 s2 hu=>q u H2 (s1.trans s2) hu⟩
noncomputable abbrev D6:List Str:=["sums","count","seam","above","half"]
theorem SI:(["row","seam"]:List Str).Nodup:=by decide +kernel
theorem SJ:(["row","half"]:List Str).Nodup:=by decide +kernel
theorem vq:cT ["sums","count","seam","above","half"] ["sums","count"] (bu uW):=de rfl rfl rfl (by decide +kernel) rfl
theorem SK{i k:Nat}{RS:List V}{aN:LL}(h:σ[i]?=some (some (.ref a)))(hq:Sq b K H a RS)(hA:bj K H RS (aN.map cj))(ik:IE tk σ H (k:Int))(hk:k≤aN.length) :
  Kz b K (ib (D4 b K) (aY i) iK (gS tk)) σ H (aN.take k):=λH' s R r=>⟨_,h,ik H' s _ ⟨_,rfl,a,RS,rfl,s.sq (b:=b) hq,λp H1 s1 hp=>r p H1 (RS.take k) s1 (by rwa[CJ (by rw[hA.length,aZ];exact hk)]at hp) (bj.Ku (hA.mono (s.trans s1)) k)⟩⟩
theorem SM{i k:Nat}{RS:List V}{aN:LL}(h:σ[i]?=some (some (.ref a)))(hq:Sq b K H a RS)(hA:bj K H RS (aN.map cj))(ik:IE tk σ H (k:Int))(hk:k≤aN.length) :
  Kz b K (ib (D4 b K) (aY i) (gS tk) iK) σ H (aN.drop k):=λH' s R r=>⟨_,h,ik H' s _ ⟨_,rfl,a,RS,rfl,s.sq (b:=b) hq,λp H1 s1 hp=>r p H1 (RS.drop k) s1 (by rwa[CK (by rw[hA.length,aZ];exact hk)]at hp) (bj.Kv (hA.mono (s.trans s1)) k)⟩⟩
theorem SN{f fO fS fC fA:Addr}{fd zY eS fH jt:FuncData}(F:cA K "summing" "summing" uW f fd)(T:Txt mg)(bF:Binds K fd ["sums","count"] [])(m:Mg mg "summing" f)
  (GO:br P w K mg base bp 1 fO zY ["sums","count"] (Sz K)) (kO:Kp K fO) (bO:Binds K zY ["sums","count"] []) (mO:Mg mg "single" fO)
  (GS:br P w K mg base bp 2 fS eS ["sums","count"] (SH K)) (kS:Kp K fS) (bS:Binds K eS ["sums","count"] []) (mS:Mg mg "seam_of" fS)
  (GC:br P w K mg base bp 44 fC fH ["count"] (Km K 8)) (kC:Kp K fC) (bC:Binds K fH ["count"] []) (mC:Mg mg "copying" fC)
  (GA:br P w K mg base bp 44 fA jt ["count"] (Kn K 8)) (kA:Kp K fA) (bA:Binds K jt ["count"] []) (mA:Mg mg "adding" fA) :
  ∀n:Nat,br P w K mg base bp (n+45) f fd ["sums","count"] (KA K n)
 |0=>by
  refine F.ok vq (λvs H Q E h=>?_) (λbE A outer s H vs Q E hr h=>?_)
  ·obtain⟨p,b,a,RS,aL,aM,rfl,_⟩:=h;rfl
  ·obtain⟨p,b,a,RS,aL,aM,rfl,_,_,_,_,_,hn,_⟩:=h;exact absurd hn (by lia)
 |n+1=>by
  have G:=SN F T bF m GO kO bO mO GS kS bS mS GC kC bC mC GA kA bA mA n;refine F.ok vq (λvs H Q E h=>?_) (λbE A outer s H vs Q E hr h=>?_)
  ·obtain⟨p,b,a,RS,aL,aM,rfl,_⟩:=h;rfl
  ·obtain⟨p,b,a,RS,aL,aM,rfl,hq,hA,hR,hc,hl,hn,q⟩:=h;have iM:dt 1 _:=hr.mono (by lia);have Ad:dt 2 _:=hr.mono (by lia);have SO:dt 44 _:=hr.mono (by lia);have pq:RS.length=aL.length:=by rw[hA.length,aZ]
   refine⟨_,ba (cX (PW.pt (vM (cM vQ (aX eU (pv 1) (eG (gk K rfl) rfl T.len gm (aJ (pv 0) aO))) aW (cJ _)) (A0 (PW.pt (uy (cM eO (pv 1) aW (cJ _)) (uy (cM eO (eG (gk K rfl) rfl T.len gm (aJ (pv 0) aO)) aW (cJ _)) (yk (cM qg (bt (cH K rfl) (bt (Kt K rfl b) (pv 0) aW (λ_ _=>rfl)) aW (λ_ _=>rfl)) aW (cJ _))))))))) (bq (bV (bZ GO iM rfl mO kO bO .nil cb (aJ (pv 0) (aJ (pv 1) aO))))) dy) (ba (bH (i:=2) vq.nd rfl (by first|exact Or.inl rfl|exact Or.inr rfl) (bZ GS Ad rfl mS kS bS .nil cb (aJ (pv 0) (aJ (pv 1) aO)))) (ba (cX (AX (Xa (pv 2)) rfl) (ba (bH (i:=3) vq.nd rfl (by first|exact Or.inl rfl|exact Or.inr rfl) (bZ G hr rfl m F.kp bF .nil cb (aJ (iV (N:=["row","seam"]) (own:=1) (caps:=[2]) rfl (vp K rfl b (dD (tW K rfl b) (pv 0) dQ (dj (bt (cH K rfl) (pv 2) aW (λ_ _=>rfl))))) (show dJ D6 (bu uW) ["row","seam"] 1 [2] _ from .mk' (by decide +kernel)) (λ_ _ _ _ _=>cx (i:=0) SI rfl (.inl rfl)) (λ_ _ _ _ _=>fq) (λ_ _ _ _ _=>dD (ip K rfl) (pv 0) dQ (dj (bt (cH K rfl) (pv 1) aW (λ_ _=>rfl))))) (aJ (bt (cH K rfl) (pv 2) aW (λ_ _=>rfl)) aO)))) (bq (bV (aX (dh K rfl) (aX (dh K rfl) (c7 (aJ cz aO)) (pv 3)) (bZ G hr rfl m F.kp bF .nil cb (aJ (iV (N:=["row","seam"]) (own:=1) (caps:=[2]) rfl (vp K rfl b (dD (tW K rfl b) (pv 0) (dj (bt (cH K rfl) (pv 2) aW (λ_ _=>rfl))) dQ)) (show dJ D6 (bu uW) ["row","seam"] 1 [2] _ from .mk' (by decide +kernel)) (λ_ _ _ _ _=>cx (i:=0) SI rfl (.inl rfl)) (λ_ _ _ _ _=>fq) (λ_ _ _ _ _=>dD (ip K rfl) (pv 0) (dj (bt (cH K rfl) (pv 1) aW (λ_ _=>rfl))) dQ)) (aJ (aX iS (pv 1) (bt (cH K rfl) (pv 2) aW (λ_ _=>rfl))) aO))))))) dy) (ba (cX (cM Xz (eG (gk K rfl) rfl T.len gm (aJ (pv 0) aO)) (pv 1) (cJ _)) (ba (bH (i:=4) vq.nd rfl (by first|exact Or.inl rfl|exact Or.inr rfl) (aX kd (eG (gk K rfl) rfl T.len gm (aJ (pv 0) aO)) aW)) (bq (bV (aX (dh K rfl) (aX (dh K rfl) (aX (dh K rfl) (aX (dh K rfl) (c7 (aJ cz aO)) (bZ GC SO rfl mC kC bC .nil cb (aJ (pv 1) aO))) (c7 (aJ cz aO))) (bZ G hr rfl m F.kp bF .nil cb (aJ (dD (tW K rfl b) (pv 0) dQ (dj (pv 4))) (aJ (pv 1) aO)))) (bZ G hr rfl m F.kp bF .nil cb (aJ (dD (tW K rfl b) (pv 0) (dj (pv 4)) dQ) (aJ (pv 1) aO))))))) dy) (ba (bH (i:=4) vq.nd rfl (by first|exact Or.inl rfl|exact Or.inr rfl) (aX kd (pv 1) aW)) (ba (bH (i:=3) vq.nd rfl (by first|exact Or.inl rfl|exact Or.inr rfl) (bZ G hr rfl m F.kp bF .nil cb (aJ (iV (N:=["row","half"]) (own:=1) (caps:=[4]) rfl (vp K rfl b (pv 0)) (show dJ D6 (bu uW) ["row","half"] 1 [4] _ from .mk' (by decide +kernel)) (λ_ _ _ _ _=>cx (i:=0) SJ rfl (.inl rfl)) (λ_ _ _ _ _=>fq) (λ_ _ _ _ _=>dD (ip K rfl) (pv 0) dQ (dj (pv 1)))) (aJ (pv 4) aO)))) (bq (bV (aX (dh K rfl) (aX (dh K rfl) (aX (dh K rfl) (c7 (aJ cz (aJ cz aO))) (pv 3)) (bZ G hr rfl m F.kp bF .nil cb (aJ (iV (N:=["row","half"]) (own:=1) (caps:=[4]) rfl (vp K rfl b (pv 0)) (show dJ D6 (bu uW) ["row","half"] 1 [4] _ from .mk' (by decide +kernel)) (λ_ _ _ _ _=>cx (i:=0) SJ rfl (.inl rfl)) (λ_ _ _ _ _=>fq) (λ_ _ _ _ _=>dD (ip K rfl) (pv 0) (dj (pv 1)) dQ)) (aJ (aX iS (pv 1) (pv 4)) aO)))) (bZ GA SO rfl mA kA bA .nil cb (aJ (eG (gk K rfl) rfl T.len gm (aJ (pv 0) aO)) aO)))))))))),?_⟩
   have eV:∀r∈aL,r.length=aM:=λr hr=>(hR r hr).1;refine qC (decide (D1.iG aL aM)) (λR r=>?_) (λe=>?_) (λe=>?_)
   ·refine⟨_,rfl,_,rfl,a,RS,rfl,Sq.or hq,_,_,rfl,rfl,_,_,rfl,rfl,_,rfl,?_⟩;by_cases h0:aM+aL.length<2
    ·rw[aC (show(aM:Int)+(RS.length:Int)<2 by lia)];rw[aC (show D1.iG aL aM from Or.inl h0)]at r
     exact dZ r
    ·rw[ab (show ¬(aM:Int)+(RS.length:Int)<2 by lia)];refine dW ⟨_,rfl,rfl,_,rfl,?_⟩;by_cases h1:aM=1
     ·rw[aC (show V.int (aM:Int)=V.int 1 from ai V.int (by lia))]
      refine dZ ⟨_,rfl,a,RS,rfl,Sq.or hq,rfl,_,rfl,?_⟩;by_cases h2:aL.length=1
      ·rw[aC (show V.int (RS.length:Int)=V.int 1 from ai V.int (by lia))]
       obtain⟨ra,hx,cV⟩:=bj.at (i:=0) hA (by lia);have wG:=eV _ (lj (l:=aL) (n:=0) (by lia));have eg:aL.getD 0 []=aL[0]:=by rw[cO,cf (by lia)];rfl
       generalize aL[0]=r0 at *
       match r0,wG,cV,eg with
       | [],wG,_,_=>exact absurd wG (by rw[h1];decide)
       |u::us,wG,cV,eg=>
        refine dZ ⟨_,rfl,a,RS,0,.ref ra,rfl,rfl,hq,bw (j:=0) hx,ra,_,0,.int u,rfl,rfl,cV,bw (j:=0) rfl,rfl,_,rfl,?_⟩;have hi:D1.iG aL aM↔u≠0:=by
         unfold D1.iG;rw[eg];show _∨(_∧_∧u≠0)↔_;exact⟨λh=>h.elim (λh=>absurd h h0) λh=>h.2.2,λh=>.inr ⟨h1,h2,h⟩⟩
        have:decide (D1.iG aL aM)=!decide (V.int u=V.int 0):=by
         by_cases hu:u=0
         ·subst hu;rw[ab (show ¬D1.iG aL aM from λh=>hi.mp h rfl)];rfl
         ·rw[aC (hi.mpr hu),ab (show ¬V.int u=V.int 0 from λe=>by injection e with e;exact hu e)];rfl
        rw[this]at r;exact r
      ·rw[ab (show ¬V.int (RS.length:Int)=V.int 1 from λe=>by injection e with e;lia)]
       rw[ab (show ¬D1.iG aL aM from λe=>by unfold D1.iG at e;lia)]at r
       exact dW r
     ·rw[ab (show ¬V.int (aM:Int)=V.int 1 from λe=>by injection e with e;lia)]
      rw[ab (show ¬D1.iG aL aM from λe=>by unfold D1.iG at e;lia)]at r
      exact dW r
   ·rw[aF]at e;unfold D1.sumF at q;rw[ae e]at q;exact⟨_,rfl,_,rfl,b,a,RS,aL,aM,rfl,hq,hA,eV,q⟩
   ·rw[aE]at e;have q':=q;unfold D1.sumF at q';rw[af e]at q';refine⟨_,rfl,_,rfl,b,a,RS,aL,aM,rfl,hq,hA,eV,by lia,by lia,λhs H1 s1=>?_,λk t hs v H1 s1 hv=>?_⟩
    ·have gG:=s1.sq (b:=b) hq;have qo:=hA.mono s1;obtain⟨c1,c2,c3⟩:=D1.DG hR e hs;rw[hs]at q';dsimp only[bX];show cI _ _ _ [some (.ref a),some (.int (aM:Int)),some .ck,none,none] H1;refine qC false (λR r=>⟨_,rfl,_,rfl,r⟩) (λe=>by cases e) (λ_=>?_);refine qC (decide (aM≤aL.length)) (λR r=>?_) (λe=>?_) (λe=>?_)
     ·refine⟨_,rfl,a,RS,rfl,Sq.or gG,_,rfl,_,_,rfl,rfl,_,rfl,?_⟩;rw[show decide ((RS.length:Int)≥(aM:Int))=decide (aM≤aL.length) from decide_eq_decide.mpr (by lia)]
      exact r
     ·rw[aF]at e;dsimp only at q';rw[ae e]at q';refine⟨_,rfl,a,RS,rfl,Sq.or gG,_,_,rfl,rfl,⟨by decide,by decide⟩,?_⟩;dsimp only[bX];have e1:(RS.length:Int)/2=((aL.length/2:Nat):Int):=by lia
      have R1:=hR.sub (s:=aL.take (aL.length/2)) λr hr=>gy hr;have R2:=hR.sub (s:=aL.drop (aL.length/2)) λr hr=>gM hr;have n1:(aL.take (aL.length/2)).length=aL.length/2:=by rw[cB];lia
      have n2:(aL.drop (aL.length/2)).length=aL.length-aL.length/2:=da;have l1:=D1.qy (n:=n) (by lia) hc (by lia) R1;have l2:=D1.qy (n:=n) (by lia) hc (by lia) R2;have l3:=D1.DI aM c1 (by lia);have ew:([.w "then"]++(D1.du aM).aQ++[.w "beside"]++(D1.sumF n (aL.take (aL.length/2)) aM).aQ++(D1.sumF n (aL.drop (aL.length/2)) aM).aQ:List D1.Wd)=(D1.Dr.bc (D1.du aM) (.cC (D1.sumF n (aL.take (aL.length/2)) aM) (D1.sumF n (aL.drop (aL.length/2)) aM))).aQ:=by
       simp[D1.Dr.aQ]
      rw[← ew]at q';refine g7.tell (gi (gi (gi (gi jK ?_ ?_) jK ?_) ?_ ?_) ?_ ?_) (q'.mono s1)
      case refine_1=>exact Ko (fK rfl) c1 (by lia) (by lia)
      case refine_4=>exact tX (b:=b) (SK rfl gG qo (i8 rfl e1) (by lia)) (fK rfl) R1 hc (by lia) (by lia)
      case refine_6=>exact tX (b:=b) (SM rfl gG qo (i8 rfl e1) (by lia)) (fK rfl) R2 hc (by lia) (by lia)
      all_goals simp only[bY,eE,so];lia
     ·rw[aE]at e;dsimp only at q';rw[af e]at q';refine⟨_,rfl,_,_,rfl,rfl,⟨by decide,by decide⟩,?_⟩;dsimp only[bX];have e1:(aM:Int)/2=((aM/2:Nat):Int):=by lia
      have e2:(aM:Int)-(aM:Int)/2=((aM-aM/2:Nat):Int):=by lia
      have R1:=hR.take (k:=aM/2) (by lia);have R2:=D1.bo.drop (k:=aM/2) hR;have n1:(aL.map (·.take (aM/2))).length=aL.length:=aZ _;have n2:(aL.map (·.drop (aM/2))).length=aL.length:=aZ _;have l1:=D1.qy (n:=n) (by lia) (by lia) (by lia) R1;have l2:=D1.qy (n:=n) (by lia) (by lia) (by lia) R2;have l3:=D1.DJ aL.length c2 (by lia);have ew:([.w "then",.w "beside"]++(D1.sumF n (aL.map (·.take (aM/2))) (aM/2)).aQ++(D1.sumF n (aL.map (·.drop (aM/2))) (aM-aM/2)).aQ++(D1.dv aL.length).aQ:List D1.Wd)=(D1.Dr.bc (.cC (D1.sumF n (aL.map (·.take (aM/2))) (aM/2)) (D1.sumF n (aL.map (·.drop (aM/2))) (aM-aM/2))) (D1.dv aL.length)).aQ:=by
       simp[D1.Dr.aQ]
      rw[← ew]at q';show cI (dz _ (bX 3)) _ _ [some (.ref a),some (.int (aM:Int)),some .ck,none,some (.int ((aM:Int)/2))] H1;refine Kk (K:=K) (D1.sumF n (aL.map (·.take (aM/2))) (aM/2)).aQ ?_ λv H2 s2 hv=>?_
      ·refine tX (b:=true) (λH' s R r=>⟨_,rfl,a,rfl,⟨_,s.sq (b:=b) gG⟩,D5 (b:=b) (aN:=aL) (g:=(·.take (aM/2))) (cp:=[some (.int ((aM:Int)/2))]) (s.sq (b:=b) gG) (qo.mono s) (by lia) ?_ (λv H ZS sm hv hZ=>r v H ZS sm hv hZ)⟩) (i8 rfl e1) R1 (by lia) (by lia) (by lia);intro row ra H2 jv sm cV R r;have pk:=eV row jv;refine⟨_,rfl,_,rfl,_,rfl,ra,_,rfl,cV,λc H3 s3 hc=>?_⟩;rw[e1,Kw (by lia)]at hc;exact r c H3 s3 hc
      have gH:=s2.sq (b:=b) gG;have rO:=qo.mono s2;refine g7.tell (gi (gi (gi J9 (DQ rfl hv) ?_) ?_ ?_) ?_ ?_) (q'.mono (s1.trans s2))
      case refine_2=>
       refine tX (b:=true) (λH' s R r=>⟨_,rfl,a,rfl,⟨_,s.sq (b:=b) gH⟩,D5 (b:=b) (aN:=aL) (g:=(·.drop (aM/2))) (cp:=[some (.int ((aM:Int)/2))]) (s.sq (b:=b) gH) (rO.mono s) (by lia) ?_ (λv H ZS sm hv hZ=>r v H ZS sm hv hZ)⟩) (λH' s R r=>⟨_,rfl,_,rfl,_,_,rfl,rfl,?_⟩) R2 (by lia) (by lia) (by lia)
       ·intro row ra H2 jv sm cV R r;have pk:=eV row jv;refine⟨_,rfl,_,rfl,_,rfl,ra,_,rfl,cV,λc H3 s3 hc=>?_⟩;rw[e1,Kx (by lia)]at hc;exact r c H3 s3 hc
       ·rw[← e2]at r;exact r
      case refine_4=>
       refine Kq (λH' s R r=>⟨_,rfl,a,RS,rfl,Sq.or (s.sq (b:=b) gH),?_⟩) c2 (by lia) (by lia);rw[pq];exact r
      all_goals simp only[bY,eE,so];lia
    ·have gG:=s1.sq (b:=b) hq;have qo:=hA.mono s1;obtain⟨hk,ht,pH⟩:=D1.DF hs;unfold D1.iP at pH;rw[eX,eX,aH,aH]at pH;obtain⟨⟨c1,c2⟩,c3⟩:=pH;rw[hs]at q';dsimp only at q';have R1:=(hR.sub (s:=aL.take t) λr hr=>gy hr).take (k:=k) hk;have R2:=D1.bo.drop (k:=k) (hR.sub (s:=aL.drop t) λr hr=>gM hr);have n1:((aL.take t).map (·.take k)).length=t:=by rw[aZ,cB];lia
     have n2:((aL.drop t).map (·.drop k)).length=aL.length-t:=by rw[aZ,da]
     have l1:=D1.qy (n:=n) (by lia) (by lia) (by lia) R1;have l2:=D1.qy (n:=n) (by lia) (by lia) (by lia) R2;have ew:([.w "beside"]++(D1.sumF n ((aL.take t).map (·.take k)) k).aQ++(D1.sumF n ((aL.drop t).map (·.drop k)) (aM-k)).aQ:List D1.Wd)=(D1.Dr.cC (D1.sumF n ((aL.take t).map (·.take k)) k) (D1.sumF n ((aL.drop t).map (·.drop k)) (aM-k))).aQ:=by
      simp[D1.Dr.aQ]
     rw[← ew]at q';dsimp only[bX];show cI _ _ _ [some (.ref a),some (.int (aM:Int)),some (.ref v),none,none] H1;refine qC true (λR r=>⟨_,rfl,_,rfl,r⟩) (λ_=>?_) (λe=>by cases e);show cI (dz _ (bX 3)) _ _ [some (.ref a),some (.int (aM:Int)),some (.ref v),none,none] H1;refine Kk (K:=K) (D1.sumF n ((aL.take t).map (·.take k)) k).aQ ?_ λu H2 s2 hu=>?_
     ·refine tX (n:=n) (E:=E0) (p:=p) (b:=true) (K:=K) (σ:=[some (.ref a),some (.int (aM:Int)),some (.ref v),none,none]) (H:=H1) (aL:=(aL.take t).map (·.take k)) (aM:=k) (tl:=o7 (Sy b K (ib (D4 b K) (aY 0) iK (gS (bz (uH K) (aY 2) (tC (.int 1)))))) 1 [2] (bX 0) jC (ib (kr K) (aY 0) iK (gS (bz (uH K) (aY 1) (tC (.int 0)))))) (tk:=bz (uH K) (aY 2) (tC (.int 0))) (λH' s R r=>⟨_,rfl,_,rfl,v,_,1,.int (t:Int),rfl,rfl,s.bh hv,bw (j:=1) rfl,_,rfl,a,RS,rfl,s.sq (b:=b) gG,λc Hc sc hc=>⟨c,rfl,⟨_,hc⟩,?_⟩⟩) (λH' s R r=>⟨_,rfl,v,_,0,.int (k:Int),rfl,rfl,s.bh hv,bw (j:=0) rfl,r⟩) R1 (by lia) (by lia) (by lia);rw[CJ (by lia)]at hc;refine D5 (b:=b) (aN:=aL.take t) (g:=(·.take k)) (cp:=[some (.ref v)]) hc (bj.Ku (qo.mono (s.trans sc)) t) (by rw[cB];lia) ?_ (λv H ZS sm hv hZ=>r v H ZS (sc.trans sm) hv hZ);intro row ra H2 jv sm cV R r;have pk:=eV row (gy jv);refine⟨_,rfl,_,rfl,v,_,0,.int (k:Int),rfl,rfl,((s.trans sc).trans sm).bh hv,bw (j:=0) rfl,_,rfl,ra,_,rfl,cV,λc H3 s3 hc=>?_⟩;rw[Kw (by lia)]at hc;exact r c H3 s3 hc
     have gH:=s2.sq (b:=b) gG;have rO:=qo.mono s2;have lO:=s2.bh hv;refine g7.tell (gi (gi jK (DQ rfl hu) ?_) ?_ ?_) (q'.mono (s1.trans s2))
     case refine_2=>
      refine tX (b:=true) (aL:=(aL.drop t).map (·.drop k)) (aM:=aM-k) (λH' s R r=>⟨_,rfl,_,rfl,v,_,1,.int (t:Int),rfl,rfl,s.bh lO,bw (j:=1) rfl,_,rfl,a,RS,rfl,s.sq (b:=b) gH,λc Hc sc hc=>⟨c,rfl,⟨_,hc⟩,?_⟩⟩) (λH' s R r=>⟨_,rfl,_,rfl,v,_,0,.int (k:Int),rfl,rfl,s.bh lO,bw (j:=0) rfl,_,_,rfl,rfl,?_⟩) R2 (by lia) (by lia) (by lia)
      ·rw[CK (by lia)]at hc;refine D5 (b:=b) (aN:=aL.drop t) (g:=(·.drop k)) (cp:=[some (.ref v)]) hc (bj.Kv (rO.mono (s.trans sc)) t) (by rw[da];lia) ?_ (λv H ZS sm hv hZ=>r v H ZS (sc.trans sm) hv hZ);intro row ra H2 jv sm cV R r;have pk:=eV row (gM jv);refine⟨_,rfl,_,rfl,v,_,0,.int (k:Int),rfl,rfl,((s.trans sc).trans sm).bh lO,bw (j:=0) rfl,_,rfl,ra,_,rfl,cV,λc H3 s3 hc=>?_⟩;rw[Kx (by lia)]at hc;exact r c H3 s3 hc
      ·rw[show((aM-k:Nat):Int)=(aM:Int)-(k:Int) by lia]at r;exact r
     all_goals simp only[bY,eE,so];lia
theorem adx:(["place","rows"]:List Str).Nodup:=by decide +kernel
theorem ady:(["row","place"]:List Str).Nodup:=by decide +kernel
theorem adz{r:List Int}{j:Nat}(h:j<r.length):(r.map V.int)[j]?=some (.int (r.getD j 0)):=by
 rw[dU,cO,cf h];rfl
def SQ(K:Frag):Sp:=λvs H Q _=>∃(b:Bool)(a:Addr)(RS:List V)(rs:LL)(h:Nat)(i:Int),vs=[.ref a,.int i]∧i=h∧Sq b K H a RS∧bj K H RS (rs.map cj)∧rs.length≤1000∧h≤1000∧(∀r∈rs,r.length=h)∧
 ∀t H' DS,aK H H'→bf K H' t DS→bj K H' DS (((List.range h).map λi=>rs.map λr=>r.getD i 0).map cj)→Q (.ref t) H'
theorem adA:cT ["rows","length"] ["rows","length"] (bu Ct):=de rfl rfl rfl (by decide +kernel) rfl
theorem adB(F:cA K "columns" "columns" Ct f fd)(T:Txt mg):br P w K mg base bp 1 f fd ["rows","length"] (SQ K):=by
 refine F.ok adA (λvs H Q E h=>?_) (λbE A outer s H vs Q E hr h=>?_)
 ·obtain⟨b,a,RS,rs,h,i,rfl,_⟩:=h;rfl
 ·obtain⟨b,a,RS,rs,hh,i,rfl,rfl,hq,hA,hz,hn,hl,k⟩:=h;have i7:(1000:Nat)≤sizeLine:=by decide
  have eR:RS.length=rs.length:=by rw[hA.length,aZ]
  refine⟨_,bq (bV (gz (l6 K rfl) rfl T.tuple lJ (aJ (iV (N:=["place","rows"]) (own:=1) (caps:=[0]) rfl (qX rfl T.range (aJ (pv 1) aO)) (show dJ ["rows","length"] (bu Ct) ["place","rows"] 1 [0] _ from .mk' (by decide +kernel)) (λ_ _ _ _ _=>cx (i:=0) adx rfl (Or.inr rfl)) (λ_ _ _ _ _=>fq) (λ_ _ _ _ _=>gz (l6 K rfl) rfl T.tuple lJ (aJ (iV (N:=["row","place"]) (own:=1) (caps:=[0]) rfl (vp K rfl b (pv 1)) (show dJ ["place","rows"] _ ["row","place"] 1 [0] _ from .mk' (by kernel_rfl)) (λ_ _ _ _ _=>cx (i:=0) ady rfl (.inl rfl)) (λ_ _ _ _ _=>fq) (λ_ _ _ _ _=>bt (cH K rfl) (pv 0) (pv 1) (λ_ _=>rfl))) aO))) aO))),?_⟩
  refine⟨_,rfl,(hh:Int),rfl,by lia,by lia,Oe (n:=hh) (lo:=0) (cp:=[some (.ref a)]) (λi H' zs=>bj K H' zs (((List.range i).map λi=>rs.map λr=>r.getD i 0).map cj)) (by lia) .nil (λi H' zs h=>by rw[h.length,aZ,aZ,qL];exact cu _) ?_ ?_⟩
  ·rintro i H1 zs hi sm h;rw[jy];refine jc ⟨_,rfl,a,rfl,⟨_,sm.sq (b:=b) hq⟩,Ks (b:=b) (xs:=RS) (cp:=[some (.int (i:Int))]) (λk H' zs=>zs=((rs.map λr=>r.getD i 0).take k).map V.int) (sm.sq (b:=b) hq) (by lia) rfl (λk H' zs e=>by rw[e,aZ];exact uj _ _) ?_ ?_⟩
   ·rintro k' v H2 uL hv eh rfl;obtain⟨r,ra,fi,rfl,cV⟩:=jd hA hv;have pk:=hl r (cZ fi);refine jc ⟨_,rfl,_,rfl,ra,_,(i:Int),_,rfl,rfl,(sm.trans eh).bh cV,bw (adz (by rw[pk];exact hi)),⟨[_],rfl,rfl⟩,eh,?_⟩;rw[gK,dU,fi,dC];rfl
   ·rintro H2 uL eh rfl lq pF;rw[jM (by rw[aZ,eR];exact cu _)];refine⟨lq,_,rfl,.inl ⟨.of aV,λt ht=>?_⟩⟩;have zq:=eh.trans ((aK.upd pF (o:=.lst ((rs.map λr=>r.getD i 0).map V.int))).trans (aK.upd ht (o:=.tup ((rs.map λr=>r.getD i 0).map V.int))));refine⟨⟨[_],rfl,rfl⟩,sm.trans zq,?_⟩;rw[List.range_succ,dC,dC];exact(h.mono zq).append (.cons (kj (.of aV)) .nil)
  ·rintro H1 zs sm h lq pF;exact⟨lq,_,rfl,.inl ⟨.of aV,λt ht=>k t _ zs ((sm.trans (.upd pF)).trans (.upd ht)) (.of aV) (h.mono ((aK.upd pF).trans (.upd ht)))⟩⟩
noncomputable def e9(rs:LL)(n:Nat):LL:=(List.range n).map λi=>rs.map λr=>r.getD i 0
theorem D7(rs:LL)(n:Nat):(e9 rs n).length=n:=by unfold e9;rw[aZ,qL]
theorem D8(h:D1.bo p rs n):D1.bo p (e9 rs n) rs.length:=by
 intro c hc;unfold e9 at hc;obtain⟨i,hi,rfl⟩:=cP.mp hc;rw[jq]at hi;refine⟨aZ _,λa ha=>?_⟩;obtain⟨r,hr,rfl⟩:=cP.mp ha;obtain⟨hl,hb⟩:=h r hr;have e:r.getD i 0=r[i]'(by lia):=by rw[cO,cf (by lia)];rfl
 rw[e];exact hb _ (lj _)
noncomputable def iu(rs:LL)(l r:Nat):D1.Dr:=.bc (.back (D1.sumF 17 ((e9 rs (l+r)).take l) rs.length)) (D1.sumF 17 ((e9 rs (l+r)).drop l) rs.length)
def SR(K:Frag):Sp:=λvs H Q _=>∃(p:Int)(b:Bool)(a:Addr)(RS:List V)(rs:LL)(l r:Nat),vs=[.int p,.ref a,.int (l:Int),.int (r:Int)]∧Sq b K H a RS∧bj K H RS (rs.map cj)∧D1.bo p rs (l+r)∧rs.length<9∧l<9∧r<9∧
 oM K H (iu rs l r).aQ Q
theorem KC:cT ["p","rows","left","right","count","sums"] ["p","rows","left","right"] (bu IA):=de rfl rfl rfl (by decide +kernel) rfl
theorem adC{fC fS:Addr}{fH eS:FuncData}(F:cA K "drawn" "drawn" IA f fd)(T:Txt mg)
  (GC:br P w K mg base bp 1 fC fH ["rows","length"] (SQ K)) (kC:Kp K fC) (bC:Binds K fH ["rows","length"] []) (mC:Mg mg "columns" fC)
  (GS:br P w K mg base bp 62 fS eS ["sums","count"] (KA K 17)) (kS:Kp K fS) (bS:Binds K eS ["sums","count"] []) (mS:Mg mg "summing" fS) :
  br P w K mg base bp 63 f fd ["p","rows","left","right"] (SR K):=by
 refine F.ok KC (λvs H Q E h=>?_) (λbE A outer s H vs Q E hr h=>?_)
 ·obtain⟨p,b,a,RS,rs,l,r,rfl,_⟩:=h;rfl
 ·obtain⟨p,b,a,RS,rs,l,r,rfl,hq,hA,hR,hn,hl,hr9,q⟩:=h;have iM:dt 1 _:=hr.mono (by lia);have pq:RS.length=rs.length:=by rw[hA.length,aZ]
  refine⟨_,ba (bH (i:=4) KC.nd rfl (.inl rfl) (eG (gk K rfl) rfl T.len gm (aJ (pv 1) aO))) (ba (bH (i:=5) KC.nd rfl (.inl rfl) (bZ GC iM rfl mC kC bC .nil cb (aJ (pv 1) (aJ (aX eU (pv 2) (pv 3)) aO)))) (bq (bV (aX (dh K rfl) (aX (dh K rfl) (c7 (aJ cz (aJ cz aO))) (bZ GS hr rfl mS kS bS .nil cb (aJ (dD (tW K rfl false) (pv 5) dQ (dj (pv 2))) (aJ (pv 4) aO)))) (bZ GS hr rfl mS kS bS .nil cb (aJ (dD (tW K rfl false) (pv 5) (dj (pv 2)) dQ) (aJ (pv 4) aO))))))),?_⟩;refine⟨_,rfl,a,RS,rfl,Sq.or hq,?_⟩;dsimp only[bX];refine⟨_,rfl,_,rfl,_,rfl,_,_,rfl,rfl,b,a,RS,rs,l+r,_,rfl,by lia,hq,hA,by lia,by lia,λr hr=>(hR r hr).1,λt H1 DS s1 ht hD=>?_⟩;dsimp only[bX];have hC:=D8 hR;have nC:=D7 rs (l+r);have R1:=hC.sub (s:=(e9 rs (l+r)).take l) λr hr=>gy hr;have R2:=hC.sub (s:=(e9 rs (l+r)).drop l) λr hr=>gM hr;have n1:((e9 rs (l+r)).take l).length=l:=by rw[cB];lia
  have n2:((e9 rs (l+r)).drop l).length=r:=by rw[da];lia
  have l1:=D1.qy (n:=17) (by lia) hn (by lia) R1;have l2:=D1.qy (n:=17) (by lia) hn (by lia) R2;have ew:([.w "then",.w "back"]++(D1.sumF 17 ((e9 rs (l+r)).take l) rs.length).aQ++(D1.sumF 17 ((e9 rs (l+r)).drop l) rs.length).aQ:List D1.Wd)=(iu rs l r).aQ:=by
   simp[iu,D1.Dr.aQ]
  rw[← ew]at q;have e4:(RS.length:Int)=(rs.length:Int):=by lia
  refine g7.tell (gi (gi J9 ?_ ?_) ?_ ?_) (q.mono s1)
  case refine_1=>exact tX (b:=false) (SK (b:=false) rfl ht hD (fK rfl) (by show l≤(e9 rs (l+r)).length;lia)) (i8 rfl e4) R1 hn (by lia) (by lia)
  case refine_3=>exact tX (b:=false) (SM (b:=false) rfl ht hD (fK rfl) (by show l≤(e9 rs (l+r)).length;lia)) (i8 rfl e4) R2 hn (by lia) (by lia)
  all_goals simp only[bY,eE,so];lia
noncomputable def D9(l r:Nat)(x y:Fn):Fn:=λj=>if j<l then x j else if j<l+r then y (j-l)else 0
theorem Ea{j:Nat}(h:j<n):(e9 rs n)[j]?=some (rs.map λr=>r.getD j 0):=by
 unfold e9;rw[dU,List.getElem?_range h];rfl
theorem SS{l r:Nat}(hR:D1.bo p rs (l+r))(hn:rs.length<9)(hl:l<9)(hr:r<9) :
  (iu rs l r).wf p∧(iu rs l r).aU=(l,r)∧∀x y:Fn,D1.dH p (iu rs l r) x y↔Bw.Sp p (RS rs) (D9 l r x y):=by
 have hC:=D8 hR;have nC:=D7 rs (l+r);have n1:((e9 rs (l+r)).take l).length=l:=by rw[cB];lia
 have n2:((e9 rs (l+r)).drop l).length=r:=by rw[da];lia
 obtain⟨g1,w1⟩:=D1.kH (p:=p) 17 ((e9 rs (l+r)).take l) rs.length (by lia) (hC.sub λr hr=>gy hr);obtain⟨g2,w2⟩:=D1.kH (p:=p) 17 ((e9 rs (l+r)).drop l) rs.length (by lia) (hC.sub λr hr=>gM hr);have d1:=g1.1;have d2:=g2.1;rw[n1]at d1;rw[n2]at d2;refine⟨⟨w1,w2,?_⟩,?_,λx y=>?_⟩
 ·show(D1.sumF 17 ((e9 rs (l+r)).take l) rs.length).aU.1=(D1.sumF 17 ((e9 rs (l+r)).drop l) rs.length).aU.1;rw[d1,d2]
 ·show((D1.sumF 17 ((e9 rs (l+r)).take l) rs.length).aU.2,(D1.sumF 17 ((e9 rs (l+r)).drop l) rs.length).aU.2)=_;rw[d1,d2]
 ·rw[D1.J6];refine(D1.acM g1 g2 x y).trans ⟨?_,?_⟩
  ·rintro⟨z,h1,h2⟩;refine⟨z,λj=>?_⟩;unfold D9;by_cases hj:j<l
   ·rw[ae hj];exact h1 j _ (by rw[List.getElem?_take,ae hj,Ea (by lia)])
   ·rw[af hj];by_cases vh:j<l+r
    ·rw[ae vh]
     have:=h2 (j-l) (rs.map λr=>r.getD j 0) (by rw[si,show l+(j-l)=j by lia,Ea vh])
     exact this
    ·rw[af vh,D1.vf _ _ λa ha=>?_]
     ·exact .refl _ _
     ·obtain⟨q,hq,rfl⟩:=cP.mp ha
      have:=(hR q hq).1
      rw[cO,lC (by lia)];rfl
  ·rintro⟨z,hz⟩;refine⟨z,λj c hc=>?_,λj c hc=>?_⟩
   ·have hj:j<l:=by have:=(dB.mp hc).1;lia
    have e:=hz j;unfold D9 at e;rw[ae hj]at e;rw[List.getElem?_take,ae hj,Ea (by lia)]at hc;rw[← c8 hc];exact e
   ·have hj:j<r:=by have:=(dB.mp hc).1;lia
    have e:=hz (l+j);unfold D9 at e;rw[af (by lia),ae (by lia),show l+j-l=j by lia]at e;rw[si,Ea (by lia)]at hc;rw[← c8 hc];exact e
def SU(_K:Frag):Sp:=λvs H Q _=>∃(dk cl:Addr)(cs:List Int)(n:Nat),vs=[.ref dk]∧H dk=some (.lst [.ref cl,.int (n:Int)])∧H cl=some (.lst (cs.map V.int))∧cs.length≤63∧n≤1000∧
 ∀(c:Int) H',(∀b o,b≠dk→H b=some o→H' b=some o)→H' dk=some (.lst [.ref cl,.int ((n+1:Nat):Int)])→Q (.int c) H'
theorem KD:cT ["deck","cells","at"] ["deck"] (bu IK):=de rfl rfl rfl (by decide +kernel) rfl
theorem adD(F:cA K "_law_next" "_law_next" IK f fd)(T:Txt mg):br P w K mg base bp 1 f fd ["deck"] (SU K):=by
 refine F.ok KD (λvs H Q E h=>?_) (λbE A outer s H vs Q E hr h=>?_)
 ·obtain⟨dk,cl,cs,n,rfl,_⟩:=h;rfl
 ·obtain⟨dk,cl,cs,n,rfl,gd,gc,hl,hn,q⟩:=h;have SV:(cs.map V.int).length=cs.length:=aZ _;refine⟨_,ba (bH (i:=1) KD.nd rfl (.inl rfl) (bt (cU K rfl) (pv 0) aW (λ_ _=>rfl))) (ba (bH (i:=2) KD.nd rfl (.inl rfl) (bt (cU K rfl) (pv 0) aW (λ_ _=>rfl))) (ba (mK (aX eU (pv 2) aW) (Bc (pv 0) aW Bq)) (ba (cX (cM vQ (pv 2) (eG (gk K rfl) rfl T.len gm (aJ (pv 1) aO)) (cJ _)) (bq (bV (bt (cU K rfl) (pv 1) (pv 2) (λ_ _=>rfl)))) dy) (ba (cX (cM eO (eG (gk K rfl) rfl T.len gm (aJ (pv 1) aO)) aW (cJ _)) (bq (bV (aX eU (aX sE (aX sE (pv 2) (pv 2)) aW) (pv 2)))) dy) (bq (bV (aX eU (aX kd (bt (cU K rfl) (pv 1) (aX iC (pv 2) (eG (gk K rfl) rfl T.len gm (aJ (pv 1) aO))) (λ_ _=>rfl)) aW) (aX sE (pv 2) (pv 2))))))))),?_⟩;refine⟨_,rfl,dk,_,0,.ref cl,rfl,rfl,.of gd,bw (j:=0) rfl,_,rfl,dk,_,1,.int (n:Int),rfl,rfl,.of gd,bw (j:=1) rfl,?_⟩;refine⟨_,rfl,_,_,rfl,rfl,?_⟩;refine⟨_,rfl,dk,_,1,1,rfl,rfl,gd,rfl,?_⟩;have nc:cl≠dk:=λe=>by
   rw[e,gd]at gc;injection gc with gc;injection gc with gc;cases cs with
   |nil=>cases gc
   |cons x cs=>injection gc with g1 _;cases g1
  have xn:(upd H dk (.lst [.ref cl,.int ((n:Int)+1)])) dk=some (.lst [.ref cl,.int ((n+1:Nat):Int)]):=by rw[aV,sr];rfl
  have xu:(upd H dk (.lst [.ref cl,.int ((n:Int)+1)])) cl=some (.lst (cs.map V.int)):=by rw[cG nc];exact gc
  have sB:∀b o,b≠dk→H b=some o→(upd H dk (.lst [.ref cl,.int ((n:Int)+1)])) b=some o:=λb o hb e=>by rw[cG hb];exact e
  show cI _ _ _ _ (upd H dk (.lst [.ref cl,.int ((n:Int)+1)]));generalize upd H dk (.lst [.ref cl,.int ((n:Int)+1)])=H1 at xn xu sB ⊢;refine⟨_,rfl,_,rfl,cl,_,rfl,.inl (.of xu),_,_,rfl,rfl,_,rfl,uJ (λh=>?_) (λh=>?_)⟩
  ·have cR:n<cs.length:=by have:=aG h;lia
   exact⟨_,rfl,_,rfl,cl,_,(n:Int),_,rfl,rfl,.of xu,bw (jF cR),q _ H1 sB xn⟩
  ·have y2:cs.length≤n:=by
    have:¬(n:Int)<((cs.map V.int).length:Int):=λz=>h (aC z)
    lia
   refine⟨_,rfl,cl,_,rfl,.inl (.of xu),rfl,_,rfl,uJ (λh0=>?_) (λh0=>?_)⟩
   ·exact⟨_,rfl,_,rfl,_,_,rfl,rfl,.inl ⟨by lia,by lia⟩,_,_,rfl,rfl,.inr ⟨by decide,by decide⟩,_,rfl,_,_,rfl,rfl,q _ H1 sB xn⟩
   ·have Ji:0<cs.length:=by
     rcases Nat.eq_zero_or_pos cs.length with z|z
     ·exact absurd (aC (ai V.int (by lia))) h0
     ·exact z
    have hm1:=lR (n:Int) (show((cs.map V.int).length:Int)≠0 by lia);have hm2:=lS (n:Int) (show(0:Int)<((cs.map V.int).length:Int) by lia);obtain⟨k,hk⟩:∃k:Nat,(n:Int)%((cs.map V.int).length:Int)=(k:Int):=⟨((n:Int)%((cs.map V.int).length:Int)).toNat,by lia⟩;refine⟨_,rfl,_,rfl,_,rfl,cl,_,rfl,.inl (.of xu),_,_,rfl,rfl,(by show(0:Int)<((cs.map V.int).length:Int);lia),cl,_,(k:Int),_,rfl,ai V.int hk,.of xu,bw (jF (show k<cs.length by lia)),?_⟩;exact⟨_,_,rfl,rfl,⟨by decide,by decide⟩,_,rfl,_,rfl,_,_,rfl,rfl,.inl ⟨by lia,by lia⟩,_,_,rfl,rfl,q _ H1 sB xn⟩
theorem nl1:(["k","head","p","place","row"]:List Str).Nodup:=by decide +kernel
def Eb(_K:Frag):Sp:=λvs H Q _=>∃(p:Int)(a b:Addr)(x h:List Int)(n j:Nat)(i:Int),vs=[.int p,.ref a,.ref b,.int i]∧i=j∧2≤p∧p≤97∧n≤900∧j<n∧H a=some (.lst (x.map V.int))∧H b=some (.lst (h.map V.int))∧x.length=n∧h.length=n∧-100000≤x.getD j 0∧x.getD j 0≤100000∧
 ∀l H',aK H H'→H l=none→H' l=some (.lst ((gW p j h x).map V.int))→Q (.ref l) H'
theorem adE:cT ["p","row","head","place"] ["p","row","head","place"] (bu CG):=de rfl rfl rfl (by decide +kernel) rfl
theorem KG(F:cA K "_law_less" "_law_less" CG f fd)(T:Txt mg):br P w K mg base bp 1 f fd ["p","row","head","place"] (Eb K):=by
 refine F.ok adE (λvs H Q E h=>?_) (λbE A outer s H vs Q E hr h=>?_)
 ·obtain⟨p,a,b,x,h,n,j,i,rfl,_⟩:=h;rfl
 ·obtain⟨p,a,b,x,h,n,j,i,rfl,rfl,p2,je,hn,hj,ga,gb,hx,hh,afg,afh,k⟩:=h;have i7:(1000:Nat)≤sizeLine:=by decide
  refine⟨_,bq (bV (iV (N:=["k","head","p","place","row"]) (own:=1) (caps:=[2,0,3,1]) rfl (qX rfl T.range (aJ (eG (gk K rfl) rfl T.len gm (aJ (pv 1) aO)) aO)) (show dJ ["p","row","head","place"] (bu CG) ["k","head","p","place","row"] 1 [2,0,3,1] _ from .mk' (by decide +kernel)) (λ_ _ _ _ _=>cx (i:=0) nl1 rfl (.inl rfl)) (λ_ _ _ _ _=>fq) (λ_ _ _ _ _=>aX iC (aX iS (bt (cU K rfl) (pv 4) (pv 0) (λ_ _=>rfl)) (aX sE (bt (cU K rfl) (pv 4) (pv 3) (λ_ _=>rfl)) (bt (cU K rfl) (pv 1) (pv 0) (λ_ _=>rfl)))) (pv 2)))),?_⟩
  have ex:(x.map V.int).length=n:=by rw[aZ,hx]
  refine⟨_,rfl,a,_,rfl,.inl (.of ga),(((x.map V.int).length:Nat):Int),rfl,by lia,by rw[ex];lia,Oe (n:=(x.map V.int).length) (lo:=0) (cp:=[some (.ref b),some (.int p),some (.int (j:Int)),some (.ref a)]) (λi H' zs=>zs=((gW p j h x).take i).map V.int) (by rw[ex];lia) rfl (λi H' zs e=>by rw[e,aZ];exact uj _ _) ?_ ?_⟩
  ·rintro i H1 zs hi sm rfl;rw[ex]at hi;rw[jy];have BG:i<x.length:=by rw[hx];exact hi
   have SW:i<h.length:=by rw[hh];exact hi
   refine jc ⟨_,rfl,_,rfl,a,_,(i:Int),_,rfl,rfl,.of (sm _ _ ga),bw (jF BG),_,rfl,_,rfl,a,_,(j:Int),_,rfl,rfl,.of (sm _ _ ga),bw (jF (by rw[hx];exact hj)),_,rfl,_,rfl,b,_,(i:Int),_,rfl,rfl,.of (sm _ _ gb),bw (jF SW),_,_,rfl,rfl,.inl ⟨by lia,by lia⟩,_,_,rfl,rfl,_,rfl,_,_,rfl,rfl,(by show(0:Int)<p;lia),⟨[_],rfl,rfl⟩,sm,?_⟩;have e3:(gW p j h x)[i]?=some ((x.getD i 0-x.getD j 0*h.getD i 0)%p):=by
    unfold gW gP;rw[List.getElem?_zipWith,zf BG,zf SW];show some ((x.getD i 0 + -(x.getD j 0)*h.getD i 0)%p)=_;rw[Int.neg_mul,← Int.sub_eq_add_neg]
   rw[gK,e3];simp
  ·rintro H1 zs sm rfl lq pF;rw[ex,jM (by unfold gW gP;rw[List.length_zipWith,hx,hh];lia)];exact k lq _ (sm.trans (.upd pF)) (gp sm pF) aV
theorem SX(d:Int)(h0:0≤d)(h1:d<25):∃q,q∈cq∧nW (cq.map V.int) d=some (.int q):=by
 obtain⟨q,hq⟩:∃q,cq[d.toNat]?=some q:=⟨_,cf (show d.toNat<25 by lia)⟩;refine⟨q,cZ hq,?_⟩;rw[show d=((d.toNat:Nat):Int) by lia];exact bw (by rw[dU,hq];rfl)
def SY:Sp:=λvs H Q _=>∃c:Int,vs=[.int c]∧∀p H',p∈cq→aK H H'→Q (.int p) H'
theorem S6:cT ["cell","primes"] ["cell"] (bu IM):=de rfl rfl rfl (by decide +kernel) rfl
theorem adF(F:cA K "_law_prime" "_law_prime" IM f fd):br P w K mg base bp 1 f fd ["cell"] SY:=by
 refine F.ok S6 (λvs H Q E h=>?_) (λbE A outer s H vs Q E hr h=>?_)
 ·obtain⟨c,rfl,_⟩:=h;rfl
 ·obtain⟨c,rfl,q⟩:=h;refine⟨cI (dz (HG cq) (bX 1)) (gR (bz (nX K) (dN (bg (bz (nX K) (aY 1) (bz (rI (λ_ j=>0<j) λi j=>.int (i%j)) (bz (rI qY λi j=>.int (i/j)) (aY 0) (tC (.int 2))) (tC (.int 4)))) (bg (bz (nX K) (aY 1) (bz (rI (λ_ j=>0<j) λi j=>.int (i%j)) (bz (rI qY λi j=>.int (i/j)) (aY 0) (tC (.int 2))) (tC (.int 25)))) cm))) (bz (rI (λ_ j=>0<j) λi j=>.int (i%j)) (aY 0) (tC (.int 2))))),ba ?_ ?_,?_⟩
  ·refine bH ?_ ?_ ?_ ?_ ?_ ?_
   ·exact S6.nd
   ·rfl
   ·exact Or.inl rfl
   ·refine Oj ?_;exact Oi (by kernel_rfl)
   ·rfl
   ·exact .inl rfl
  ·refine bq ?_;refine bV ?_;refine bt ?_ ?_ ?_ ?_
   ·exact cU K rfl
   ·refine cE ?_;refine aJ ?_ ?_
    ·exact bt (cU K rfl) (pv 1) (aX iC (aX kd (pv 0) aW) aW) (λ_ _=>rfl)
    ·refine aJ ?_ aO;exact bt (cU K rfl) (pv 1) (aX iC (aX kd (pv 0) aW) aW) (λ_ _=>rfl)
   ·exact aX iC (pv 0) aW
   ·exact λ_ _=>rfl
  obtain⟨q1,m1,e1⟩:=SX (c/2%4) (by lia) (by lia);obtain⟨q2,m2,e2⟩:=SX (c/2%25) (by lia) (by lia);refine⟨(by show 25≤sizeLine;decide),λl hl=>?_⟩;dsimp only[bX];refine⟨_,rfl,_,rfl,_,_,rfl,rfl,⟨by decide,by decide⟩,_,_,rfl,rfl,(show(0:Int)<4 by decide),l,_,_,_,rfl,rfl,.of aV,e1,?_⟩;refine⟨_,rfl,_,rfl,_,_,rfl,rfl,⟨by decide,by decide⟩,_,_,rfl,rfl,(show(0:Int)<25 by decide),l,_,_,_,rfl,rfl,.of aV,e2,?_⟩;refine⟨(by show 2≤sizeLine;decide),λl2 By=>⟨_,rfl,_,_,rfl,rfl,(show(0:Int)<2 by decide),?_⟩⟩;have hc:c%2=0∨c%2=1:=by lia
  rcases hc with hc|hc
  ·exact⟨l2,_,_,.int q1,rfl,rfl,.of aV,by rw[hc];exact bw (j:=0) rfl,q q1 _ m1 ((aK.upd hl).trans (.upd By))⟩
  ·exact⟨l2,_,_,.int q2,rfl,rfl,.of aV,by rw[hc];exact bw (j:=1) rfl,q q2 _ m2 ((aK.upd hl).trans (.upd By))⟩
end S21
namespace PySem.SeqAt
open MeetsSeq AutoSeq1 SeqRoads2
def adG(s:Shared)(l:Addr)(its:Array Value)(n:Nat):Prop:=s.heap.get? l=some { cls:=.type "list",data:=.seq its n }
def S7(l:Addr)(its:Array Value)(n:Nat)(x:Value)(e:Value→Bool)(j:Nat):Spec:=λA R s=>
 adG s l its n∧(∀m (hm:m<its.size),m≤j→EqAt A.in1 s its[m] x (e its[m]))∧R (.ok (.ret .none)) { s with heap:=s.heap.update l (Obj.mapSeq λxs=>xs.eraseIdxIfInBounds j) }
theorem S8{l:Addr}{its:Array Value}{n:Nat}{x:Value}{e:Value→Bool}{j:Nat}(hj:j<its.size)(Ec:e its[j]=true)(hs:its.size≤sizeLine) :
  ∀k i:Nat,i+k=j→(∀m (hm:m<its.size),i≤m→m<j→e its[m]=false)→Meets (Builtin.«list.remove.loop» ⟨[.ref l,x,rawInt i],[]⟩) (S7 l its n x e j)
 |0,i,hk,_=>λprog w A R s z=>by
  obtain⟨h,gs,dn,tk,st⟩:=s;obtain⟨at_,eq,fin⟩:=z;obtain rfl:i=j:=by lia
  have at_:Heap.get? h l=some { cls:=.type "list",data:=.seq its n }:=at_
  (wp_walk using av at_)
  rw[show its[((i:Nat):Int).toNat]?=some its[i] by simp[hj]];refine aj (eq i hj (cu _) prog w _ _ ?_);have small:(its.eraseIdxIfInBounds i).size≤sizeLine+1:=hU (size_erased its _) (Nat.le_succ_of_le hs);rw[Ec];wp_walk using(wpAny_updateSeq at_ rfl (hz:=hs) (_hz':=small)),av at_
  simpa using fin
 |k+1,i,hk,nV=>λprog w A R s z=>by
  obtain⟨h,gs,dn,tk,st⟩:=s;obtain⟨at_,eq,fin⟩:=z;have hm:i<its.size:=by lia
  have xv:Heap.get? h l=some { cls:=.type "list",data:=.seq its n }:=at_
  (wp_walk using av xv)
  rw[show its[((i:Nat):Int).toNat]?=some its[i] by simp[hm]];refine aj (eq i hm (by lia) prog w _ _ ?_);rw[nV i hm (cu _) (by lia)];wp_walk
  rw[show((i:Int)+1)=((i+1:Nat):Int) by push_cast;rfl];have dM:=S8 (l:=l) (n:=n) (x:=x) hj Ec hs k (i+1) (by lia) (λm hm a b=>nV m hm (by lia) b) prog w A R _ ⟨at_,eq,fin⟩;refine⟨plainId_quiet plain_remove_loop _,codeAny_builtin entry_remove_loop ?_⟩;rw[Around.under_plainId plain_remove_loop _];exact dM
theorem adH(l:Addr)(its:Array Value)(n:Nat)(x:Value)(e:Value→Bool){j:Nat}(hj:j<its.size)(Ec:e its[j]=true)(nV:∀m (hm:m<its.size),m<j→e its[m]=false)(hs1:its.size≤sizeLine):Meets (Builtin.«list.remove» ⟨[.ref l,x],[]⟩) (S7 l its n x e j):=λprog w A R s z=>by
 obtain⟨h,gs,dn,tk,st⟩:=s;obtain⟨at_,eq,fin⟩:=z;have xv:Heap.get? h l=some { cls:=.type "list",data:=.seq its n }:=at_;have qU:=S8 (l:=l) (n:=n) (x:=x) hj Ec hs1 j 0 (uf _) (λm hm _ b=>nV m hm b) prog w A R _ ⟨at_,eq,fin⟩
 (wp_walk using av xv)
 refine⟨plainId_quiet plain_remove_loop _,codeAny_builtin entry_remove_loop ?_⟩;rw[Around.under_plainId plain_remove_loop _];exact qU
end PySem.SeqAt
namespace L2
open PySem PySem.Spec PyProof.Rows Bw PySem.SeqAt
theorem adI{A:Around}{s:Shared}{a b:Addr}{xs ys:List Value}{r h:List Int}(hu:A.units<cLine)(ha:s.heap.IsList a xs.toArray)(hb:s.heap.IsList b ys.toArray)(ra:Vals (r.map V.int) xs)(rb:Vals (h.map V.int) ys)(hl:r.length=h.length)(cS:r≠h) :
  EqAt A s (.ref a) (.ref b) false:=by
 have l1:=ra.length;have l2:=rb.length;rw[aZ]at l1 l2;have nab:a≠b:=λz=>by
  subst z;have e:xs=ys:=by
   obtain⟨o,g,_,n,d⟩:=ha;obtain⟨o',g',_,n',d'⟩:=hb;rw[g]at g';cases g';rw[d]at d';injection d' with d1;simpa using d1
  subst e;refine cS (List.ext_getElem? λi=>?_);by_cases hi:i<r.length
  ·obtain⟨u,nk,pL⟩:=ra.get (show(r.map V.int)[i]?=some (.int r[i]) by rw[dU,cf hi];rfl);obtain⟨v,xo,lO⟩:=rb.get (show(h.map V.int)[i]?=some (.int (h[i]'(hl▸hi))) by rw[dU,cf (hl▸hi)];rfl);rw[nk]at xo;cases xo;obtain⟨t,rfl⟩:=pL;obtain⟨t',e⟩:=lO;rw[cf hi,cf (hl▸hi)];injection e with e1;exact ai some e1
  ·rw[lC (by lia),lC (by lia)]
 have key:=RcAt.lists (A:=A) (s:=s) (e:=λj=>decide (r.getD j 0=h.getD j 0)) ha hb (by simp only[dR];lia) hu (λj h1 h2=>by
  simp only[dR]at h1 h2;obtain⟨u,nk,pL⟩:=ra.get (show(r.map V.int)[j]?=some (.int (r.getD j 0)) by rw[dU,cO,cf (show j<r.length by lia)];rfl);obtain⟨v,xo,lO⟩:=rb.get (show(h.map V.int)[j]?=some (.int (h.getD j 0)) by rw[dU,cO,cf (show j<h.length by lia)];rfl);obtain⟨t,rfl⟩:=pL;obtain⟨t',rfl⟩:=lO;have e1:xs.toArray[j]=.int (r.getD j 0) t:=by
   have:=(dB.mp nk).2
   simpa using this
  have e2:ys.toArray[j]=.int (h.getD j 0) t':=by
   have:=(dB.mp xo).2
   simpa using this
  rw[e1,e2];exact(MeetsSeq.EqGives.int _ _ _ _).at _ _)
 have z:((List.range xs.toArray.size).all λj=>decide (r.getD j 0=h.getD j 0))=false:=by
  cases hq:(List.range xs.toArray.size).all λj=>decide (r.getD j 0=h.getD j 0) with
  |false=>rfl
  |true=>
   refine absurd (List.ext_getElem? λi=>?_) cS;rw[jN]at hq;by_cases hi:i<r.length
   ·have:=aG (hq i (jq.mpr (by simp only[dR];lia)))
    rw[cO,cO,cf hi,cf (hl▸hi)]at this;rw[cf hi,cf (hl▸hi)];exact ai some this
   ·rw[lC (by lia),lC (by lia)]
 rw[z]at key;exact .of_refs nab key
def adJ:V→List V→Hp→VK→Prop:=λx vs H Q=>∃l xs L j a h,x=.ref l∧vs=[.ref a]∧H l=some (.lst xs)∧LR (λ_=>True) H xs L∧xs[j]?=some (.ref a)∧H a=some (.lst (h.map V.int))∧
 (∀i r,i<j→L[i]?=some r→r.length=h.length∧r≠h)∧Q .ck (upd H l (.lst (xs.eraseIdx j)))
open Classical in
theorem adK{X:Cx}(hu:X.A.units+2<cLine):Bu X "list.remove" adJ:=by
 intro aI s σ H x vs v us Q I rx rv h;obtain⟨l,xs,L,j,a,hd,rfl,rfl,hH,hL,hj,ga,cS,q⟩:=h;cases rx;obtain⟨u,rfl,ru⟩:=rv.one;cases ru;obtain⟨z,its,n,r,hl,e⟩:=I.uI hH;obtain⟨u',nk,pL⟩:=r.get hj;cases pL;have hjl:=(dB.mp nk).1;obtain⟨ys,rb,pb,_⟩:=I.list (.of ga);have at_:∀{m:Nat}(hm:m<its.toArray.size),its.toArray[m]=its[m]'(by simpa using hm):=λhm=>by simp
 refine aA F.slot_list_remove ⟨_,e,rfl⟩ F.entry_list_remove (F.args_list_remove_2 _ _)
  (adH l its.toArray n (.ref a) (λw=>decide (w=.ref a)) (j:=j) (by simpa using hjl) ?_ ?_ (by rw[dR];lia)) ⟨e,?_,?_⟩
 ·refine aC ?_;rw[at_];exact(dB.mp nk).2
 ·intro m hm KH;have zI:m<its.length:=by simpa using hm
  have tY:m<xs.length:=by lia
  obtain⟨r',fY⟩:∃r',L[m]?=some r':=⟨_,cf (by rw[← hL.1];exact tY)⟩;obtain⟨b,eb,_,gb⟩:=hL.2 m _ r' (cf tY) fY;obtain⟨w',Ed,Ee⟩:=r.get ((cf tY).trans (ai some eb));cases Ee;refine ab ?_;rw[at_ hm,(dB.mp Ed).2];intro z;injection z with z;subst z;rw[ga]at gb
  have:=(cS m r' KH fY).2
  injection gb with gb;injection gb with gb;exact this ((List.map_inj_right λx y e=>V.int.inj e).mp gb).symm
 ·intro m hm KH;have zI:m<its.length:=by simpa using hm
  have tY:m<xs.length:=by lia
  obtain⟨r',fY⟩:∃r',L[m]?=some r':=⟨_,cf (by rw[← hL.1];exact tY)⟩;obtain⟨b,eb,_,gb⟩:=hL.2 m _ r' (cf tY) fY;obtain⟨w',Ed,Ee⟩:=r.get ((cf tY).trans (ai some eb));cases Ee;rw[at_ hm,(dB.mp Ed).2];by_cases KI:b=a
  ·subst KI;dsimp only;rw[aC rfl];exact EqAt.same _
  ·dsimp only;rw[ab λz=>KI (by injection z)];have adL:m<j:=by
    rcases Nat.lt_or_eq_of_le KH with h|rfl
    ·exact h
    ·rw[cf tY,eb]at hj;injection hj with hj;injection hj with hj;exact absurd hj KI
   obtain⟨zs,rz,pz,_⟩:=I.list (.of gb);obtain⟨l1,l2⟩:=cS m r' adL fY;exact adI (by show X.A.units+1<cLine;lia) pz.isList pb.isList rz rb l1 l2
 ·refine⟨.ck,_,I.Bv (its':=its.eraseIdx j) hH e ?_ (r.eraseIdx j) ?_,rfl,q⟩
  ·show its.toArray.eraseIdxIfInBounds j=(its.eraseIdx j).toArray;rw[List.eraseIdxIfInBounds_toArray]
  ·have:=Nn xs j
   lia
end L2
namespace S21
open PySem L2 Bw
variable{H:Hp}{L:LL}{LS:List V}{N:Addr→Prop}{n:Nat}{p:Int}
theorem Ta:(["row"]:List Str).Nodup:=by decide +kernel
theorem nv1:(["row","p","place"]:List Str).Nodup:=by decide +kernel
theorem nv2:(["number","by","p"]:List Str).Nodup:=by decide +kernel
theorem Tb:(["row","head","p","place"]:List Str).Nodup:=by decide +kernel
def Rn(p:Int)(n:Nat)(r:List Int):Prop:=r.length=n∧∀x∈r,-p<x∧x<p
theorem Rn.at{r:List Int}(p0:0<p)(h:Rn p n r)(j:Nat):-p<r.getD j 0∧r.getD j 0<p:=by
 rw[cO];cases e:r[j]? with
 |none=>exact⟨by show -p<0;lia,by show 0<p;lia⟩
 |some x=>exact h.2 x (cZ e)
theorem Rn.of{r:List Int}(h:Rw p n r):Rn p n r:=⟨h.1,λx hx=>by have:=h.2 x hx;lia⟩
theorem _root_.L2.LR.weak{N':Addr→Prop}(h:LR N H LS L)(k:∀a,N a→N' a):LR N' H LS L:=⟨h.1,λi v r e1 e2=>by
 obtain⟨a,e,n,g⟩:=h.2 i v r e1 e2;exact⟨a,e,k a n,g⟩⟩
theorem _root_.L2.LR.get'{i:Nat}{v:V}(h:LR N H LS L)(e:LS[i]?=some v):∃a r,v=.ref a∧L[i]?=some r∧N a∧H a=some (.lst (r.map V.int)):=by
 have hi:i<L.length:=by rw[← h.1];exact(dB.mp e).1
 obtain⟨a,e2,n,g⟩:=h.2 i v _ e (cf hi);exact⟨a,_,e2,cf hi,n,g⟩
theorem _root_.L2.LR.del(h:LR N H LS L)(i:Nat):LR N H (LS.eraseIdx i) (L.eraseIdx i):=⟨by rw[x6,x6,h.1],λj v r e1 e2=>by
 rw[List.getElem?_eraseIdx]at e1 e2;split at e1
 ·rename_i hj
  rw[ae hj]at e2;exact h.2 j v r e1 e2
 ·rename_i hj
  rw[af hj]at e2;exact h.2 (j+1) v r e1 e2⟩
theorem Tc{la lh:Addr}{k:Nat}{h:List Int}{Q:VK}{te:TE}(p2:2≤p)(je:p≤97)(hn:n≤900)(hk:k<n)(g:H la=some (.lst LS))(hL:LR N H LS L)(hR:∀r∈L,Rn p n r)(gh:H lh=some (.lst (h.map V.int)))(hh:h.length=n)(hz:LS.length≤1000)
  (zk:∀(x:Addr)(H1:Hp)(R:VK),Eb K [.int p,.ref x,.ref lh,.int (k:Int)] H1 R (λ_ _ _=>False)→te [some (.ref x),some (.ref lh),some (.int p),some (.int (k:Int))] H1 R)
  (done:∀H' MS,aK H H'→LR (λa=>H a=none) H' MS (L.map (gW p k h))→∀l,H' l=none→Q (.ref l) (upd H' l (.lst MS))) :
  ∃W:Nat→Nat→St→Hp→List V→Prop,(∃m,W 0 m (List.replicate 1 none++[some (.ref lh),some (.int p),some (.int (k:Int))]) H [])∧jD (qe K la) (bX 0) jC te Q W:=by
 have i7:(1000:Nat)≤sizeLine:=by decide
 refine n9 (xs:=LS) (cp:=[some (.ref lh),some (.int p),some (.int (k:Int))]) (λi H' zs=>LR (λa=>H a=none) H' zs ((L.take i).map (gW p k h))) (.of g) (by lia) LR.nil
  (λi H' zs h=>by rw[h.1,aZ];exact uj _ _) ?_ ?_
 ·rintro i x H' zs gF sm h';obtain⟨a,r,rfl,hr,_,ga⟩:=hL.get' gF;have CP:=hR r (cZ hr);have hb:=CP.at (show 0<p by lia) k;refine jc (zk a H' _ ⟨p,a,lh,r,h,n,k,(k:Int),rfl,rfl,p2,je,hn,hk,sm _ _ ga,sm _ _ gh,CP.1,hh,by lia,by lia,λl H2 s2 w8 gl=>?_⟩);refine⟨⟨[_],rfl,rfl⟩,sm.trans s2,?_⟩;rw[gK,hr];show LR _ H2 _ ((L.take i++[r]).map (gW p k h));rw[dC];exact(h'.mono s2).snoc (gp sm w8) gl
 ·rintro H' zs sm h' l hl;rw[hL.1,lT]at h';exact done H' zs sm h' l hl
theorem adM{lo c k:Nat}{x:V}(h:((List.range c).map λ(i:Nat)=>V.int ((lo+i:Nat):Int))[k]?=some x):k<c∧x=V.int ((lo+k:Nat):Int):=by
 rw[dU]at h;by_cases hk:k<c
 ·rw[List.getElem?_range hk]at h;exact⟨hk,(c8 h).symm⟩
 ·rw[lC (by rw[qL];lia)]at h;cases h
def LA(K:Frag)(H:Hp)(XS:List V)(rs:LL):Prop:=XS.length=rs.length∧∀(i:Nat)(v:V)(r:List Int),XS[i]?=some v→rs[i]?=some r→∃a,v=.ref a∧(dq K H a (r.map V.int)∨bf K H a (r.map V.int))
theorem LA.get{K:Frag}{XS:List V}{rs:LL}{i:Nat}{v:V}(h:LA K H XS rs)(e:XS[i]?=some v):∃a r,v=.ref a∧rs[i]?=some r∧(dq K H a (r.map V.int)∨bf K H a (r.map V.int)):=by
 have hi:i<rs.length:=by rw[← h.1];exact(dB.mp e).1
 obtain⟨a,e2,g⟩:=h.2 i v _ e (cf hi);exact⟨a,_,e2,cf hi,g⟩
theorem LA.of{K:Frag}{N:Addr→Prop}{H:Hp}{XS:List V}{rs:LL}(h:LR N H XS rs):LA K H XS rs:=⟨h.1,λi v r e1 e2=>by
 obtain⟨a,e,_,g⟩:=h.2 i v r e1 e2;exact⟨a,e,.inl (.of g)⟩⟩
def Td(K:Frag):Sp:=λvs H Q _=>∃(p:Int)(a b:Addr)(XS:List V)(rs:LL)(n lo c:Nat),vs=[.int p,.ref a,.ref b]∧p∈cq∧H a=some (.lst XS)∧LA K H XS rs∧rs.length≤900∧n≤900∧(∀r∈rs,Rn p n r)∧lo+c≤n∧H b=some (.lst ((List.range c).map λ(i:Nat)=>V.int ((lo+i:Nat):Int)))∧
 ∀l f g FS GS H',aK H H'→H l=none→H' l=some (.lst [.ref f,.ref g])→H f=none→H' f=some (.lst FS)→LR (λa=>H a=none) H' FS (D1.fj p lo rs c).1→H g=none→H' g=some (.lst GS)→LR (λa=>H a=none) H' GS (D1.fj p lo rs c).2→Q (.ref l) H'
def KJ(_K:Frag):Sp:=λvs H Q _=>∃(p:Int)(a b:Addr)(XS:List V)(rs:LL)(n lo c:Nat),vs=[.int p,.ref a,.ref b]∧p∈cq∧H a=some (.lst XS)∧LR (λ_=>True) H XS rs∧rs.length≤900∧n≤900∧(∀r∈rs,Rn p n r)∧lo+c≤n∧H b=some (.lst ((List.range c).map λ(i:Nat)=>V.int ((lo+i:Nat):Int)))∧
 ∀l f g FS GS H',aK H H'→H l=none→H' l=some (.lst [.ref f,.ref g])→H f=none→H' f=some (.lst FS)→LR (λa=>H a=none) H' FS (D1.fj p lo rs c).1→H g=none→H' g=some (.lst GS)→LR (λa=>H a=none) H' GS (D1.fj p lo rs c).2→Q (.ref l) H'
noncomputable abbrev Ae:List Str:=["p","rows","places","left","found","place","some","head","by"]
theorem pM:cT ["p","rows","places","left","found","place","some","head","by"] ["p","rows","places"] (bu rH):=de rfl rfl rfl (by decide +kernel) rfl
theorem KL{p:Int}(pp:p∈cq){n lo:Nat}{rs:LL}(h:∀r∈rs,Rn p n r):∀c,(∀r∈(D1.fj p lo rs c).1,Rn p n r)∧(∀r∈(D1.fj p lo rs c).2,Rn p n r)∧(D1.fj p lo rs c).1.length≤c∧(D1.fj p lo rs c).2.length≤rs.length
 |0=>⟨λr hr=>(nomatch hr),h,cu _,cu _⟩
 |c+1=>by
  have p0:0<p:=by have:=fe p pp;lia
  obtain⟨i1,i2,i3,i4⟩:=KL pp (lo:=lo) h c;show(∀r∈(D1.jE p (lo+c) (D1.fj p lo rs c)).1,_)∧(∀r∈(D1.jE p (lo+c) (D1.fj p lo rs c)).2,_)∧(D1.jE p (lo+c) (D1.fj p lo rs c)).1.length≤_∧(D1.jE p (lo+c) (D1.fj p lo rs c)).2.length≤_;generalize D1.fj p lo rs c=s at i1 i2 i3 i4;obtain⟨D,T⟩:=s;unfold D1.jE;split
  ·exact⟨i1,i2,by lia,i4⟩
  ·rename_i i e
   obtain⟨hd,hi,h1,h2⟩:=D1.find_some e;dsimp only at hi i1 i2 i3 i4;dsimp only;rw[D1.DB hi];have sl:(D1.jk p (lo+c) hd).length=n:=by rw[D1.ve];exact(i2 hd (cZ hi)).1
   refine⟨λr hr=>?_,λr hr=>?_,by simp;lia,?_⟩
   ·rcases(dI.mp hr)with(hr|hr)
    ·obtain⟨q,hq,rfl⟩:=cP.mp hr;exact .of (yQ _ p0 (i1 q hq).1 sl)
    ·rw[dP.mp hr];exact .of (D1.acz p0 ((D1.ve (p:=p) (k:=lo+c)).symm.trans sl))
   ·obtain⟨q,hq,rfl⟩:=cP.mp hr;exact .of (yQ _ p0 (i2 q (x5 hq)).1 sl)
   ·have:=D1.ve (p:=p) (k:=0) (h:=[])
    rw[aZ,x6];split<;>lia
theorem Te{f fL:Addr}{fd oq:FuncData}(F:cA K "_law_cleared" "_law_cleared" rH f fd)(T:Txt mg)
  (GL:br P w K mg base bp 1 fL oq ["p","row","head","place"] (Eb K)) (kL:Kp K fL) (bL:Binds K oq ["p","row","head","place"] []) (mL:Mg mg "_law_less" fL) :
  br P w K mg base bp 2 f fd ["p","rows","places"] (Td K):=by
 refine F.ok pM (λvs H Q E h=>?_) (λbE A outer s H vs Q E hr h=>?_)
 ·obtain⟨p,a,b,XS,rs,n,lo,c,rfl,_⟩:=h;rfl
 ·obtain⟨p,a,b,XS,rs,n,lo,c,rfl,pp,ga,hX,hz,hn,hR,nh,gb,q⟩:=h;obtain⟨p2,je⟩:=fe p pp;have p0:0<p:=by lia
  have i7:(1000:Nat)≤sizeLine:=by decide
  have hu:=hr.units;have pL:=Nat.lt_of_le_of_lt (Nat.add_le_add_left (show 2≤64 by decide) _) hu;have hXl:=hX.1;refine⟨_,ba (kh (i:=3) (N:=["row"]) (own:=1) (caps:=[]) rfl pM.nd rfl rfl (iZ K rfl (pv 1)) (show dJ Ae (bu rH) ["row"] 1 [] _ from .mk' (by decide +kernel)) (λ_ _ _ _ _=>cx (i:=0) Ta rfl (.inl rfl)) (λ_ _ _ _ _=>fq) (λ_ _ _ _ _=>gz (yM K rfl) rfl T.list rp (aJ (pv 0) aO))) (ba (bH (i:=4) pM.nd rfl (.inl rfl) (cE aO)) (ba (kc lD rfl (iZ K rfl (pv 2)) (cx (i:=5) pM.nd rfl (Or.inr rfl)) (ba (kh (i:=6) (N:=["row","p","place"]) (own:=1) (caps:=[0,5]) rfl pM.nd rfl rfl (iZ K rfl (pv 3)) (show dJ Ae (bu rH) ["row","p","place"] 1 [0,5] _ from .mk' (by decide +kernel)) (λ_ _ _ _ _=>cx (i:=0) nv1 rfl (.inl rfl)) (λ_ _ _ _ _=>yE (cM qg (aX iC (bt (cU K rfl) (pv 0) (pv 2) (λ_ _=>rfl)) (pv 1)) aW (cJ _))) (λ_ _ _ _ _=>pv 0)) (bq (cX (cM (BW K rfl hu) (pv 6) (cE aO) (cJ _)) (ba (bH (i:=7) pM.nd rfl (Or.inr rfl) (bt (cU K rfl) (pv 6) aW (λ_ _=>rfl))) (ba (mH (qk p7 PySem.F.slot_list_remove PySem.F.type_list_remove (adK pL) (pv 3) (aJ (pv 7) aO))) (ba (bH (i:=8) pM.nd rfl (Or.inr rfl) aW) (ba (Xl lD (cM qg (aX iC (aX sE (pv 8) (bt (cU K rfl) (pv 7) (pv 5) (λ_ _=>rfl))) (pv 0)) aW (cJ _)) (bq (bH (i:=8) pM.nd rfl (Or.inr rfl) (aX eU (pv 8) aW)))) (ba (bH (i:=7) pM.nd rfl (Or.inr rfl) (iV (N:=["number","by","p"]) (own:=1) (caps:=[8,0]) rfl (iZ K rfl (pv 7)) (show dJ Ae (bu rH) ["number","by","p"] 1 [8,0] _ from .mk' (by decide +kernel)) (λ_ _ _ _ _=>cx (i:=0) nv2 rfl (.inl rfl)) (λ_ _ _ _ _=>fq) (λ_ _ _ _ _=>aX iC (aX sE (pv 0) (pv 1)) (pv 2)))) (ba (kh (i:=3) (N:=["row","head","p","place"]) (own:=1) (caps:=[7,0,5]) rfl pM.nd rfl rfl (iZ K rfl (pv 3)) (show dJ Ae (bu rH) ["row","head","p","place"] 1 [7,0,5] _ from .mk' (by decide +kernel)) (λ_ _ _ _ _=>cx (i:=0) Tb rfl (.inl rfl)) (λ_ _ _ _ _=>fq) (λ_ _ _ _ _=>bZ GL hr rfl mL kL bL .nil cb (aJ (pv 2) (aJ (pv 0) (aJ (pv 1) (aJ (pv 3) aO)))))) (bq (bH (i:=4) pM.nd rfl (.inl rfl) (aX eQ (iV (N:=["row","head","p","place"]) (own:=1) (caps:=[7,0,5]) rfl (iZ K rfl (pv 4)) (show dJ Ae (bu rH) ["row","head","p","place"] 1 [7,0,5] _ from .mk' (by decide +kernel)) (λ_ _ _ _ _=>cx (i:=0) Tb rfl (.inl rfl)) (λ_ _ _ _ _=>fq) (λ_ _ _ _ _=>bZ GL hr rfl mL kL bL .nil cb (aJ (pv 2) (aJ (pv 0) (aJ (pv 1) (aJ (pv 3) aO)))))) (cE (aJ (pv 7) aO)))))))))))
     dy)))) (bq (bV (cE (aJ (pv 4) (aJ (pv 3) aO))))))),?_⟩
  refine⟨_,rfl,a,rfl,⟨_,.of ga⟩,n9 (cp:=[]) (λi H' zs=>LR (λa=>H a=none) H' zs (rs.take i)) (.of ga) (by lia) LR.nil (λi H' zs h=>by rw[h.1];exact uj _ _) ?_ ?_⟩
  ·rintro i x H1 zs hx sm h1;obtain⟨ra,r,rfl,fi,gr⟩:=hX.get hx;refine jc ⟨_,rfl,ra,_,rfl,gr.elim (λz=>.inl (sm.seq z)) (λz=>.inr (sm.bh z)),λl hl=>⟨⟨[_],rfl,rfl⟩,sm.trans (.upd hl),?_⟩⟩;rw[gK,fi];exact(h1.mono (.upd hl)).snoc (gp sm hl) aV
  rintro H1 LS ky wm ll lK;rw[hXl,lT]at wm;refine⟨by decide,λld me=>?_⟩;have Af:ld≠ll:=λz=>by rw[z,aV]at me;cases me
  have eh:aK H (upd (upd H1 ll (.lst LS)) ld (.lst [])):=(ky.trans (.upd lK)).trans (.upd me);have Ag:H ld=none:=gp (ky.trans (.upd lK)) me;refine⟨_,rfl,b,rfl,⟨_,.of (eh _ _ gb)⟩,yo (xs:=(List.range c).map λ(i:Nat)=>V.int ((lo+i:Nat):Int)) (λk σ H'=>aK H H'∧∃(ll ld:Addr)(LS DS:List V)(s5 s6 s7 s8:Option V),σ=[some (.int p),some (.ref a),some (.ref b),some (.ref ll),some (.ref ld),s5,s6,s7,s8]∧H ll=none∧H ld=none∧ld≠ll∧H' ll=some (.lst LS)∧LR (λa=>a≠ll∧H a=none) H' LS (D1.fj p lo rs k).2∧H' ld=some (.lst DS)∧LR (λa=>a≠ll∧H a=none) H' DS (D1.fj p lo rs k).1) ⟨eh,ll,ld,LS,[],_,_,_,_,rfl,gp ky lK,Ag,Af,aK.upd me _ _ aV,?_,aV,LR.nil⟩ (λi σ H' _ ⟨sm,_⟩=>.of (sm _ _ gb)) ?_ ?_⟩
  ·refine((?_:LR (λa=>a≠ll∧H a=none) H1 LS rs).mono (.upd lK)).mono (.upd me);exact⟨wm.1,λi v r e1 e2=>by
    obtain⟨x,e,hx,gx⟩:=wm.2 i v r e1 e2;exact⟨x,e,⟨λz=>(by rw[z,lK]at gx;cases gx),hx⟩,gx⟩⟩
  ·rintro k x σ H2 hx ⟨sm,ll,ld,LS,DS,s5,s6,s7,s8,rfl,Ef,Ag,Af,gL,hL,gD,hD⟩;obtain⟨hk,rfl⟩:=adM hx;obtain⟨n1,n2,n3,n4⟩:=KL pp (lo:=lo) hR k;have SV:D1.fj p lo rs (k+1)=D1.jE p (lo+k) (D1.fj p lo rs k):=rfl;rw[SV];generalize D1.fj p lo rs k=st at hL hD n1 n2 n3 n4;obtain⟨D,L⟩:=st;dsimp only at hL hD n1 n2 n3 n4;have hLS:=hL.1;have hDS:=hD.1;have Ah:lo+k<n:=by lia
   generalize hkk:lo+k=kk at Ah ⊢;refine⟨_,rfl,ll,rfl,⟨_,.of gL⟩,n9 (cp:=[some (.int p),some (.int (kk:Int))]) (λj H' zs=>zs.length≤j∧((zs=[]∧∀m q,m<j→L[m]?=some q→(q.getD kk 0%p != 0)=false)∨∃i h v t M,i<j∧L[i]?=some h∧(h.getD kk 0%p != 0)=true∧(∀m q,m<i→L[m]?=some q→(q.getD kk 0%p != 0)=false)∧LS[i]?=some v∧zs=v::t∧LR (λ_=>True) H' zs M)) (.of gL) (by lia) ⟨cu _,.inl ⟨rfl,λm q hm=>absurd hm (by lia)⟩⟩ (λj H' zs h=>h.1) ?_ ?_⟩
   ·rintro j x H' zs hx iE ⟨hzl,hP⟩;obtain⟨ra,r,rfl,fY,_,gr⟩:=hL.get' hx;have hkr:kk<r.length:=by rw[(n2 r (cZ fY)).1];exact Ah
    refine⟨_,rfl,_,rfl,ra,_,(kk:Int),_,rfl,rfl,.of (iE _ _ gr),bw (jF hkr),_,rfl,_,_,rfl,rfl,p0,rfl,_,rfl,om (λcS=>?_) (λheq=>?_)⟩
    ·have hf:(r.getD kk 0%p != 0)=true:=by
      have:¬r.getD kk 0%p=0:=λz=>cS (ai V.int z)
      simpa using this
     refine⟨_,rfl,⟨[_],rfl,rfl⟩,iE,by rw[bY];show zs.length+1≤_;lia,.inr ?_⟩;rcases hP with⟨rfl,h0⟩|⟨i,h,v,t,M,hi,e1,e2,e3,e4,rfl,e6⟩
     ·exact⟨j,r,.ref ra,[],[r],by lia,fY,hf,h0,hx,rfl,LR.nil.snoc trivial (iE _ _ gr)⟩
     ·exact⟨i,h,v,t++[.ref ra],M++[r],by lia,e1,e2,e3,e4,rfl,e6.snoc trivial (iE _ _ gr)⟩
    ·have hf:(r.getD kk 0%p != 0)=false:=by
      have:r.getD kk 0%p=0:=V.int.inj heq
      simpa using this
     refine⟨⟨[_],rfl,rfl⟩,iE,by lia,?_⟩;rcases hP with⟨rfl,h0⟩|⟨i,h,v,t,M,hi,e1,e2,e3,e4,rfl,e6⟩
     ·refine .inl ⟨rfl,λm q hm hq=>?_⟩;by_cases e:m=j
      ·subst e;rw[fY]at hq;cases hq;exact hf
      ·exact h0 m q (by lia) hq
     ·exact .inr ⟨i,h,v,t,M,by lia,e1,e2,e3,e4,rfl,e6⟩
   rintro H3 zs iF ⟨_,hP⟩ ls jm;have jG:aK H2 (upd H3 ls (.lst zs)):=iF.trans (.upd jm);have g4:(upd H3 ls (.lst zs)) ls=some (.lst zs):=aV;have Tf:H2 ls=none:=gp iF jm;have afi:ls≠ll:=λz=>by rw[z,gL]at Tf;cases Tf
   rcases hP with⟨rfl,h0⟩|⟨i,h,v,t,M,hi,e1,e2,e3,e4,rfl,e6⟩
   ·
    generalize upd H3 ls (.lst [])=H4 at jG g4 ⊢;have ef:L.findIdx? (λr=>r.getD kk 0%p != 0)=none:=by
     rw[List.findIdx?_eq_none_iff];intro r hr;obtain⟨m,hm⟩:=List.getElem?_of_mem hr;exact h0 m r (by rw[hLS];exact(dB.mp hm).1) hm
    have Ai:D1.jE p kk (D,L)=(D,L):=by
     unfold D1.jE;dsimp only;rw[ef]
    rw[Ai];refine⟨_,rfl,by decide,λle iX=>⟨.list [],.list [],.list (.of (aK.upd iX _ _ g4)) .nil,.list (.of aV) .nil,rfl,rfl,_,rfl,BU rfl ?_⟩⟩;have fZ:=jG.trans (aK.upd iX (o:=.lst []));exact⟨sm.trans fZ,ll,ld,LS,DS,_,_,_,_,rfl,Ef,Ag,Af,fZ _ _ gL,hL.mono fZ,fZ _ _ gD,hD.mono fZ⟩
   ·
    have Tg:LR (λ_=>True) (upd H3 ls (.lst (v::t))) (v::t) M:=e6.mono (.upd jm);generalize upd H3 ls (.lst (v::t))=H4 at jG g4 Tg ⊢;have ef:L.findIdx? (λr=>r.getD kk 0%p != 0)=some i:=by
     rw[List.findIdx?_eq_some_iff_getElem];obtain⟨hiL,rfl⟩:=dB.mp e1;exact⟨hiL,e2,λj hj=>by rw[e3 j _ hj (cf (by lia))];decide⟩
    have Ai:D1.jE p kk (D,L)=(D.map (gW p kk (D1.jk p kk h))++[D1.jk p kk h],(L.eraseIdx i).map (gW p kk (D1.jk p kk h))):=by
     unfold D1.jE;dsimp only;rw[ef];dsimp only;rw[D1.DB e1]
    rw[Ai];refine⟨_,rfl,by decide,λle iX=>⟨.list (M.map Cb),.list [],.list (.of (aK.upd iX _ _ g4)) (Tg.mono (.upd iX)).has,.list (.of aV) .nil,aav M,rfl,_,rfl,abc ?_ ?_⟩⟩
    ·intro z;injection z with z
     have:=e6.1
     rw[List.length_eq_zero_iff.mpr (List.map_eq_nil_iff.mp z)]at this;cases this
    have fZ:=jG.trans (aK.upd iX (o:=.lst []));have g5:=aK.upd iX (o:=.lst []) _ _ g4;generalize upd H4 le (.lst [])=H5 at fZ g5 ⊢;obtain⟨ha,h',rfl,BH,⟨nha,nhH⟩,Th⟩:=hL.get' e4;rw[e1]at BH;cases BH;have pw:=n2 h (cZ e1);have hkh:kk<h.length:=by rw[pw.1];exact Ah
    refine⟨_,rfl,ls,_,0,.ref ha,rfl,rfl,.of g5,bw (j:=0) rfl,?_⟩;refine⟨_,rfl,.inl ⟨rfl,_,dq.of (fZ _ _ gL)⟩,_,rfl,ll,LS,L,i,ha,h,rfl,rfl,fZ _ _ gL,(hL.mono fZ).weak λ_ _=>trivial,e4,fZ _ _ Th,λm r hm fY=>⟨?_,?_⟩,?_⟩
    ·rw[pw.1,(n2 r (cZ fY)).1]
    ·rintro rfl
     have:=e3 m _ hm fY
     rw[e2]at this;cases this
    have ou:aK H (upd H5 ll (.lst (LS.eraseIdx i))):=(sm.trans fZ).write Ef;have gA:(upd H5 ll (.lst (LS.eraseIdx i))) ll=some (.lst (LS.eraseIdx i)):=aV;have Eg:(upd H5 ll (.lst (LS.eraseIdx i))) ha=some (.lst (h.map V.int)):=by rw[cG nha];exact fZ _ _ Th
    have Ti:LR (λa=>a≠ll∧H a=none) (upd H5 ll (.lst (LS.eraseIdx i))) (LS.eraseIdx i) (L.eraseIdx i):=⟨(hL.del i).1,λj v r z1 z2=>by
     obtain⟨x,e,nx,gx⟩:=(hL.del i).2 j v r z1 z2;exact⟨x,e,nx,by rw[cG nx.1];exact fZ _ _ gx⟩⟩
    have Tj:LR (λa=>a≠ll∧H a=none) (upd H5 ll (.lst (LS.eraseIdx i))) DS D:=⟨hDS,λj v r z1 z2=>by
     obtain⟨x,e,nx,gx⟩:=hD.2 j v r z1 z2;exact⟨x,e,nx,by rw[cG nx.1];exact fZ _ _ gx⟩⟩
    have KN:(upd H5 ll (.lst (LS.eraseIdx i))) ld=some (.lst DS):=by rw[cG Af];exact fZ _ _ gD
    generalize upd H5 ll (.lst (LS.eraseIdx i))=H6 at ou gA Eg Ti Tj KN ⊢;have h0:h.getD kk 0%p≠0:=by simpa using e2
    have sF:=D1.J0 pp h0;have Tn:D1.jk p kk h=h.map λx=>x*dO p (h.getD kk 0%p)%p:=rfl;have hbx:=pw.at p0 kk;have KO:(D1.jk p kk h).length=n:=by rw[D1.ve];exact pw.1
    generalize dO p (h.getD kk 0%p)=u at sF Tn;refine⟨λm σ H'=>∃bb:Int,H'=H6∧σ=[some (.int p),some (.ref a),some (.ref b),some (.ref ll),some (.ref ld),some (.int (kk:Int)),some (.ref ls),some (.ref ha),some (.int bb)]∧1≤bb∧bb≤u∧m=(u-bb).toNat,⟨_,1,rfl,rfl,by lia,by lia,rfl⟩,?_⟩;rintro m σ H' ⟨bb,rfl,rfl,b1,b2,rfl⟩;refine⟨_,rfl,_,rfl,_,rfl,ha,_,(kk:Int),_,rfl,rfl,.of Eg,bw (jF hkh),_,_,rfl,rfl,.inl ⟨by lia,by lia⟩,_,rfl,_,_,rfl,rfl,p0,rfl,_,rfl,om (λcS=>?_) (λheq=>?_)⟩
    ·have hbu:bb≠u:=λz=>cS (ai V.int (by rw[z];exact sF.2.2));refine⟨λσ' eT=>eT=H'∧σ'=[some (.int p),some (.ref a),some (.ref b),some (.ref ll),some (.ref ld),some (.int (kk:Int)),some (.ref ls),some (.ref ha),some (.int (bb+1))],?_,?_⟩
     ·rintro σ' eT ⟨rfl,rfl⟩;exact⟨(u-(bb+1)).toNat,by lia,bb+1,rfl,rfl,by lia,by lia,rfl⟩
     ·exact⟨_,rfl,_,_,rfl,rfl,rfl,rfl⟩
    obtain rfl:bb=u:=Pw p0 (V.int.inj heq) sF.2.2 (by lia) (by lia) (by lia) sF.2.1;refine⟨_,rfl,ha,rfl,⟨_,.of Eg⟩,n9 (cp:=[some (.int bb),some (.int p)]) (λj H' zs=>zs=((h.take j).map λy=>y*bb%p).map V.int) (.of Eg) (by rw[aZ,pw.1];lia) rfl (λj H' zs e=>by rw[e,aZ,aZ];exact uj _ _) ?_ ?_⟩
    ·rintro j y eT zs hy iE rfl;rw[dU]at hy;cases f1:h[j]? with
     |none=>rw[f1]at hy;cases hy
     |some y'=>
      rw[f1]at hy;cases hy;refine jc ⟨_,rfl,_,rfl,_,_,rfl,rfl,.inr ⟨by lia,by lia⟩,_,rfl,_,_,rfl,rfl,p0,⟨[_],rfl,rfl⟩,iE,?_⟩;rw[gK,f1];simp
    rintro HA zs To rfl lh tG;rw[aZ,lT,← Tn];generalize D1.jk p kk h=hd at KO ⊢;have ow:aK H' (upd HA lh (.lst (hd.map V.int))):=To.trans (.upd tG);have gC:(upd HA lh (.lst (hd.map V.int))) lh=some (.lst (hd.map V.int)):=aV;have lhH:H lh=none:=gp (ou.trans To) tG;generalize upd HA lh (.lst (hd.map V.int))=HC at ow gC ⊢;have hRE:∀r∈L.eraseIdx i,Rn p n r:=λr hr=>n2 r (x5 hr);refine⟨_,rfl,ll,rfl,⟨_,.of (ow _ _ gA)⟩,Tc p2 je hn Ah (ow _ _ gA) (Ti.mono ow) hRE gC KO (by rw[x6];split<;>lia) (λx H1 R z=>⟨_,rfl,_,rfl,_,rfl,_,rfl,z⟩) ?_⟩
    rintro HD MS Eh hM lm og;have vt:aK H' (upd HD lm (.lst MS)):=(ow.trans Eh).trans (.upd og);have gE:(upd HD lm (.lst MS)) lm=some (.lst MS):=aV;have KP:(upd HD lm (.lst MS)) lh=some (.lst (hd.map V.int)):=aK.upd og _ _ (Eh _ _ gC);have Tp:LR (λa=>a≠lm∧H a=none) (upd HD lm (.lst MS)) MS ((L.eraseIdx i).map (gW p kk hd)):=⟨hM.1,λj v r z1 z2=>by
     obtain⟨x,e,nx,gx⟩:=hM.2 j v r z1 z2
     have:x≠lm:=λz=>by rw[z,og]at gx;cases gx
     exact⟨x,e,⟨this,gp (ou.trans ow) nx⟩,by rw[cG this];exact gx⟩⟩
    have lmH:H lm=none:=gp ((ou.trans ow).trans Eh) og;have adN:lh≠lm:=λz=>by
     have:=Eh _ _ gC
     rw[z,og]at this;cases this
    generalize upd HD lm (.lst MS)=HE at vt gE KP Tp ⊢;refine⟨_,rfl,ld,rfl,⟨_,.of (vt _ _ KN)⟩,Tc p2 je hn Ah (vt _ _ KN) (Tj.mono vt) n1 KP KO (by lia) (λx H1 R z=>⟨_,rfl,_,rfl,_,rfl,_,rfl,z⟩) ?_⟩;rintro HF NS Tq hN l1 h1;have hNl:=hN.1;rw[aZ]at hNl;refine⟨_,rfl,(by show 1≤sizeLine;lia),λl2 h2=>⟨l1,l2,NS,[.ref lh],rfl,rfl,aK.upd h2 _ _ aV,aV,by show NS.length+1≤sizeLine;lia,λl3 h3=>?_⟩⟩;have Ei:aK HE (upd (upd (upd HF l1 (.lst NS)) l2 (.lst [.ref lh])) l3 (.lst (NS++[.ref lh]))):=(Tq.trans (.upd h1)).trans ((aK.upd h2).trans (.upd h3));have smH:=vt.trans Ei;have KQ:HE l3=none:=gp (Tq.trans ((aK.upd h1).trans (aK.upd h2))) h3;have ne3:l3≠lm:=λz=>by rw[z,gE]at KQ;cases KQ
    have hN2:LR (λa=>a≠lm∧H a=none) HF NS (D.map (gW p kk hd)):=⟨hN.1,λi v r e1 e2=>by
     obtain⟨x,e,hx,gx⟩:=hN.2 i v r e1 e2;have nx:x≠lm:=λz=>by rw[z,gE]at hx;cases hx
     exact⟨x,e,⟨nx,gp (ou.trans vt) hx⟩,gx⟩⟩
    refine⟨ou.trans smH,lm,l3,MS,NS++[.ref lh],_,_,_,_,rfl,lmH,gp (ou.trans vt) KQ,ne3,Ei _ _ gE,Tp.mono Ei,aV,?_⟩;exact(hN2.mono ((aK.upd h1).trans ((aK.upd h2).trans (.upd h3)))).snoc ⟨adN,lhH⟩ (Ei _ _ KP)
  ·rintro σ H2 ⟨sm,ll,ld,LS,DS,s5,s6,s7,s8,rfl,Ef,Ag,Af,gL,hL,gD,hD⟩;rw[aZ,qL]at hL hD;refine⟨_,rfl,_,rfl,by show 2≤sizeLine;decide,λl hl=>?_⟩;exact q l ld ll DS LS _ (sm.trans (.upd hl)) (gp sm hl) aV Ag (aK.upd hl _ _ gD) ((hD.mono (.upd hl)).weak λ_ z=>z.2) Ef (aK.upd hl _ _ gL) ((hL.mono (.upd hl)).weak λ_ z=>z.2)
theorem Tr{f fL:Addr}{fd oq:FuncData}(F:cA K "_law_cleared" "_law_cleared" rH f fd)(T:Txt mg)
  (GL:br P w K mg base bp 1 fL oq ["p","row","head","place"] (Eb K)) (kL:Kp K fL) (bL:Binds K oq ["p","row","head","place"] []) (mL:Mg mg "_law_less" fL) :
  br P w K mg base bp 2 f fd ["p","rows","places"] (KJ K):=(Te F T GL kL bL mL).imp λvs H Q E h=>by
 obtain⟨p,a,b,XS,rs,n,lo,c,e,pp,ga,hX,r⟩:=h;exact⟨p,a,b,XS,rs,n,lo,c,e,pp,ga,.of hX,r⟩
end S21
namespace L2
open PySem PySem.Spec PyProof.Rows
namespace Rv
end Rv
section
variable{prog:Program}{w:World}{A:Around}{E:QV}{s:Shared}
end
section
variable{prog:Program}{w:World}{A:Around}{E:QV}{s:Shared}{R:Result→Shared→Prop}
end
end L2
namespace L2
open PySem PySem.Spec PyProof.Rows
end L2
namespace S21
open PySem L2 Bw
variable{H:Hp}{Q:VK}{a b f fC:Addr}{fd fH:FuncData}{i:Nat}{ns:List Int}{tb tk:TE}
theorem KR{X:Cx}:iB X (.type "range") (λxs H Q=>∃j:Int,xs=[.int j]∧∀p,H p=none→Q (.ref p) (upd H p (.mz 0 j))):=by
 intro aI s σ H vs us Q I r h;obtain⟨j,rfl,q⟩:=h;obtain⟨u,rfl,ru⟩:=vals1 r;obtain⟨t,rfl⟩:=ru;refine call_range_1 ?_;exact⟨.ref _,_,I.laid (t':=_) (o:=.mz 0 j) (λb o e=>dS _ e) (cu _) ⟨_,_,_,iA _ rfl⟩,rfl,q _ I.fresh⟩
theorem Ej(lo c:Nat):((List.range (((lo+c:Nat):Int)-(lo:Int)).toNat).map λ(k:Nat)=>V.int ((lo:Int)+k))=(List.range c).map λ(i:Nat)=>V.int ((lo+i:Nat):Int):=by
 rw[show(((lo+c:Nat):Int)-(lo:Int)).toNat=c by lia];exact sk λk _=>by rw[sr]
def Ts(K:Frag):Sp:=λvs H Q _=>∃(p:Int)(a:Addr)(XS:List V)(rs:LL)(n:Nat),vs=[.int p,.ref a,.int (n:Int)]∧p∈cq∧H a=some (.lst XS)∧LR (λ_=>True) H XS rs∧rs.length≤900∧n≤900∧Bw.bo p n rs∧
 ∀t H' DS,aK H H'→bf K H' t DS→bj K H' DS ((cD p rs).map cj)→Q (.ref t) H'
theorem adO:cT ["p","rows","size"] ["p","rows","size"] (bu CH):=de rfl rfl rfl (by decide +kernel) rfl
theorem adP(F:cA K "_law_reduced" "_law_reduced" CH f fd)(T:Txt mg)
  (GC:br P w K mg base bp 2 fC fH ["p","rows","places"] (KJ K)) (kC:Kp K fC) (bC:Binds K fH ["p","rows","places"] []) (mC:Mg mg "_law_cleared" fC) :
  br P w K mg base bp 3 f fd ["p","rows","size"] (Ts K):=by
 refine F.ok adO (λvs H Q E h=>?_) (λbE A outer s H vs Q E hr h=>?_)
 ·obtain⟨p,a,XS,rs,n,rfl,_⟩:=h;rfl
 ·obtain⟨p,a,XS,rs,n,rfl,pp,ga,hX,hz,hn,hR,q⟩:=h;have i7:(1000:Nat)≤sizeLine:=by decide
  refine⟨_,bq (bV (gz (l6 K rfl) rfl T.tuple lJ (aJ (iV (N:=["row"]) (own:=1) (caps:=[]) rfl (iZ K rfl (bt (cU K rfl) (bZ GC hr rfl mC kC bC .nil cb (aJ (pv 0) (aJ (pv 1) (aJ (gz (BM rfl) rfl T.list rp (aJ (gz KR rfl T.range BY (aJ (pv 2) aO)) aO)) aO)))) aW (λ_ _=>rfl))) (show dJ ["p","rows","size"] (bu CH) ["row"] 1 [] _ from .mk' (by decide +kernel)) (λ_ _ _ _ _=>cx (i:=0) Ta rfl (.inl rfl)) (λ_ _ _ _ _=>fq) (λ_ _ _ _ _=>gz (l6 K rfl) rfl T.tuple lJ (aJ (pv 0) aO))) aO))),?_⟩
  refine⟨_,rfl,_,rfl,_,rfl,(n:Int),rfl,λpr vw=>⟨pr,0,(n:Int),rfl,aV,⟨by decide,by decide,by lia,by lia⟩,by lia,λll lK=>?_⟩⟩;have sm:=(aK.upd vw (o:=.mz 0 (n:Int))).trans (aK.upd lK (o:=.lst ((List.range ((n:Int)-0).toNat).map λ(k:Nat)=>V.int (0+k))));refine⟨p,a,ll,XS,rs,n,0,n,rfl,pp,sm _ _ ga,hX.mono sm,hz,hn,λr hr=>.of (hR r hr),by lia,?_,?_⟩
  ·rw[aV]
   have:=Ej 0 n
   rw[uf]at this;exact ai (λz=>some (HO.lst z)) this
  intro l fa ga' FS GS H1 s1 hl gl hf gf hF _ _ _;rw[D1.zH pp hR]at hF;have Tt:=hF.1;have afj:(cD p rs).length≤n:=by
   rw[← D1.zH pp hR];exact(D1.zG pp hR n (cu _)).len (cu _)
  refine⟨l,_,0,.ref fa,rfl,rfl,.of gl,bw (j:=0) rfl,fa,rfl,⟨_,.of gf⟩,n9 (cp:=[]) (λi H' zs=>bj K H' zs (((cD p rs).take i).map cj)) (.of gf) (by lia) .nil (λi H' zs h=>by rw[fg h];exact uj _ _) ?_ ?_⟩
  ·rintro i x H3 zs hx iF h3;obtain⟨ra,r,rfl,fY,_,gr⟩:=hF.get' hx;refine jc ⟨_,rfl,ra,_,rfl,.inl ⟨.of (iF _ _ gr),λt ht=>⟨⟨[_],rfl,rfl⟩,iF.trans (.upd ht),?_⟩⟩⟩;rw[gK,fY];show bj K _ _ (((cD p rs).take i++[r]).map cj);rw[dC];exact(h3.mono (.upd ht)).append (.cons (kj (.of aV)) .nil)
  ·rintro H3 TS iF h3 lt cR;rw[Tt,lT]at h3;refine⟨lt,_,rfl,.inl ⟨.of aV,λt ht=>q t _ TS (((sm.trans s1).trans iF).trans ((aK.upd cR).trans (.upd ht))) (.of aV) (h3.mono ((aK.upd cR).trans (.upd ht)))⟩⟩
open Classical in
def Tu(K:Frag):Sp:=λvs H Q _=>∃(p:Int)(a b:Addr)(AS:List V)(rs:LL)(r:List Int)(n:Nat),vs=[.int p,.ref a,.ref b]∧p∈cq∧bf K H a AS∧bj K H AS (rs.map cj)∧bf K H b (r.map V.int)∧Bw.bo p n rs∧Rw p n r∧cD p rs=rs∧rs.length≤400∧n≤400∧
 ∀H',aK H H'→Q (.bl (decide (Bw.Sp p (RS rs) (fn r)))) H'
theorem Tv:cT ["p","rows","row","size"] ["p","rows","row"] (bu IX):=de rfl rfl rfl (by decide +kernel) rfl
theorem Tw{p:Int}{n:Nat}{rs:LL}{r:List Int}(pp:p∈cq)(hR:Bw.bo p n rs)(hr:Rw p n r)(one:cD p rs=rs):(cD p (rs++[r])).length=rs.length↔Bw.Sp p (RS rs) (fn r):=by
 constructor
 ·intro h;refine FF λhn=>?_
  have:=abb pp hR hr hn
  rw[one]at this;lia
 ·intro h;have e:cD p (rs++[r])=cD p rs:=tu.red pp (bo.snoc hR hr) hR ⟨λq hq=>by
   rcases(dI.mp hq)with(z|z)
   ·exact md z
   ·rw[dP.mp z];exact h,λq hq=>md (nR _ hq)⟩
  rw[e,one]
theorem adQ(F:cA K "_law_spans" "_law_spans" IX f fd)(T:Txt mg)
  (GC:br P w K mg base bp 2 fC fH ["p","rows","places"] (Td K)) (kC:Kp K fC) (bC:Binds K fH ["p","rows","places"] []) (mC:Mg mg "_law_cleared" fC) :
  br P w K mg base bp 3 f fd ["p","rows","row"] (Tu K):=by
 refine F.ok Tv (λvs H Q E h=>?_) (λbE A outer s H vs Q E hr h=>?_)
 ·obtain⟨p,a,b,AS,rs,r,n,rfl,_⟩:=h;rfl
 ·obtain⟨p,a,b,AS,rs,r,n,rfl,pp,ha,hA,hb,hR,jv,one,lr,ln,q⟩:=h;have i7:(1000:Nat)≤sizeLine:=by decide
  have eA:=fg hA;have er:(r.map V.int).length=n:=by rw[aZ];exact jv.1
  refine⟨_,ba (bH (i:=3) Tv.nd rfl (.inl rfl) (eG (gk K rfl) rfl T.len gm (aJ (pv 2) aO))) (bq (bV (Gf eO (eG (gk K rfl) rfl T.len gm (aJ (bt (cU K rfl) (bZ GC hr rfl mC kC bC .nil cb (aJ (pv 0) (aJ (aX eQ (gz (yM K rfl) rfl T.list rp (aJ (pv 1) aO)) (cE (aJ (gz (yM K rfl) rfl T.list rp (aJ (pv 2) aO)) aO))) (aJ (gz (BM rfl) rfl T.list rp (aJ (gz KR rfl T.range BY (aJ (pv 3) aO)) aO)) aO)))) aW (λ_ _=>rfl)) aO)) (eG (gk K rfl) rfl T.len gm (aJ (pv 1) aO)) (cJ _)))),?_⟩;refine⟨_,rfl,b,_,rfl,.inr hb,?_⟩;rw[er];refine⟨_,rfl,_,rfl,a,_,rfl,.inr ha,λl1 h1=>⟨_,rfl,b,_,rfl,.inr ((aK.upd h1).bh hb),λl2 h2=>⟨by show 1≤sizeLine;lia,λl3 h3=>⟨l1,l3,AS,[.ref l2],rfl,rfl,aK.upd h3 _ _ (aK.upd h2 _ _ aV),aV,by show AS.length+1≤sizeLine;lia,λl4 h4=>?_⟩⟩⟩⟩;have s4:=(aK.upd h1 (o:=.lst AS)).trans ((aK.upd h2 (o:=.lst (r.map V.int))).trans ((aK.upd h3 (o:=.lst [.ref l2])).trans (aK.upd h4 (o:=.lst (AS++[.ref l2])))));have g4:(upd (upd (upd (upd H l1 (.lst AS)) l2 (.lst (r.map V.int))) l3 (.lst [.ref l2])) l4 (.lst (AS++[.ref l2]))) l4=some (.lst (AS++[.ref l2])):=aV;have Tx:(upd (upd (upd (upd H l1 (.lst AS)) l2 (.lst (r.map V.int))) l3 (.lst [.ref l2])) l4 (.lst (AS++[.ref l2]))) l2=some (.lst (r.map V.int)):=aK.upd h4 _ _ (aK.upd h3 _ _ aV);generalize upd (upd (upd (upd H l1 (.lst AS)) l2 (.lst (r.map V.int))) l3 (.lst [.ref l2])) l4 (.lst (AS++[.ref l2]))=H4 at s4 g4 Tx ⊢;refine⟨_,rfl,(n:Int),rfl,λpr vw=>⟨pr,0,(n:Int),rfl,aV,⟨by decide,by decide,by lia,by lia⟩,by lia,λlp uY=>?_⟩⟩;have s5:=(aK.upd vw (o:=.mz 0 (n:Int))).trans (aK.upd uY (o:=.lst ((List.range ((n:Int)-0).toNat).map λ(k:Nat)=>V.int (0+k))));have KS:=s4.trans s5;have hL:LA K (upd (upd H4 pr (.mz 0 (n:Int))) lp (.lst ((List.range ((n:Int)-0).toNat).map λ(k:Nat)=>V.int (0+k)))) (AS++[.ref l2]) (rs++[r]):=by
   refine⟨by rw[bY,bY,eA];rfl,λi v r' e1 e2=>?_⟩;by_cases hi:i<AS.length
   ·rw[ia hi]at e1;rw[ia (by lia)]at e2;obtain⟨r0,ra,fi,rfl,cV⟩:=jd hA e1;rw[fi]at e2;cases e2;exact⟨ra,rfl,.inr (KS.bh cV)⟩
   ·rw[iI (by lia)]at e1;rw[iI (by lia),← eA]at e2;cases hk:i-AS.length with
    |zero=>
     rw[hk]at e1 e2;cases e1;cases e2;exact⟨l2,rfl,.inl (.of (s5 _ _ Tx))⟩
    |succ k=>rw[hk]at e1;cases e1
  have Tz:Bw.bo p n (rs++[r]):=bo.snoc hR jv;refine⟨p,l4,lp,AS++[.ref l2],rs++[r],n,0,n,rfl,pp,s5 _ _ g4,hL,by rw[bY];show rs.length+1≤900;lia,by lia,λq hq=>.of (Tz q hq),by lia,?_,?_⟩
  ·rw[aV]
   have:=Ej 0 n
   rw[uf]at this;exact ai (λz=>some (HO.lst z)) this
  intro l fa ga' FS GS H6 s6 hl gl hf gf hF _ _ _;rw[D1.zH pp Tz]at hF;have Tt:=hF.1;refine⟨l,_,0,.ref fa,rfl,rfl,.of gl,bw (j:=0) rfl,fa,_,rfl,.inl (.of gf),_,rfl,a,_,rfl,.inr ((KS.trans s6).bh ha),rfl,?_⟩;have e:decide (V.int (FS.length:Int)=V.int (AS.length:Int))=@decide (Bw.Sp p (RS rs) (fn r)) (Classical.propDecidable _):=by
   by_cases hs:Bw.Sp p (RS rs) (fn r)
   ·rw[@aC _ (Classical.propDecidable _) hs];refine aC (ai V.int ?_)
    have:=(Tw pp hR jv one).mpr hs
    lia
   ·rw[@ab _ (Classical.propDecidable _) hs];refine ab λz=>hs ((Tw pp hR jv one).mp ?_)
    have:=V.int.inj z
    lia
  rw[e];exact q H6 (KS.trans s6)
def gJ(N:Addr→Prop)(H:Hp)(a:Addr)(l r:Nat)(aN:LL):Prop:=N a∧∃(b:Addr)(XS:List V),H a=some (.lst [.int (l:Int),.int (r:Int),.ref b])∧N b∧H b=some (.lst XS)∧LR N H XS aN
theorem gJ.mono{N:Addr→Prop}{H H':Hp}{a:Addr}{l r:Nat}{aN:LL}(h:gJ N H a l r aN)(e:aK H H'):gJ N H' a l r aN:=by
 obtain⟨n,b,XS,g,nb,gb,hL⟩:=h;exact⟨n,b,XS,e _ _ g,nb,e _ _ gb,hL.mono e⟩
theorem gJ.weak{N N':Addr→Prop}{H:Hp}{a:Addr}{l r:Nat}{aN:LL}(h:gJ N H a l r aN)(k:∀x,N x→N' x):gJ N' H a l r aN:=by
 obtain⟨n,b,XS,g,nb,gb,hL⟩:=h;exact⟨k _ n,b,XS,g,k _ nb,gb,hL.weak k⟩
theorem gJ.wr{H:Hp}{a x:Addr}{l r:Nat}{aN:LL}{o:HO}(h:gJ (·≠x) H a l r aN):gJ (·≠x) (upd H x o) a l r aN:=by
 obtain⟨n,b,XS,g,nb,gb,hL⟩:=h;exact⟨n,b,XS,by rw[cG n];exact g,nb,by rw[cG nb];exact gb,hL.wr⟩
theorem gJ.new{H1:Hp}{XS:List V}{l r:Nat}{aN:LL}(s:aK H H1)(hL:LR (λx=>H x=none) H1 XS aN)(hb:H1 b=none)(ha:(upd H1 b (.lst XS)) a=none) :
  aK H (upd (upd H1 b (.lst XS)) a (.lst [.int (l:Int),.int (r:Int),.ref b]))∧gJ (λx=>H x=none) (upd (upd H1 b (.lst XS)) a (.lst [.int (l:Int),.int (r:Int),.ref b])) a l r aN:=
 ⟨s.trans ((aK.upd hb).trans (.upd ha)),gp (s.trans (.upd hb)) ha,b,XS,aV,gp s hb,aK.upd ha _ _ aV,hL.mono ((aK.upd hb).trans (.upd ha))⟩
def xw(H:Hp)(l r:Nat)(aN:LL)(Q:VK):Prop:=∀a H',aK H H'→gJ (λx=>H x=none) H' a l r aN→Q (.ref a) H'
noncomputable def Aj(w:Str)(n:Int):Nat×Nat×LL:=
 if w="id"∨w="times" then(1,1,[[1,n]])else if w="swap" then(2,2,[[1,0,0,1],[0,1,1,0]])else if w="copy" then(1,2,[[1,1,1]])else if w="end" then(1,0,[[1]])
 else if w="add" then(2,1,[[1,0,1],[0,1,1]])else if w="none" then(0,1,[])else if w="cup" then(0,2,[[1,1]])else(0,0,[])
def Ek:Sp:=λvs H Q _=>∃(p:Int)(w:Str)(n:Int),vs=[.int p,.str w,.int n]∧xw H (Aj w n).1 (Aj w n).2.1 (Aj w n).2.2 Q
theorem adR:cT ["p","word","number"] ["p","word","number"] (bu IP):=de rfl rfl rfl (by decide +kernel) rfl
theorem TB{l r:Nat}(q:xw H l r [] Q)(hb:H b=none)(ha:(upd H b (.lst [])) a=none):Q (.ref a) (upd (upd H b (.lst [])) a (.lst [.int (l:Int),.int (r:Int),.ref b])):=by
 obtain⟨s,t⟩:=gJ.new (l:=l) (r:=r) (.refl H) LR.nil hb ha;exact q a _ s t
theorem El{l r:Nat}{r1:List Int}(q:xw H l r [r1] Q){x:Addr}(hx:H x=none)(hb:(upd H x (.lst (r1.map V.int))) b=none)(ha:(upd (upd H x (.lst (r1.map V.int))) b (.lst [.ref x])) a=none) :
  Q (.ref a) (upd (upd (upd H x (.lst (r1.map V.int))) b (.lst [.ref x])) a (.lst [.int (l:Int),.int (r:Int),.ref b])):=by
 obtain⟨s,t⟩:=gJ.new (l:=l) (r:=r) (aK.upd hx) (LR.nil.snoc (r:=r1) hx aV) hb ha;exact q a _ s t
theorem TC{l r:Nat}{r1 r2:List Int}(q:xw H l r [r1,r2] Q){x:Addr}(hx:H x=none){y:Addr}(hy:(upd H x (.lst (r1.map V.int))) y=none)(hb:(upd (upd H x (.lst (r1.map V.int))) y (.lst (r2.map V.int))) b=none)
  {a:Addr} (ha:(upd (upd (upd H x (.lst (r1.map V.int))) y (.lst (r2.map V.int))) b (.lst [.ref x,.ref y])) a=none) :
  Q (.ref a) (upd (upd (upd (upd H x (.lst (r1.map V.int))) y (.lst (r2.map V.int))) b (.lst [.ref x,.ref y])) a (.lst [.int (l:Int),.int (r:Int),.ref b])):=by
 obtain⟨s,t⟩:=gJ.new (l:=l) (r:=r) ((aK.upd hx).trans (aK.upd hy)) (((LR.nil.snoc (r:=r1) hx aV).mono (.upd hy)).snoc (r:=r2) (gp (.upd hx) hy) aV) hb ha;exact q a _ s t
noncomputable def Em:List Expr→Option (LL)
 | []=>some []
 | .List es _::dM=>match wg es,Em dM with
  |some ns,some R=>some (ns::R)
  |_,_=>none
 |_=>none
noncomputable def TF:Expr→Option (Int×Int×LL)
 | .List [.Constant (.int l) _ _,.Constant (.int r) _ _,.List aN _] _=>match Em aN with
  |some R=>some (l,r,R)
  |none=>none
 |_=>none
def qD:LL→TA
 | []=>cm
 |ns::R=>bg (HG ns) (qD R)
def tZ(l r:Int)(t:TE):TE:=dN (bg (tC (.int l)) (bg (tC (.int r)) (bg t cm)))
theorem TH{X:Cx}:∀(es:List Expr)(R:LL),Em es=some R→PA X es (qD R)
 | [],R,h=>by cases h;exact aO
 |e::dM,R,h=>by
  unfold Em at h;split at h
  case h_1=>exact absurd h (by rename_i h1;cases h1)
  case h_3=>exact nomatch h
  case h_2 es pos rest' heq=>
   cases heq;split at h
   case h_2=>exact nomatch h
   case h_1 ns R' h1 h2=>
    cases h;exact aJ (Oj (Oi h1)) (TH dM R' h2)
theorem vx{X:Cx}{e:Expr}{l r:Int}{R:LL}(h:TF e=some (l,r,R)):PE X e (tZ l r (dN (qD R))):=by
 unfold TF at h;split at h
 case h_2=>exact nomatch h
 case h_1 l' i1 p1 r' i2 p2 aN p3 pos=>
  split at h
  case h_2=>exact nomatch h
  case h_1 R' h1=>
   cases h;exact cE (aJ aW (aJ aW (aJ (cE (TH aN _ h1)) aO)))
def rY(x:String):TT:=ke (bz qZ (aY 1) (tC (.str x)))
def adS:TS:=gR (tZ 0 0 (dN (qD [])))
def adT:TS:=cI (fb (rY "cup") (gR (tZ 0 2 (dN (qD [[1,1]])))) iR) adS
def adU:TS:=cI (fb (rY "none") (gR (tZ 0 1 (dN (qD [])))) iR) adT
def adV:TS:=cI (fb (rY "add") (gR (tZ 2 1 (dN (qD [[1,0,1],[0,1,1]])))) iR) adU
def adW:TS:=cI (fb (rY "end") (gR (tZ 1 0 (dN (qD [[1]])))) iR) adV
def adX:TS:=cI (fb (rY "copy") (gR (tZ 1 2 (dN (qD [[1,1,1]])))) iR) adW
def TJ:TS:=cI (fb (rY "swap") (gR (tZ 2 2 (dN (qD [[1,0,0,1],[0,1,1,0]])))) iR) adX
def TK:TS:=gR (dN (bg (tC (.int 1)) (bg (tC (.int 1)) (bg (dN (bg (dN (bg (tC (.int 1)) (bg (aY 2) cm))) cm)) cm))))
def TL:TS:=cI (fb (FQ (rY "id") (rY "times")) TK iR) TJ
theorem adY(F:cA K "_law_box" "_law_box" IP f fd):br P w K mg base bp 1 f fd ["p","word","number"] Ek:=by
 refine F.ok adR (λvs H Q E h=>?_) (λbE A outer s H vs Q E hr h=>?_)
 ·obtain⟨p,x,n,rfl,_⟩:=h;rfl
 ·obtain⟨p,x,n,rfl,q⟩:=h;refine⟨TL,?_,?_⟩
  ·unfold TL;refine ba ?_ ?_
   ·refine cX ?_ ?_ dy
    ·refine PW.pt (vM ?_ (A0 ?_))
     ·exact cM eO (pv 1) cz (cJ _)
     ·exact cM eO (pv 1) cz (cJ _)
    ·exact bq (bV (cE (aJ aW (aJ aW (aJ (cE (aJ (cE (aJ aW (aJ (pv 2) aO))) aO)) aO)))))
   refine ba ?_ ?_
   ·refine cX ?_ ?_ dy
    ·exact cM eO (pv 1) cz (cJ _)
    ·refine bq ?_;refine bV ?_;refine vx ?_
     kernel_rfl
   refine ba ?_ ?_
   ·refine cX ?_ ?_ dy
    ·exact cM eO (pv 1) cz (cJ _)
    ·refine bq ?_;refine bV ?_;refine vx ?_
     kernel_rfl
   refine ba ?_ ?_
   ·refine cX ?_ ?_ dy
    ·exact cM eO (pv 1) cz (cJ _)
    ·refine bq ?_;refine bV ?_;refine vx ?_
     kernel_rfl
   refine ba ?_ ?_
   ·refine cX ?_ ?_ dy
    ·exact cM eO (pv 1) cz (cJ _)
    ·refine bq ?_;refine bV ?_;refine vx ?_
     kernel_rfl
   refine ba ?_ ?_
   ·refine cX ?_ ?_ dy
    ·exact cM eO (pv 1) cz (cJ _)
    ·refine bq ?_;refine bV ?_;refine vx ?_
     kernel_rfl
   refine ba ?_ ?_
   ·refine cX ?_ ?_ dy
    ·exact cM eO (pv 1) cz (cJ _)
    ·refine bq ?_;refine bV ?_;refine vx ?_
     kernel_rfl
   refine bq ?_;refine bV ?_;refine vx ?_
   kernel_rfl
  have KU:∀{y:String},decide (V.str x=V.str (Str.ofString y))=decide (x=Str.ofString y):=λ{y}=>by
   by_cases h:x=Str.ofString y
   ·rw[aC h,aC (ai V.str h)]
   ·rw[ab h,ab λz=>h (V.str.inj z)]
  have step:∀{y:String}{t u:TS}{D:Ends},(x=Str.ofString y→t { D with nx:=u D } [some (.int p),some (.str x),some (.int n)] H)→(x≠Str.ofString y→u D [some (.int p),some (.str x),some (.int n)] H)→cI (fb (rY y) t iR) u D [some (.int p),some (.str x),some (.int n)] H:=λ{y t u D} h1 h2=>by
   refine⟨_,rfl,rfl,_,rfl,?_⟩;rw[KU];exact uJ (λc=>h1 (aG c)) (λc=>h2 λz=>c (aC z))
  have z:∀n:Nat,n≤10→n≤sizeLine:=λn h=>hU h (by decide);unfold Aj at q;refine⟨_,rfl,rfl,_,rfl,?_⟩;rw[KU];have TM:x=Str.ofString "id"∨x=Str.ofString "times"→TK { nx:=λ_ H'=>Q .ck H',rt:=Q } [some (.int p),some (.str x),some (.int n)] H:=λc=>by
   rw[ae c]at q;refine⟨_,rfl,z _ (by simp),λr1 h1=>⟨z _ (by simp),λb hb=>⟨z _ (by simp),λa ha=>?_⟩⟩⟩;exact El (r1:=[1,n]) q h1 hb ha
  have dM:¬(x=Str.ofString "id"∨x=Str.ofString "times")→TJ { nx:=λ_ H'=>Q .ck H',rt:=Q } [some (.int p),some (.str x),some (.int n)] H:=λc0=>by
   rw[af c0]at q;refine step (λc=>?_) (λc=>?_)
   ·rw[ae c]at q;exact⟨z _ (by simp),λx hx=>⟨z _ (by simp),λy hy=>⟨z _ (by simp),λb hb=>⟨z _ (by simp),λa ha=>TC (r1:=[1,0,0,1]) (r2:=[0,1,1,0]) q hx hy hb ha⟩⟩⟩⟩
   rw[af c]at q;refine step (λc=>?_) (λc=>?_)
   ·rw[ae c]at q;exact⟨z _ (by simp),λx hx=>⟨z _ (by simp),λb hb=>⟨z _ (by simp),λa ha=>El (r1:=[1,1,1]) q hx hb ha⟩⟩⟩
   rw[af c]at q;refine step (λc=>?_) (λc=>?_)
   ·rw[ae c]at q;exact⟨z _ (by simp),λx hx=>⟨z _ (by simp),λb hb=>⟨z _ (by simp),λa ha=>El (r1:=[1]) q hx hb ha⟩⟩⟩
   rw[af c]at q;refine step (λc=>?_) (λc=>?_)
   ·rw[ae c]at q;exact⟨z _ (by simp),λx hx=>⟨z _ (by simp),λy hy=>⟨z _ (by simp),λb hb=>⟨z _ (by simp),λa ha=>TC (r1:=[1,0,1]) (r2:=[0,1,1]) q hx hy hb ha⟩⟩⟩⟩
   rw[af c]at q;refine step (λc=>?_) (λc=>?_)
   ·rw[ae c]at q;exact⟨z _ (by simp),λb hb=>⟨z _ (by simp),λa ha=>TB q hb ha⟩⟩
   rw[af c]at q;refine step (λc=>?_) (λc=>?_)
   ·rw[ae c]at q;exact⟨z _ (by simp),λx hx=>⟨z _ (by simp),λb hb=>⟨z _ (by simp),λa ha=>El (r1:=[1,1]) q hx hb ha⟩⟩⟩
   rw[af c]at q;exact⟨z _ (by simp),λb hb=>⟨z _ (by simp),λa ha=>TB q hb ha⟩⟩
  refine uJ (λc=>dZ (TM (.inl (aG c)))) (λc=>?_);refine⟨_,rfl,rfl,_,rfl,?_⟩;rw[KU];exact uJ (λc2=>TM (.inr (aG c2))) (λc2=>dM λz=>z.elim (λy=>c (aC y)) λy=>c2 (aC y))
def oP(te:TE)(σ:St)(H:Hp)(ns:List Int):Prop:=∀H',aK H H'→∀R:VK,(∀a eT,aK H' eT→H' a=none→eT a=some (.lst (ns.map V.int))→R (.ref a) eT)→te σ H' R
theorem rZ{K:Frag}{j k:Nat}{v:Addr}{x y z:V}{σ:St}{R:St→Hp→Prop}(h:dq K H v [x,y,z])(q:R (((σ.set i (some x)).set j (some y)).set k (some z)) H):wj K 3 (jz (bX i) (jz (bX j) (jz (bX k) uz))) (.ref v) σ H R:=
 ⟨v,_,rfl,h,rfl,_,_,rfl,_,_,rfl,_,_,rfl,rfl,q⟩
theorem Ak{xs:List V}{k:Nat}(h:k≤xs.length):fV xs none (some (k:Int))=xs.take k:=by
 unfold fV;rw[HT.qi,HT.uF,vE,Nat.sub_zero,ug h]
theorem En{xs:List V}{k:Nat}(h:k≤xs.length):fV xs (some (k:Int)) none=xs.drop k:=by
 unfold fV;rw[HT.qi,HT.uF,ug h,jM (by simp)]
section
variable{K:Frag}{σ:St}{H:Hp}
theorem adZ{ta:TE}{i j:Int}(h1:IE ta σ H i)(h2:IE tb σ H j):IE (bz (e7 λi j=>.int (i+j)) ta tb) σ H (i+j):=λH' s _ q=>h1 H' s _ (h2 H' s _ ⟨i,j,rfl,rfl,q⟩)
theorem qE{ta:TE}{ms:List Int}(h1:oP ta σ H ns)(h2:oP tb σ H ms)(hl:ns.length+ms.length≤10000):oP (bz fX ta tb) σ H (ns++ms):=λH' s R q=>by
 have z:(10000:Nat)≤sizeLine:=by decide
 refine h1 H' s _ λa H1 s1 ha ga=>h2 H1 (s.trans s1) _ λb H2 s2 hb gb=>?_;refine⟨a,b,_,_,rfl,rfl,s2 _ _ ga,gb,by simp only[aZ];lia,λc hc=>?_⟩;refine q c _ (s1.trans (s2.trans (.upd hc))) (gp (s1.trans s2) hc) ?_;rw[aV,dC]
theorem xx{k:Nat}(h:IE tk σ H (k:Int))(hk:k≤10000):oP (bz Gy (dN (bg (tC (.int 0)) cm)) tk) σ H (List.replicate k 0):=λH' s R q=>by
 have z:(10000:Nat)≤sizeLine:=by decide
 refine⟨by show 1≤sizeLine;decide,λa ha=>?_⟩;have sa:=aK.upd (o:=.lst [.int 0]) ha;refine h _ (s.trans sa) _ ⟨a,(k:Int),[.int 0],rfl,rfl,aV,by lia,by lia,by show 1*(k:Int).toNat≤sizeLine;lia,λc hc=>q c _ (sa.trans (.upd hc)) (gp sa hc) ?_⟩;rw[aV,show(k:Int).toNat=k by lia,DR,AN]
theorem Al{k:Nat}(h:σ[i]?=some (some (.ref a)))(g:H a=some (.lst (ns.map V.int)))(hk:IE tk σ H (k:Int))(hl:k≤ns.length):oP (ib (sN K) (aY i) iK (gS tk)) σ H (ns.take k):=λH' s R q=>by
 refine⟨_,h,hk _ s _ ⟨(k:Int),rfl,a,_,rfl,.of (s _ _ g),λp hp=>q p _ (.upd hp) hp ?_⟩⟩;rw[aV,Ak (by rw[aZ];exact hl),List.map_take]
theorem Am{k:Nat}(h:σ[i]?=some (some (.ref a)))(g:H a=some (.lst (ns.map V.int)))(hk:IE tk σ H (k:Int))(hl:k≤ns.length):oP (ib (sN K) (aY i) (gS tk) iK) σ H (ns.drop k):=λH' s R q=>by
 refine⟨_,h,hk _ s _ ⟨(k:Int),rfl,a,_,rfl,.of (s _ _ g),λp hp=>q p _ (.upd hp) hp ?_⟩⟩;rw[aV,En (by rw[aZ];exact hl),List.map_drop]
end
theorem KW{te:TE}{D:Ends}{σ:St}{H0:Hp}{ll:Addr}{ZS:List V}{R:LL}(hi:σ[i]?=some (some (.ref ll)))(gl:H ll=some (.lst ZS))(lK:H0 ll=none)(s:aK H0 H)(hR:LR (λx=>x≠ll∧H0 x=none) H ZS R)(hz:R.length≤10000)(h:oP te σ H ns)
  (k:∀H' pN,aK H0 H'→H' ll=some (.lst pN)→LR (λx=>x≠ll∧H0 x=none) H' pN (R++[ns])→D.nx σ H'):Bb (Gr K "list" Gv (aY i) (bg te cm)) D σ H:=by
 have z:(10000:Nat)<sizeLine:=by decide
 refine⟨_,hi,.inl ⟨rfl,_,dq.of gl⟩,h H (.refl _) _ λa H1 s1 ha ga=>⟨ll,ZS,.ref a,rfl,rfl,s1 _ _ gl,by rw[hR.1];lia,?_⟩⟩;have ne:a≠ll:=λe=>by rw[e,gl]at ha;cases ha
 refine k _ _ ((s.trans s1).write lK) aV ?_;refine⟨by simp[hR.1],λj v r e1 e2=>?_⟩;obtain⟨x,e,nx,gx⟩:=((hR.mono s1).snoc (a:=a) (r:=ns) ⟨ne,gp s ha⟩ ga).2 j v r e1 e2;exact⟨x,e,nx,by rw[cG nx.1];exact gx⟩
def KY:Sp:=λvs H Q _=>∃(a b:Addr)(l r l' r':Nat)(A B:LL),vs=[.ref a,.ref b]∧gJ (λ_=>True) H a l r A∧gJ (λ_=>True) H b l' r' B∧(∀q∈A,q.length=l+r)∧(∀q∈B,q.length=l'+r')∧A.length≤400∧B.length≤400∧l+r≤400∧l'+r'≤400∧
 xw H (l+l') (r+r') (A.map (D1.jx l l' r')++B.map (D1.j4 l r l')) Q
theorem qF:cT ["one","other","rows","left","right","some","into","out","more","row"] ["one","other"] (bu IQ):=de rfl rfl rfl (by decide +kernel) rfl
theorem ad0(F:cA K "_law_beside" "_law_beside" IQ f fd):br P w K mg base bp 1 f fd ["one","other"] KY:=by
 refine F.ok qF (λvs H Q E h=>?_) (λbE A outer s H vs Q E hr h=>?_)
 ·obtain⟨a,b,l,r,l',r',A,B,rfl,_⟩:=h;rfl
 ·obtain⟨a,b,l,r,l',r',RA,RB,rfl,⟨_,a1,AS,ga,_,An,hA⟩,⟨_,b1,BS,gb,_,pO,hB⟩,lA,lB,nA,nB,wA,wB,q⟩:=h;have i7:(1000:Nat)≤sizeLine:=by decide
  refine⟨_,ba (bH (i:=2) qF.nd rfl (.inl rfl) (cE aO)) (ba (mK (pv 0) (rq rfl (eF (cx (i:=3) qF.nd rfl (.inl rfl)) (eF (cx (i:=4) qF.nd rfl (.inl rfl)) (eF (cx (i:=5) qF.nd rfl (.inl rfl)) lX))))) (ba (mK (pv 1) (rq rfl (eF (cx (i:=6) qF.nd rfl (.inl rfl)) (eF (cx (i:=7) qF.nd rfl (.inl rfl)) (eF (cx (i:=8) qF.nd rfl (.inl rfl)) lX))))) (ba (kc lD rfl (iZ K rfl (pv 5)) (cx (i:=9) qF.nd rfl (.inl rfl)) (bq (mH (qk p7 uh ui rf (pv 2) (aJ (aX eQ (aX eQ (aX eQ (dD (kl K rfl) (pv 9) dQ (dj (pv 3))) (aX nY (cE (aJ aW aO)) (pv 6))) (dD (kl K rfl) (pv 9) (dj (pv 3)) dQ)) (aX nY (cE (aJ aW aO)) (pv 7))) aO))))) (ba (kc lD rfl (iZ K rfl (pv 8)) (cx (i:=9) qF.nd rfl (.inl rfl)) (bq (mH (qk p7 uh ui rf (pv 2) (aJ (aX eQ (aX eQ (aX eQ (aX nY (cE (aJ aW aO)) (pv 3)) (dD (kl K rfl) (pv 9) dQ (dj (pv 6)))) (aX nY (cE (aJ aW aO)) (pv 4))) (dD (kl K rfl) (pv 9) (dj (pv 6)) dQ)) aO))))) (bq (bV (cE (aJ (aX eU (pv 3) (pv 6)) (aJ (aX eU (pv 4) (pv 7)) (aJ (pv 2) aO)))))))))),?_⟩;refine⟨by decide,λlr ot=>?_⟩;have s0:aK H (upd H lr (.lst [])):=.upd ot;have g0:(upd H lr (.lst [])) lr=some (.lst []):=aV;generalize upd H lr (.lst [])=H0 at s0 g0 ⊢;refine⟨_,rfl,rZ (.of (s0 _ _ ga)) ⟨_,rfl,rZ (.of (s0 _ _ gb)) ?_⟩⟩;refine⟨_,rfl,a1,rfl,⟨_,.of (s0 _ _ An)⟩,yo (xs:=AS) (λi σ H'=>aK H H'∧∃ZS s9,σ=[some (.ref a),some (.ref b),some (.ref lr),some (.int (l:Int)),some (.int (r:Int)),some (.ref a1),some (.int (l':Int)),some (.int (r':Int)),some (.ref b1),s9]∧H' lr=some (.lst ZS)∧LR (λx=>x≠lr∧H x=none) H' ZS ((RA.take i).map (D1.jx l l' r'))) ⟨s0,[],none,rfl,g0,LR.nil⟩ (λi σ H' _ ⟨sm,_⟩=>.of (sm _ _ An)) ?_ ?_⟩
  ·rintro i x σ H1 hx ⟨sm,ZS,s9,rfl,g,hZ⟩;obtain⟨ra,row,rfl,fi,_,gr⟩:=hA.get' hx;have hw:=lA row (cZ fi);have t6:=sm _ _ gr;dsimp only[bX];refine KW (i:=2) (ns:=D1.jx l l' r' row) rfl g ot sm hZ (by rw[aZ,cB];lia) ?_ ?_
   ·refine qE (qE (qE (Al (a:=ra) (ns:=row) rfl t6 (fK rfl) (by lia)) (xx (fK rfl) (by lia)) ?_) (Am (a:=ra) (ns:=row) rfl t6 (fK rfl) (by lia)) ?_) (xx (fK rfl) (by lia)) ?_;all_goals simp only[bY,cB,da,dY]
    all_goals lia
   ·intro H' pN iE g' nG;refine⟨iE,pN,_,rfl,g',?_⟩;rw[gK,fi];show LR _ H' pN ((RA.take i++[row]).map _);rw[dC];exact nG
  rintro σ H1 ⟨sm,ZS,s9,rfl,g,hZ⟩;rw[hA.1,lT]at hZ;refine⟨_,rfl,b1,rfl,⟨_,.of (sm _ _ pO)⟩,yo (xs:=BS) (λi σ H'=>aK H H'∧∃ZS s9,σ=[some (.ref a),some (.ref b),some (.ref lr),some (.int (l:Int)),some (.int (r:Int)),some (.ref a1),some (.int (l':Int)),some (.int (r':Int)),some (.ref b1),s9]∧H' lr=some (.lst ZS)∧LR (λx=>x≠lr∧H x=none) H' ZS (RA.map (D1.jx l l' r')++(RB.take i).map (D1.j4 l r l'))) ⟨sm,ZS,s9,rfl,g,by rw[List.take_zero,List.map_nil,j8];exact hZ⟩ (λi σ H' _ ⟨sm,_⟩=>.of (sm _ _ pO)) ?_ ?_⟩
  ·clear hZ g ZS s9 sm H1;rintro i x σ H1 hx ⟨sm,ZS,s9,rfl,g,hZ⟩;obtain⟨ra,row,rfl,fi,_,gr⟩:=hB.get' hx;have hw:=lB row (cZ fi);have t6:=sm _ _ gr;dsimp only[bX];refine KW (i:=2) (ns:=D1.j4 l r l' row) rfl g ot sm hZ (by rw[bY,aZ,aZ,cB];lia) ?_ ?_
   ·refine qE (qE (qE (xx (fK rfl) (by lia)) (Al (a:=ra) (ns:=row) rfl t6 (fK rfl) (by lia)) ?_) (xx (fK rfl) (by lia)) ?_) (Am (a:=ra) (ns:=row) rfl t6 (fK rfl) (by lia)) ?_;all_goals simp only[bY,cB,da,dY]
    all_goals lia
   ·intro H' pN iE g' nG;refine⟨iE,pN,_,rfl,g',?_⟩;rw[gK,fi];show LR _ H' pN (_++(RB.take i++[row]).map _);rw[dC,← jr];exact nG
  clear hZ g ZS s9 sm H1;rintro σ H1 ⟨sm,ZS,s9,rfl,g,hZ⟩;rw[hB.1,lT]at hZ;refine⟨_,rfl,_,rfl,_,_,rfl,rfl,_,rfl,_,rfl,_,_,rfl,rfl,_,rfl,by show 3≤sizeLine;decide,λt ht=>?_⟩;refine q t _ (sm.trans (.upd ht)) ⟨gp sm ht,lr,ZS,?_,ot,aK.upd ht _ _ g,(hZ.mono (.upd ht)).weak λ_ z=>z.2⟩;rw[aV,sr,sr]
theorem nw1:(["row","right"]:List Str).Nodup:=by decide +kernel
theorem nw2:(["number"]:List Str).Nodup:=by decide +kernel
theorem nw3:(["row","amid","left"]:List Str).Nodup:=by decide +kernel
section
variable{K:Frag}{σ:St}{H:Hp}
theorem ad1{ms:List Int}(h:σ[i]?=some (some (.ref a)))(g:H a=some (.lst (ns.map V.int)))(h2:oP tb σ H ms)(hl:ns.length+ms.length≤10000):oP (bz fX (aY i) tb) σ H (ns++ms):=λH' s R q=>by
 have z:(10000:Nat)≤sizeLine:=by decide
 refine⟨_,h,h2 H' s _ λb H2 s2 hb gb=>?_⟩;refine⟨a,b,_,_,rfl,rfl,s2 _ _ (s _ _ g),gb,by simp only[aZ];lia,λc hc=>?_⟩;refine q c _ (s2.trans (.upd hc)) (gp s2 hc) ?_;rw[aV,dC]
theorem ad2{tl:TE}(h:oP tl σ H ns)(hl:ns.length≤10000):oP (o7 (Bf K tl) 1 [] (bX 0) jC (bz (e7 λi j=>.int (i-j)) (tC (.int 0)) (aY 0))) σ H (ns.map λx=>0-x):=λH' s R q=>by
 have z:(10000:Nat)≤sizeLine:=by decide
 refine h H' s _ λa H1 s1 ha ga=>⟨a,rfl,⟨_,.of ga⟩,n9 (cp:=[]) (λj H' zs=>zs=((ns.take j).map λx=>0-x).map V.int) (.of ga) (by rw[aZ];lia) rfl (λj H' zs e=>by rw[e,aZ,aZ];exact uj _ _) ?_ ?_⟩
 ·rintro j y eT zs hy iE rfl;rw[dU]at hy;cases f1:ns[j]? with
  |none=>rw[f1]at hy;cases hy
  |some y'=>
   rw[f1]at hy;cases hy;refine jc ⟨_,rfl,_,_,rfl,rfl,⟨[_],rfl,rfl⟩,iE,?_⟩;rw[gK,f1];simp
 ·rintro H2 zs sm rfl lh tG;rw[aZ,lT];exact q lh _ (s1.trans (sm.trans (.upd tG))) (gp (s1.trans sm) tG) aV
end
theorem KZ{la:Addr}{LS:List V}{L:LL}{g:List Int→List Int}{N:Addr→Prop}{te:TE}{cp:St}(gl:H la=some (.lst LS))(hL:LR N H LS L)(hz:L.length≤1000)
  (zk:∀(x:Addr)(r:List Int)(H1:Hp),r∈L→aK H H1→H1 x=some (.lst (r.map V.int))→oP te (some (.ref x)::cp) H1 (g r))
  (done:∀H' MS,aK H H'→LR (λa=>H a=none) H' MS (L.map g)→∀l,H' l=none→Q (.ref l) (upd H' l (.lst MS))) :
  ∃W:Nat→Nat→St→Hp→List V→Prop,(∃m,W 0 m (List.replicate 1 none++cp) H [])∧jD (qe K la) (bX 0) jC te Q W:=by
 have i7:(1000:Nat)≤sizeLine:=by decide
 have eL:=hL.1;refine n9 (xs:=LS) (cp:=cp) (λi H' zs=>LR (λa=>H a=none) H' zs ((L.take i).map g)) (.of gl) (by lia) LR.nil
  (λi H' zs h=>by rw[h.1,aZ];exact uj _ _) ?_ ?_
 ·rintro i x H' zs gF sm h';obtain⟨a,r,rfl,hr,_,ga⟩:=hL.get' gF;refine jc (zk a r H' (cZ hr) sm (sm _ _ ga) H' (.refl _) _ λl H2 s2 w8 gl'=>⟨⟨[_],rfl,rfl⟩,sm.trans s2,?_⟩);rw[gK,hr];show LR _ H2 _ ((L.take i++[r]).map g);rw[dC];exact(h'.mono s2).snoc (gp sm w8) gl'
 ·rintro H' zs sm h' l hl;rw[hL.1,lT]at h';exact done H' zs sm h' l hl
def K0:Sp:=λvs H Q _=>∃(p:Int)(a b:Addr)(l m r:Nat)(A B:LL),vs=[.int p,.ref a,.ref b]∧p∈cq∧gJ (λ_=>True) H a l m A∧gJ (λ_=>True) H b m r B∧Bw.bo p (l+m) A∧Bw.bo p (m+r) B∧A.length≤400∧B.length≤400∧l+m≤400∧m+r≤400∧
 xw H l r (D1.zN p l m r A B) Q
noncomputable abbrev K1:List Str:=["p","one","other","left","amid","rows","right","row","some","spare","thin"]
theorem r8:cT ["p","one","other","left","amid","rows","right","row","some","spare","thin"] ["p","one","other"] (bu wF):=de rfl rfl rfl (by decide +kernel) rfl
theorem ad3(F:cA K "_law_then" "_law_then" wF f fd)(T:Txt mg)
  (GC:br P w K mg base bp 2 fC fH ["p","rows","places"] (KJ K)) (kC:Kp K fC) (bC:Binds K fH ["p","rows","places"] []) (mC:Mg mg "_law_cleared" fC) :
  br P w K mg base bp 3 f fd ["p","one","other"] K0:=by
 refine F.ok r8 (λvs H Q E h=>?_) (λbE A outer s H vs Q E hr h=>?_)
 ·obtain⟨p,a,b,l,m,r,A,B,rfl,_⟩:=h;rfl
 ·obtain⟨p,a,b,l,m,r,RA,RB,rfl,pp,⟨_,a1,AS,ga,_,An,hA⟩,⟨_,b1,BS,gb,_,pO,hB⟩,lA,lB,nA,nB,wA,wB,q⟩:=h;have i7:(1000:Nat)≤sizeLine:=by decide
  have p0:0<p:=by have:=fe p pp;lia
  refine⟨_,ba (mK (pv 1) (rq rfl (eF (cx (i:=3) r8.nd rfl (Or.inr rfl)) (eF (cx (i:=4) r8.nd rfl (Or.inr rfl)) (eF (cx (i:=5) r8.nd rfl (.inl rfl)) lX))))) (ba (bH (i:=6) r8.nd rfl (Or.inr rfl) (bt (cU K rfl) (pv 2) aW (λ_ _=>rfl))) (ba (kh (i:=8) (N:=["row","right"]) (own:=1) (caps:=[6]) rfl r8.nd rfl rfl (iZ K rfl (pv 5)) (show dJ K1 (bu wF) ["row","right"] 1 [6] _ from .mk' (by decide +kernel)) (λ_ _ _ _ _=>cx (i:=0) nw1 rfl (.inl rfl)) (λ_ _ _ _ _=>fq) (λ_ _ _ _ _=>aX eQ (pv 0) (aX nY (cE (aJ aW aO)) (pv 1)))) (ba (kc lD rfl (iZ K rfl (bt (cU K rfl) (pv 2) aW (λ_ _=>rfl))) (cx (i:=7) r8.nd rfl (.inl rfl)) (bq (mH (qk p7 uh ui rf (pv 8) (aJ (aX eQ (aX eQ (aX nY (cE (aJ aW aO)) (pv 3)) (iV (N:=["number"]) (own:=1) (caps:=[]) rfl (iZ K rfl (dD (kl K rfl) (pv 7) dQ (dj (pv 4)))) (show dJ K1 (bu wF) ["number"] 1 [] _ from .mk' (by decide +kernel)) (λ_ _ _ _ _=>cx (i:=0) nw2 rfl (.inl rfl)) (λ_ _ _ _ _=>fq) (λ_ _ _ _ _=>aX iS aW (pv 0)))) (dD (kl K rfl) (pv 7) (dj (pv 4)) dQ)) aO))))) (ba (bH (i:=9) r8.nd rfl (.inl rfl) (bt (cU K rfl) (bZ GC hr rfl mC kC bC .nil cb (aJ (pv 0) (aJ (pv 8) (aJ (gz (BM rfl) rfl T.list rp (aJ (gz ZH rfl T.range BY (aJ (pv 3) (aJ (aX eU (pv 3) (pv 4)) aO))) aO)) aO)))) aW (λ_ _=>rfl))) (ba (kh (i:=10) (N:=["row","amid","left"]) (own:=1) (caps:=[4,3]) rfl r8.nd rfl rfl (iZ K rfl (pv 9)) (show dJ K1 (bu wF) ["row","amid","left"] 1 [4,3] _ from .mk' (by decide +kernel)) (λ_ _ _ _ _=>cx (i:=0) nw3 rfl (.inl rfl)) (λ_ _ _ _ _=>fq) (λ_ _ _ _ _=>aX eQ (dD (kl K rfl) (pv 0) dQ (dj (pv 2))) (dD (kl K rfl) (pv 0) (dj (aX eU (pv 2) (pv 1))) dQ))) (bq (bV (cE (aJ (pv 3) (aJ (pv 6) (aJ (bt (cU K rfl) (bZ GC hr rfl mC kC bC .nil cb (aJ (pv 0) (aJ (pv 10) (aJ (gz (BM rfl) rfl T.list rp (aJ (gz KR rfl T.range BY (aJ (aX eU (pv 3) (pv 6)) aO)) aO)) aO)))) aW (λ_ _=>rfl)) aO))))))))))),?_⟩
  refine⟨_,rfl,rZ (.of ga) ⟨_,rfl,b,_,1,.int (r:Int),rfl,rfl,.of gb,bw (j:=1) rfl,?_⟩⟩;refine⟨_,rfl,a1,rfl,⟨_,.of An⟩,KZ (g:=D1.nI r) (cp:=[some (.int (r:Int))]) An hA (by lia) (λx row H1 eV s1 gx=>?_) ?_⟩
  ·have:=(lA row eV).1
   refine ad1 (a:=x) (ns:=row) (ms:=List.replicate r 0) rfl gx (xx (fK rfl) (by lia)) ?_;rw[dY];lia
  rintro H1 MS s1 hM ls jm;have s2:aK H (upd H1 ls (.lst MS)):=s1.trans (.upd jm);have g2:(upd H1 ls (.lst MS)) ls=some (.lst MS):=aV;have lsH:H ls=none:=gp s1 jm;have Eo:LR (λx=>x≠ls∧H x=none) (upd H1 ls (.lst MS)) MS (RA.map (D1.nI r)):=⟨hM.1,λi v q e1 e2=>by
   obtain⟨x,e,hx,gx⟩:=hM.2 i v q e1 e2;have ne:x≠ls:=λz=>by rw[z,jm]at gx;cases gx
   exact⟨x,e,⟨ne,hx⟩,by rw[cG ne];exact gx⟩⟩
  generalize upd H1 ls (.lst MS)=H2 at s2 g2 Eo ⊢;refine⟨_,rfl,b,_,2,.ref b1,rfl,rfl,.of (s2 _ _ gb),bw (j:=2) rfl,b1,rfl,⟨_,.of (s2 _ _ pO)⟩,yo (xs:=BS) (λi σ H'=>aK H H'∧∃ZS s7,σ=[some (.int p),some (.ref a),some (.ref b),some (.int (l:Int)),some (.int (m:Int)),some (.ref a1),some (.int (r:Int)),s7,some (.ref ls),none,none]∧H' ls=some (.lst ZS)∧LR (λx=>x≠ls∧H x=none) H' ZS (RA.map (D1.nI r)++(RB.take i).map (D1.oJ l m))) ⟨s2,MS,none,rfl,g2,by rw[List.take_zero,List.map_nil,j8];exact Eo⟩ (λi σ H' _ ⟨sm,_⟩=>.of (sm _ _ pO)) ?_ ?_⟩
  ·clear hM Eo g2 s2 s1 jm;rintro i x σ H1 hx ⟨sm,ZS,s9,rfl,g,hZ⟩;obtain⟨ra,row,rfl,fi,_,gr⟩:=hB.get' hx;have hw:=(lB row (cZ fi)).1;have t6:=sm _ _ gr;dsimp only[bX];refine KW (i:=8) (ns:=D1.oJ l m row) rfl g lsH sm hZ (by rw[bY,aZ,aZ,cB];lia) ?_ ?_
   ·refine qE (qE (xx (fK rfl) (by lia)) (ad2 (Al (a:=ra) (ns:=row) rfl t6 (fK rfl) (by lia)) ?_) ?_) (Am (a:=ra) (ns:=row) rfl t6 (fK rfl) (by lia)) ?_;all_goals simp only[bY,cB,da,dY,aZ]
    all_goals lia
   ·intro H' pN iE g' nG;refine⟨iE,pN,_,rfl,g',?_⟩;rw[gK,fi];show LR _ H' pN (_++(RB.take i++[row]).map _);rw[dC,← jr];exact nG
  clear hM Eo g2 s2 s1 jm;rintro σ H3 ⟨sm,ZS,s7,rfl,g,hZ⟩;rw[hB.1,lT]at hZ;have hZ:LR (λx=>x≠ls∧H x=none) H3 ZS (D1.jJ l m r RA RB):=hZ;have S0:=D1.DN p0 lA lB;have S1:=D1.DD pp S0 m;have sl:(D1.jJ l m r RA RB).length≤800:=by
   unfold D1.jJ;rw[bY,aZ,aZ];lia
  have nr:=(KL pp (lo:=l) (λq hq=>(⟨S0.len q hq,S0.near q hq⟩:Rn p (l+m+r) q)) m).2.2.2;have TN:=D1.xk pp lA lB;have afk:(D1.zN p l m r RA RB).length≤l+r:=(D1.zG pp TN (l+r) (cu _)).len (cu _);refine⟨_,rfl,_,rfl,_,rfl,_,rfl,_,rfl,_,_,rfl,rfl,_,_,rfl,λpr vw=>⟨pr,_,_,rfl,aV,⟨by lia,by lia,by lia,by lia⟩,by lia,λlp uY=>?_⟩⟩;have s4:=(aK.upd vw (o:=.mz (l:Int) ((l:Int)+(m:Int)))).trans (aK.upd uY (o:=.lst ((List.range ((l:Int)+(m:Int)-(l:Int)).toNat).map λ(k:Nat)=>V.int ((l:Int)+k))));refine⟨p,ls,lp,ZS,D1.jJ l m r RA RB,l+m+r,l,m,rfl,pp,s4 _ _ g,(hZ.mono s4).weak λ_ _=>trivial,by lia,by lia,λq hq=>⟨S0.len q hq,S0.near q hq⟩,by lia,?_,?_⟩
  ·rw[aV]
   have:=Ej l m
   rw[sr]at this;exact ai (λz=>some (HO.lst z)) this
  intro t1 f1 sp FS GS H4 s5 Jz gt1 _ _ _ jR TQ hG;refine⟨t1,_,1,.ref sp,rfl,rfl,.of gt1,bw (j:=1) rfl,?_⟩;have s6:=(sm.trans s4).trans s5;refine⟨_,rfl,sp,rfl,⟨_,.of TQ⟩,KZ (g:=D1.xj l m) (cp:=[some (.int (m:Int)),some (.int (l:Int))]) TQ hG (by lia) (λx row H1 eV s1 gx=>?_) ?_⟩
  ·have hw:=S1.len row eV;refine qE (Al (a:=x) (ns:=row) rfl gx (fK rfl) (by lia)) (Am (a:=x) (ns:=row) (k:=l+m) rfl gx ?_ (by lia)) ?_
   ·rw[sr];exact adZ (fK rfl) (fK rfl)
   ·simp only[cB,da];lia
  rintro H5 TS s7 hT lt cR;have s8:aK H (upd H5 lt (.lst TS)):=(s6.trans s7).trans (.upd cR);have g8:(upd H5 lt (.lst TS)) lt=some (.lst TS):=aV;have Ep:=hT.mono (aK.upd cR (o:=.lst TS));generalize upd H5 lt (.lst TS)=H6 at s8 g8 Ep ⊢;have Ep:LR (λa=>H4 a=none) H6 TS (D1.nJ p l m r RA RB):=Ep;have thl:(D1.nJ p l m r RA RB).length≤800:=by
   unfold D1.nJ;rw[aZ];lia
  refine⟨_,rfl,_,rfl,_,rfl,_,rfl,_,rfl,_,rfl,_,_,rfl,rfl,_,rfl,λpr vw=>⟨pr,_,_,rfl,aV,⟨by decide,by decide,by lia,by lia⟩,by lia,λlp uY=>?_⟩⟩;have s9:=(aK.upd vw (o:=.mz 0 ((l:Int)+(r:Int)))).trans (aK.upd uY (o:=.lst ((List.range ((l:Int)+(r:Int)-0).toNat).map λ(k:Nat)=>V.int (0+k))));refine⟨p,lt,lp,TS,D1.nJ p l m r RA RB,l+r,0,l+r,rfl,pp,s9 _ _ g8,(Ep.mono s9).weak λ_ _=>trivial,by lia,by lia,λq hq=>.of (TN q hq),by lia,?_,?_⟩
  ·rw[aV]
   have:=Ej 0 (l+r)
   rw[uf,sr]at this;exact ai (λz=>some (HO.lst z)) this
  intro t2 f2 sp2 FS2 GS2 H7 BE nu Er ju Es zZ _ _ _;have xy:=s8.trans s9;refine⟨t2,_,0,.ref f2,rfl,rfl,.of Er,bw (j:=0) rfl,by show 3≤sizeLine;decide,λt ht=>?_⟩;have s12:=xy.trans BE;exact q t _ (s12.trans (.upd ht)) ⟨gp s12 ht,f2,FS2,aV,gp xy ju,aK.upd ht _ _ Es,(zZ.mono (.upd ht)).weak λx z=>gp xy z⟩
end S21
namespace L2
open PySem PySem.Spec PyProof.Rows
section
variable{P:Program}{w:World}{fs Mq:List Addr}{H H1:Hp}{h h1 h2 B:Heap}
end
section
variable{P:Program}{w:World}{K:Frag}{mg:Str→Option Value}{base:Heap}{N:List Str}{qual:Str}{scope:Scope}{f C:Addr}{cd:Value}{A:Around}{outer:List Env}{s:Shared}{H:Hp}{E:XK}
end
section
variable{P:Program}{w:World}{K:Frag}{mg:Str→Option Value}{base:Heap}
end
section
variable{X:Cx}{x:Str}{np iL pos:Pos}{C:Addr}{bmB:List Value}{B afl afm:String}{e₀:Expr}{dM:List Expr}{t:TA}{E:XK}
end
open PySem.W (Looks)
open PySem.Builtin PySem.Builtin.ObjectAttr PySem.Builtin.Getset_descriptor
section
variable{X:Cx}{C W ea:Addr}{aI:List (Addr×Obj)}{σ:St}{H1 H':Hp}{s1 s':Shared}{B:Heap}{a0:Value}
end
section
variable{X:Cx}{C W f:Addr}{k:Nat}{fd:FuncData}{ps:List Str}{sp:Sp}{x wn n y:Str}{p cp ep wp np yp ap hp pos:Pos}{e:Expr}{es:List Expr}{t:TA}{ix ie:Nat}
end
section
variable{prog:Program}{w:World}{A:Around}{E:QV}{K:Frag}{C a:Addr}
end
section
variable{X:Cx}(K:Frag)(hK:X.K=K)
include hK
theorem ad4{T:String}:iB X (.builtin "isinstance") (λxs H Q=>∃x b,xs=[.str x,.ty T]∧kitOne K (.type "str") (.type T)=some b∧Q (.bl b) H):=by
 subst hK;intro aI s σ H vs us Q I r ⟨x,b,e,k,q⟩;exact Hr aI s σ H vs us Q I r ⟨_,_,b,e,.str x,k,q⟩
end
end L2
namespace S21
open PySem L2 Bw
variable{D:Ends}{H H0:Hp}{HS vs:List V}{R:VK}{a hl wl:Addr}{d d0:D1.Dr}{ds:List D1.Dr}{i:Nat}{num p:Int}{s4 s6 s7 s8 s9:Option V}{t u:TS}{te:TE}{x:Str}{σ:St}
theorem TR{X:Cx}(K:Frag)(hK:X.K=K){T:String}:iB X (.builtin "isinstance") (λxs H Q=>∃(x:V)(b:Bool),xs=[x,.ty T]∧((∃i,x=.int i∧kitOne K (.type "int") (.type T)=some b)∨∃s,x=.str s∧kitOne K (.type "str") (.type T)=some b)∧Q (.bl b) H):=by
 rintro aI s σ H vs us Q I r ⟨x,b,e,h|h,q⟩
 ·obtain⟨i,rfl,k⟩:=h;exact Z6 K hK aI s σ H vs us Q I r ⟨i,b,e,k,q⟩
 ·obtain⟨y,rfl,k⟩:=h;exact ad4 K hK aI s σ H vs us Q I r ⟨y,b,e,k,q⟩
inductive gX(p:Int)(hl:Addr)(H:Hp):List D1.Dr→List V→Prop where
 |nil:gX p hl H [] []
 |cons {a:Addr} {d:D1.Dr} {ds:List D1.Dr} {HS:List V} (h:gJ (·≠hl) H a d.l d.r (d.aN p)) (r:gX p hl H ds HS):gX p hl H (d::ds) (HS++[.ref a])
section
variable{p:Int}{hl:Addr}{H H':Hp}{ds:List D1.Dr}{HS:List V}
theorem gX.mono(h:gX p hl H ds HS)(s:aK H H'):gX p hl H' ds HS:=by
 induction h with
 |nil=>exact .nil
 |cons h _ ih=>exact .cons (h.mono s) ih
theorem gX.wr{o:HO}(h:gX p hl H ds HS):gX p hl (upd H hl o) ds HS:=by
 induction h with
 |nil=>exact .nil
 |cons h _ ih=>exact .cons h.wr ih
theorem gX.len(h:gX p hl H ds HS):HS.length=ds.length:=by
 induction h with
 |nil=>rfl
 |cons _ _ ih=>rw[bY,ih];rfl
theorem gX.pop(h:gX p hl H (d::ds) HS):∃a i9,HS=i9++[.ref a]∧gJ (·≠hl) H a d.l d.r (d.aN p)∧gX p hl H ds i9:=by
 cases h with
 |cons h r=>exact⟨_,_,rfl,h,r⟩
theorem ad5:(HS++[V.ref a])[(HS++[V.ref a]).length-1]?=some (.ref a):=by simp
theorem ad6:(HS++[V.ref a]).dropLast=HS:=by simp
end
def TU(K:Frag):Sp:=λvs H Q _=>∃(p:Int)(a:Addr)(d:D1.Dr),vs=[.int p,.ref a]∧p∈cq∧H a=some (.lst (d.aQ.map di))∧d.wf p∧d.cL 64∧d.aQ.length≤9000000∧
 ∀t H' b TS,aK H H'→H' t=some (.lst [.int (d.l:Int),.int (d.r:Int),.ref b])→bf K H' b TS→bj K H' TS ((cD p (d.aN p)).map cj)→Q (.ref t) H'
noncomputable abbrev nMn:List Str:=["p","words","held","number","back","word","left","right","rows","one"]
theorem mv:cT ["p","words","held","number","back","word","left","right","rows","one"] ["p","words"] (bu CI):=de rfl rfl rfl (by decide +kernel) rfl
theorem ny1:(["row","left"]:List Str).Nodup:=by decide +kernel
def Ao(K:Frag)(te:TE):TS:=Bb (Gr K "list" Gv (aY 2) (bg te cm))
def xA(K:Frag):TE:=Bt K "list" Gw (aY 2)
def K2(K:Frag):TT:=ke (mY (λxs H Q=>∃(x:V)(b:Bool),xs=[x,.ty "int"]∧((∃i,x=.int i∧kitOne K (.type "int") (.type "int")=some b)∨∃s,x=.str s∧kitOne K (.type "str") (.type "int")=some b)∧Q (.bl b) H) (bg (aY 5) (bg (tC (.ty "int")) cm)))
def Ap(x:String):TT:=ke (bz qZ (aY 5) (tC (.str x)))
def ad7(K:Frag):TS:=cI (dz (xA K) (wj K 3 (jz (bX 6) (jz (bX 7) (jz (bX 8) uz)))))
 (Ao K (dN (bg (aY 7) (bg (aY 6) (bg (o7 (Bf K (aY 8)) 1 [6] (bX 0) jC (bz fX (ib (sN K) (aY 0) (gS (aY 1)) iK) (ib (sN K) (aY 0) iK (gS (aY 1))))) cm)))))
def ad8(K:Frag):TS:=cI (dz (xA K) (bX 9)) (Ao K (iD K0 [] E0 (bg (aY 0) (bg (aY 9) (bg (xA K) cm)))))
def ad9(K:Frag):TS:=cI (dz (xA K) (bX 9)) (Ao K (iD KY [] E0 (bg (aY 9) (bg (xA K) cm))))
def aea(K:Frag):TS:=Ao K (iD Ek [] E0 (bg (aY 0) (bg (aY 5) (bg (bz (nX K) (dN (bg (tC (.int 1)) (bg (aY 3) cm))) (mY (λxs H Q=>(∃i,xs=[.int i]∧Q (.int i) H)∨∃k,xs=[.bl k]∧Q (.int (if k then 1 else 0)) H) (bg (bz qZ (aY 5) (tC (.str "times"))) cm))) cm))))
theorem Et(hi:σ[2]?=some (some (.ref hl)))
  (gl:H hl=some (.lst HS))
  (h:∀R:VK,(∀a H1 nK,aK H0 H1→H1 hl=some (.lst nK)→nK.length≤9000000→gX p hl H1 ds nK→gJ (·≠hl) H1 a d.l d.r (d.aN p)→R (.ref a) H1)→te σ H R) (nL:H0 hl=none)
  (k:∀H' i9,aK H0 H'→H' hl=some (.lst i9)→gX p hl H' (d::ds) i9→D.nx σ H'):Ao K te D σ H:=by
 have z:(9000000:Nat)<sizeLine:=by decide
 refine⟨_,hi,.inl ⟨rfl,_,dq.of gl⟩,h _ λa H1 nK s1 g1 z1 h1 t1=>⟨hl,nK,.ref a,rfl,rfl,g1,by lia,?_⟩⟩;exact k _ _ (s1.write nL) aV (.cons t1.wr h1.wr)
theorem Eu{H1:Hp}{o:HO}{l r:Nat}{aN:LL}(g:H hl=some o)(t:gJ (λx=>H x=none) H1 a l r aN):gJ (·≠hl) H1 a l r aN:=t.weak λx hx e=>by
 rw[e,g]at hx;cases hx
def Aq(K:Frag):TS:=fb (K2 K) (dz (aY 5) (bX 3)) (fb (Ap "back") (ad7 K) (fb (Ap "then") (ad8 K) (fb (Ap "beside") (ad9 K) (aea K))))
theorem TV{y:Str}:decide (V.str x=V.str y)=decide (x=y):=by
 by_cases h:x=y
 ·rw[aC h,aC (ai V.str h)]
 ·rw[ab h,ab λz=>h (V.str.inj z)]
theorem xB{y:String}(h5:σ[5]?=some (some (.str x)))(cS:x≠Str.ofString y)(h:u D σ H):fb (Ap y) t u D σ H:=by
 refine⟨_,h5,rfl,_,rfl,?_⟩;rw[TV,ab cS];exact dW h
theorem K3{y:String}(h5:σ[5]?=some (some (.str (Str.ofString y))))(h:t D σ H):fb (Ap y) t u D σ H:=by
 refine⟨_,h5,rfl,_,rfl,?_⟩;rw[aC rfl];exact dZ h
theorem Ew(h5:σ[5]?=some (some (.str x)))(h:u D σ H):fb (K2 K) t u D σ H:=
 ⟨_,h5,_,false,rfl,.inr ⟨x,rfl,Hy K⟩,_,rfl,dW h⟩
theorem aeb{i:Int}(h5:σ[5]?=some (some (.int i)))(h:t D σ H):fb (K2 K) t u D σ H:=
 ⟨_,h5,_,true,rfl,.inl ⟨i,rfl,Hw K⟩,_,rfl,dZ h⟩
structure xC(p:Int)(d0:D1.Dr)(wl hl:Addr)(H0:Hp)(D:Ends)(i:Nat):Prop where
 nL:H0 hl=none
 nx:∀num s4 s5 s6 s7 s8 s9 i9 H',aK H0 H'→H' hl=some (.lst i9)→gX p hl H' (D1.iH (none,[d0]) i).2 i9→(∀m,(D1.iH (none,[d0]) i).1=some m→num=m)→D.nx [some (.int p),some (.ref wl),some (.ref hl),some (.int num),s4,s5,s6,s7,s8,s9] H'
theorem r9{x:String}{n':Int}(C:xC p d0 wl hl H0 D i)(e:D1.iH (none,[d0]) i=(none,d::ds))
  (sm:aK H0 H) (g:H hl=some (.lst HS)) (hz:HS.length≤9000000) (h:gX p hl H ds HS) (hn:n'=if x="times" then num else 1) (hb:Aj (Str.ofString x) n'=(d.l,d.r,d.aN p)) (hx:decide (Str.ofString x=Str.ofString "times")=decide (x="times"))
  (n1:Str.ofString x≠Str.ofString "back") (n2:Str.ofString x≠Str.ofString "then") (n3:Str.ofString x≠Str.ofString "beside") :
  Aq K D [some (.int p),some (.ref wl),some (.ref hl),some (.int num),s4,some (.str (Str.ofString x)),s6,s7,s8,s9] H:=by
 refine Ew rfl (xB rfl n1 (xB rfl n2 (xB rfl n3 ?_)));refine Et (d:=d) (ds:=ds) rfl g (λR k=>?_) C.nL λH' i9 s' g' h'=>C.nx _ _ _ _ _ _ _ i9 H' s' g' (by rw[e];exact h') (λm hm=>by rw[e]at hm;cases hm);refine⟨_,rfl,_,rfl,_,rfl,by show 2≤sizeLine;decide,λl uS=>⟨_,rfl,rfl,.inr ⟨_,rfl,?_⟩⟩⟩;have s1:aK H (upd H l (.lst [.int 1,.int num])):=.upd uS;have fin:∀idx v,idx=(if decide (x="times")=true then(1:Int)else 0)→nW [V.int 1,V.int num] idx=some v→v=.int n'→(nX K) (.ref l) (.int idx) (upd H l (.lst [.int 1,.int num])) λv H'=>Ek [.int p,.str (Str.ofString x),v] H' R E0:=λidx v e1 e2 e3=>by
  subst e3;refine⟨l,_,idx,_,rfl,rfl,.of aV,e2,p,Str.ofString x,n',rfl,?_⟩;rw[hb];intro a H2 s2 t2;exact k a H2 HS ((sm.trans s1).trans s2) ((s1.trans s2) _ _ g) hz (h.mono (s1.trans s2)) (Eu (s1 _ _ g) t2)
 rw[TV,hx];refine fin _ (.int n') rfl ?_ rfl;rw[hn];by_cases ht:x="times"
 ·rw[ae ht,aC ht,ae rfl];exact bw (j:=1) rfl
 ·rw[af ht,ab ht,af iz];exact bw (j:=0) rfl
theorem Ar{Q:VK}(hi:σ[2]?=some (some (.ref hl)))(g:H hl=some (.lst HS))(h:gX p hl H (d::ds) HS)(hz:HS.length≤9000000)(sm:aK H0 H)(nL:H0 hl=none)
  (k:∀a H1 nK,aK H0 H1→H1 hl=some (.lst nK)→nK.length≤9000000→gX p hl H1 ds nK→(∀{b:Addr}{l r:Nat}{aN:LL},gJ (·≠hl) H b l r aN→gJ (·≠hl) H1 b l r aN)→gJ (·≠hl) H1 a d.l d.r (d.aN p)→Q (.ref a) H1):xA K σ H Q:=by
 obtain⟨a,i9,rfl,t,h'⟩:=h.pop;refine⟨_,hi,.inl ⟨rfl,_,dq.of g⟩,hl,_,.ref a,rfl,rfl,g,ad5,?_⟩;rw[ad6];rw[bY]at hz;exact k a _ i9 (sm.write nL) aV (by lia) h'.wr (λt=>t.wr) t.wr
theorem aec(C:xC p d0 wl hl H0 D i)(e:D1.iH (none,[d0]) i=(none,.back d::ds))
  (sm:aK H0 H) (g:H hl=some (.lst HS)) (hz:HS.length≤9000000) (h:gX p hl H (d::ds) HS) (hR:∀q∈d.aN p,q.length=d.l+d.r) (hn:(d.aN p).length≤400) (hw:d.l+d.r≤400) :
  Aq K D [some (.int p),some (.ref wl),some (.ref hl),some (.int num),s4,some (.str (Str.ofString "back")),s6,s7,s8,s9] H:=by
 refine Ew rfl (K3 rfl ?_);refine Ar (p:=p) (d:=d) (ds:=ds) rfl g h hz sm C.nL λa H1 nK s1 g1 z1 h1 _ t1=>?_;obtain⟨na,b,XS,ga,nb,gb,hL⟩:=t1;refine rZ (.of ga) ?_;refine Et (d:=.back d) (ds:=ds) rfl g1 (λR k=>?_) C.nL λH' i9 s' g' h'=>C.nx _ _ _ _ _ _ _ i9 H' s' g' (by rw[e];exact h') (λm hm=>by rw[e]at hm;cases hm);refine⟨_,rfl,_,rfl,_,rfl,b,rfl,⟨_,.of gb⟩,KZ (g:=D1.oI d.l) (cp:=[some (.int (d.l:Int))]) gb hL (by lia) (λx row H2 eV s2 gx=>?_) ?_⟩
 ·have Ee:=hR row eV;refine qE (Am (a:=x) (ns:=row) rfl gx (fK rfl) (by lia)) (Al (a:=x) (ns:=row) rfl gx (fK rfl) (by lia)) ?_;simp only[cB,da];lia
 ·rintro H2 MS s2 hM lm og;refine⟨by show 3≤sizeLine;decide,λt ht=>?_⟩;obtain⟨s3,t3⟩:=gJ.new (l:=d.r) (r:=d.l) s2 hM og ht;exact k t _ nK (s1.trans s3) (s3 _ _ g1) z1 (h1.mono s3) (Eu g1 t3)
theorem aed{a b:D1.Dr}(pp:p∈cq)(C:xC p d0 wl hl H0 D i)(e:D1.iH (none,[d0]) i=(none,.bc a b::ds))
  (sm:aK H0 H) (g:H hl=some (.lst HS)) (hz:HS.length≤9000000) (h:gX p hl H (a::b::ds) HS) (Dz:b.l=a.r) (ra:Bw.bo p (a.l+a.r) (a.aN p)) (rb:Bw.bo p (b.l+b.r) (b.aN p)) (na:(a.aN p).length≤400) (nb:(b.aN p).length≤400) (wa:a.l+a.r≤400) (wb:b.l+b.r≤400) :
  Aq K D [some (.int p),some (.ref wl),some (.ref hl),some (.int num),s4,some (.str (Str.ofString "then")),s6,s7,s8,s9] H:=by
 refine Ew rfl (xB rfl (by decide) (K3 rfl ?_));refine Ar (p:=p) (d:=a) (ds:=b::ds) rfl g h hz sm C.nL λaa H1 nK s1 g1 z1 h1 _ t1=>?_;refine Et (d:=.bc a b) (ds:=ds) rfl g1 (λR k=>?_) C.nL λH' i9 s' g' h'=>C.nx _ _ _ _ _ _ _ i9 H' s' g' (by rw[e];exact h') (λm hm=>by rw[e]at hm;cases hm);refine⟨_,rfl,_,rfl,?_⟩;refine Ar (p:=p) (d:=b) (ds:=ds) rfl g1 h1 z1 s1 C.nL λbb H2 K4 s2 g2 z2 h2 up t2=>?_;rw[Dz]at t2 rb wb;refine⟨p,aa,bb,a.l,a.r,b.r,_,_,rfl,pp,(up t1).weak λ_ _=>trivial,t2.weak λ_ _=>trivial,ra,rb,na,nb,wa,wb,λt H3 s3 t3=>?_⟩;exact k t H3 K4 (s2.trans s3) (s3 _ _ g2) z2 (h2.mono s3) (Eu g2 t3)
theorem aee{a b:D1.Dr}(C:xC p d0 wl hl H0 D i)(e:D1.iH (none,[d0]) i=(none,.cC a b::ds))
  (sm:aK H0 H) (g:H hl=some (.lst HS)) (hz:HS.length≤9000000) (h:gX p hl H (a::b::ds) HS) (ra:Bw.bo p (a.l+a.r) (a.aN p)) (rb:Bw.bo p (b.l+b.r) (b.aN p)) (na:(a.aN p).length≤400) (nb:(b.aN p).length≤400) (wa:a.l+a.r≤400) (wb:b.l+b.r≤400) :
  Aq K D [some (.int p),some (.ref wl),some (.ref hl),some (.int num),s4,some (.str (Str.ofString "beside")),s6,s7,s8,s9] H:=by
 refine Ew rfl (xB rfl (by decide) (xB rfl (by decide) (K3 rfl ?_)));refine Ar (p:=p) (d:=a) (ds:=b::ds) rfl g h hz sm C.nL λaa H1 nK s1 g1 z1 h1 _ t1=>?_;refine Et (d:=.cC a b) (ds:=ds) rfl g1 (λR k=>?_) C.nL λH' i9 s' g' h'=>C.nx _ _ _ _ _ _ _ i9 H' s' g' (by rw[e];exact h') (λm hm=>by rw[e]at hm;cases hm);refine⟨_,rfl,?_⟩;refine Ar (p:=p) (d:=b) (ds:=ds) rfl g1 h1 z1 s1 C.nL λbb H2 K4 s2 g2 z2 h2 up t2=>?_;refine⟨aa,bb,a.l,a.r,b.l,b.r,_,_,rfl,(up t1).weak λ_ _=>trivial,t2.weak λ_ _=>trivial,λq hq=>(ra q hq).1,λq hq=>(rb q hq).1,na,nb,wa,wb,λt H3 s3 t3=>?_⟩;exact k t H3 K4 (s2.trans s3) (s3 _ _ g2) z2 (h2.mono s3) (Eu g2 t3)
theorem xD(pp:p∈cq)(h:d.wf p∧d.cL 64):Bw.bo p (d.l+d.r) (d.aN p)∧(d.aN p).length≤400∧d.l+d.r≤400:=by
 obtain⟨h1,h2,_⟩:=D1.vk pp h.1
 have:=D1.RV (B:=64) (by decide) h.2
 exact⟨h1,by lia,by lia⟩
theorem aef{wd:D1.Wd}(pp:p∈cq)(C:xC p d0 wl hl H0 D i)(ok:D1.ma p 64 (D1.iH (none,[d0]) i))
  (hw:(D1.mn (D1.iH (none,[d0]) i))[0]?=some wd) (sm:aK H0 H) (g:H hl=some (.lst HS)) (hz:HS.length≤9000000) (h:gX p hl H (D1.iH (none,[d0]) (i+1)).2 HS) (hn:∀m,(D1.iH (none,[d0]) (i+1)).1=some m→num=m) :
  Aq K D [some (.int p),some (.ref wl),some (.ref hl),some (.int num),s4,some (di wd),s6,s7,s8,s9] H:=by
 have e1:D1.iH (none,[d0]) (i+1)=D1.vm (D1.iH (none,[d0]) i):=rfl;rw[e1]at h hn;generalize hs:D1.iH (none,[d0]) i=st at h hn ok hw;obtain⟨ν,ds⟩:=st;cases ν with
 |some m=>
  cases hw;exact aeb rfl ⟨_,rfl,C.nx _ _ _ _ _ _ _ HS H sm g (by rw[hs];exact h) (λm' hm=>by rw[hs]at hm;cases hm;rfl)⟩
 |none=>
  cases ds with
  |nil=>cases hw
  |cons d ds=>
   have hd:=ok.2 d ek;cases d with
   |times n=>
    cases hw
    have:num=n:=hn n rfl
    subst this;exact r9 (x := "times") (n':=num) C hs sm g hz h rfl rfl (by decide) (by decide) (by decide) (by decide)
   |id=>cases hw;exact r9 (x := "id") (n':=1) C hs sm g hz h rfl rfl (by decide) (by decide) (by decide) (by decide)
   |swap=>cases hw;exact r9 (x := "swap") (n':=1) C hs sm g hz h rfl rfl (by decide) (by decide) (by decide) (by decide)
   |copy=>cases hw;exact r9 (x := "copy") (n':=1) C hs sm g hz h rfl rfl (by decide) (by decide) (by decide) (by decide)
   |fin=>cases hw;exact r9 (x := "end") (n':=1) C hs sm g hz h rfl rfl (by decide) (by decide) (by decide) (by decide)
   |add=>cases hw;exact r9 (x := "add") (n':=1) C hs sm g hz h rfl rfl (by decide) (by decide) (by decide) (by decide)
   |none=>cases hw;exact r9 (x := "none") (n':=1) C hs sm g hz h rfl rfl (by decide) (by decide) (by decide) (by decide)
   |jY=>cases hw;exact r9 (x := "cup") (n':=1) C hs sm g hz h rfl rfl (by decide) (by decide) (by decide) (by decide)
   |empty=>cases hw;exact r9 (x := "empty") (n':=1) C hs sm g hz h rfl rfl (by decide) (by decide) (by decide) (by decide)
   |back d=>
    cases hw;obtain⟨r1,r2,r3⟩:=xD pp (d:=d) hd;exact aec C hs sm g hz h (λq hq=>(r1 q hq).1) r2 r3
   |bc a b=>
    cases hw;obtain⟨a1,a2,a3⟩:=xD pp (d:=a) ⟨hd.1.1,hd.2.1⟩;obtain⟨b1,b2,b3⟩:=xD pp (d:=b) ⟨hd.1.2.1,hd.2.2.1⟩;exact aed pp C hs sm g hz h hd.1.2.2.symm a1 b1 a2 b2 a3 b3
   |cC a b=>
    cases hw;obtain⟨a1,a2,a3⟩:=xD pp (d:=a) ⟨hd.1.1,hd.2.1⟩;obtain⟨b1,b2,b3⟩:=xD pp (d:=b) ⟨hd.1.2,hd.2.2.1⟩;exact aee C hs sm g hz h a1 b1 a2 b2 a3 b3
theorem aeg{f fB fT fS fR:Addr}{fd tP oo eS zW:FuncData}(F:cA K "_law_meaning" "_law_meaning" CI f fd)(T:Txt mg)
  (GT:br P w K mg base bp 3 fT oo ["p","one","other"] K0) (kT:Kp K fT) (bT:Binds K oo ["p","one","other"] []) (mT:Mg mg "_law_then" fT)
  (GS:br P w K mg base bp 1 fS eS ["one","other"] KY) (kS:Kp K fS) (bS:Binds K eS ["one","other"] []) (mS:Mg mg "_law_beside" fS)
  (GB:br P w K mg base bp 1 fB tP ["p","word","number"] Ek) (kB:Kp K fB) (bB:Binds K tP ["p","word","number"] []) (mB:Mg mg "_law_box" fB)
  (GR:br P w K mg base bp 3 fR zW ["p","rows","size"] (Ts K)) (kR:Kp K fR) (bR:Binds K zW ["p","rows","size"] []) (mR:Mg mg "_law_reduced" fR) :
  br P w K mg base bp 4 f fd ["p","words"] (TU K):=by
 refine F.ok mv (λvs H Q E h=>?_) (λbE A outer s H vs Q E hr h=>?_)
 ·obtain⟨p,a,d,rfl,_⟩:=h;rfl
 ·obtain⟨p,a,d,rfl,pp,ga,wf,nr,cF,q⟩:=h;have iM:dt 1 _:=hr.mono (by lia);refine⟨_,ba (bH (i:=2) mv.nd rfl (.inl rfl) (cE aO)) (ba (bH (i:=3) mv.nd rfl (.inl rfl) aW) (ba (kc lD rfl (qX rfl T.range (aJ (eG (gk K rfl) rfl T.len gm (aJ (pv 1) aO)) aO)) (cx (i:=4) mv.nd rfl (.inl rfl)) (ba (bH (i:=5) mv.nd rfl (.inl rfl) (bt (cU K rfl) (pv 1) (aX iS (aX iS (eG (gk K rfl) rfl T.len gm (aJ (pv 1) aO)) aW) (pv 4)) (λ_ _=>rfl))) (bq (cX (ux (eG (TR K rfl (T := "int")) rfl T.isinstance BZ (aJ (pv 5) (aJ (BR rfl T.int BX) aO)))) (bq (bH (i:=3) mv.nd rfl (.inl rfl) (pv 5))) (bq (cX (cM eO (pv 5) cz (cJ _)) (ba (mK (wz K rfl (pv 2)) (rq rfl (eF (cx (i:=6) mv.nd rfl (Or.inr rfl)) (eF (cx (i:=7) mv.nd rfl (.inl rfl)) (eF (cx (i:=8) mv.nd rfl (.inl rfl)) lX))))) (bq (mH (qk p7 uh ui rf (pv 2) (aJ (cE (aJ (pv 7) (aJ (pv 6) (aJ (iV (N:=["row","left"]) (own:=1) (caps:=[6]) rfl (iZ K rfl (pv 8)) (show dJ nMn (bu CI) ["row","left"] 1 [6] _ from .mk' (by decide +kernel)) (λ_ _ _ _ _=>cx (i:=0) ny1 rfl (.inl rfl)) (λ_ _ _ _ _=>fq) (λ_ _ _ _ _=>aX eQ (dD (kl K rfl) (pv 0) (dj (pv 1)) dQ) (dD (kl K rfl) (pv 0) dQ (dj (pv 1))))) aO)))) aO))))) (bq (cX (cM eO (pv 5) cz (cJ _)) (ba (bH (i:=9) mv.nd rfl (.inl rfl) (wz K rfl (pv 2))) (bq (mH (qk p7 uh ui rf (pv 2) (aJ (bZ GT hr rfl mT kT bT .nil cb (aJ (pv 0) (aJ (pv 9) (aJ (wz K rfl (pv 2)) aO)))) aO))))) (bq (cX (cM eO (pv 5) cz (cJ _)) (ba (bH (i:=9) mv.nd rfl (.inl rfl) (wz K rfl (pv 2))) (bq (mH (qk p7 uh ui rf (pv 2) (aJ (bZ GS iM rfl mS kS bS .nil cb (aJ (pv 9) (aJ (wz K rfl (pv 2)) aO))) aO))))) (bq (mH (qk p7 uh ui rf (pv 2) (aJ (bZ GB iM rfl mB kB bB .nil cb (aJ (pv 0) (aJ (pv 5) (aJ (bt (cU K rfl) (cE (aJ aW (aJ (pv 3) aO))) (gz XE rfl T.int BX (aJ (Gf eO (pv 5) cz (cJ _)) aO)) (λ_ _=>rfl)) aO)))) aO)))))))))))))) (ba (mK (bt (cU K rfl) (pv 2) aW (λ_ _=>rfl)) (rq rfl (eF (cx (i:=6) mv.nd rfl (Or.inr rfl)) (eF (cx (i:=7) mv.nd rfl (.inl rfl)) (eF (cx (i:=8) mv.nd rfl (.inl rfl)) lX))))) (bq (bV (cE (aJ (pv 6) (aJ (pv 7) (aJ (bZ GR hr rfl mR kR bR .nil cb (aJ (pv 0) (aJ (pv 8) (aJ (aX eU (pv 6) (pv 7)) aO)))) aO))))))))),?_⟩
  have z9:(9000000:Nat)<sizeLine:=by decide
  refine⟨by decide,λhl TX=>?_⟩;have s0:aK H (upd H hl (.lst [])):=.upd TX;have g0:(upd H hl (.lst [])) hl=some (.lst []):=aV;generalize upd H hl (.lst [])=H0 at s0 g0 ⊢;have eN:(d.aQ.map di).length=d.aQ.length:=aZ _;have okd:D1.ma p 64 (none,[d]):=⟨λm e=>(nomatch e),λd' h'=>by rw[dP.mp h'];exact⟨wf,nr⟩⟩;refine⟨_,rfl,a,_,rfl,.inl (.of (s0 _ _ ga)),_,rfl,by lia,by lia,uB (n:=(d.aQ.map di).length) (λk σ H'=>aK H H'∧∃num s4 s5 s6 s7 s8 s9 HS,σ=[some (.int p),some (.ref a),some (.ref hl),some (.int num),s4,s5,s6,s7,s8,s9]∧H' hl=some (.lst HS)∧gX p hl H' (D1.iH (none,[d]) (d.aQ.length-k)).2 HS∧∀m,(D1.iH (none,[d]) (d.aQ.length-k)).1=some m→num=m) ⟨s0,1,none,none,none,none,none,none,[],rfl,g0,?_,λm e=>?_⟩ ?_ ?_⟩
  ·rw[Nat.sub_zero,D1.RZ];exact .nil
  ·rw[Nat.sub_zero,D1.RZ]at e;cases e
  ·rintro k σ H1 hk ⟨sm,num,s4,s5,s6,s7,s8,s9,HS,rfl,g,hH,hn⟩;rw[eN]at hk;rw[jy];obtain⟨i,hi⟩:∃i,d.aQ.length-k=i+1:=⟨d.aQ.length-k-1,by lia⟩;rw[hi]at hH hn;have uQ:d.aQ.length-(k+1)=i:=by lia
   have jU:i<d.aQ.length:=by lia
   have hw:=D1.ada (d:=d) (i:=i);rw[cf jU]at hw;have pd:=D1.adb d (i+1);have hz:=hH.len;refine⟨_,rfl,_,rfl,a,_,rfl,.inl (.of (sm _ _ ga)),_,_,rfl,rfl,_,rfl,_,_,rfl,rfl,a,_,(i:Int),di (d.aQ[i]),rfl,?_,.of (sm _ _ ga),bw (by rw[dU,cf jU];rfl),?_⟩
   ·refine ai V.int ?_;rw[eN];lia
   refine aef pp (⟨TX,λaeh s4' s5' s6' s7' s8' s9' i9 H' s' g' h' FO=>?_⟩:xC p d a hl H _ i) (D1.RY okd i) hw.symm sm g (by lia) hH hn;refine⟨s',aeh,s4',s5',s6',s7',s8',s9',i9,rfl,g',?_,?_⟩
   ·rw[uQ];exact h'
   ·rw[uQ];exact FO
  ·rintro σ H1 ⟨sm,num,s4,s5,s6,s7,s8,s9,HS,rfl,g,hH,hn⟩;rw[eN,Nat.sub_self]at hH;obtain⟨t,i9,rfl,⟨nt,b,XS,gt,nb,gb,hL⟩,fY⟩:=gX.pop (d:=d) (ds:=[]) hH;cases fY;obtain⟨r1,r2,r3⟩:=xD pp ⟨wf,nr⟩;refine⟨_,rfl,hl,_,0,.ref t,rfl,rfl,.of g,bw (j:=0) rfl,rZ (.of gt) ?_⟩;refine⟨_,rfl,_,rfl,_,rfl,_,rfl,_,rfl,_,rfl,_,_,rfl,rfl,p,b,XS,d.aN p,d.l+d.r,?_,pp,gb,hL.weak λ_ _=>trivial,by lia,by lia,r1,λu H2 DS s2 h2 h3=>⟨by show 3≤sizeLine;lia,λv hv=>?_⟩⟩
   ·rw[sr];rfl
   ·exact q v _ u DS ((sm.trans s2).trans (.upd hv)) aV ((aK.upd hv).bh h2) (h3.mono (.upd hv))
def WL(H:Hp)(b:Addr)(d:D1.Dr):Prop:=H b=some (.lst (d.aQ.map di))
def WT(H:Hp)(a:Addr)(d:D1.Dr):Prop:=∃b,H a=some (.lst [.ref b,.int (d.l:Int),.int (d.r:Int)])∧WL H b d
def ja(H:Hp)(vs:List V)(ds:List D1.Dr):Prop:=vs.length=ds.length∧∀(i:Nat)(v:V)(d:D1.Dr),vs[i]?=some v→ds[i]?=some d→∃a,v=.ref a∧WT H a d
theorem WT.mono{H':Hp}(h:WT H a d)(s:aK H H'):WT H' a d:=let ⟨b,g1,g2⟩:=h;⟨b,s _ _ g1,s _ _ g2⟩
theorem ja.mono{H H':Hp}{vs:List V}{ds:List D1.Dr}(h:ja H vs ds)(s:aK H H'):ja H' vs ds:=⟨h.1,λi v d e1 e2=>let ⟨a,e,w⟩:=h.2 i v d e1 e2;⟨a,e,w.mono s⟩⟩
theorem ja.nil:ja H [] []:=⟨rfl,λi v d e=>by simp at e⟩
theorem ja.cons(h:WT H a d)(r:ja H vs ds):ja H (.ref a::vs) (d::ds):=⟨by rw[eE,eE,r.1],λi v d' e1 e2=>by
 cases i with
 |zero=>cases e1;cases e2;exact⟨a,rfl,h⟩
 |succ i=>exact r.2 i v d' e1 e2⟩
theorem ja.append{ws:List V}{es:List D1.Dr}(h:ja H vs ds)(k:ja H ws es):ja H (vs++ws) (ds++es):=⟨by rw[bY,bY,h.1,k.1],λi v d e1 e2=>by
 by_cases hi:i<vs.length
 ·rw[ia hi]at e1;rw[ia (by rw[← h.1];exact hi)]at e2;exact h.2 i v d e1 e2
 ·rw[iI (by lia)]at e1;rw[iI (by rw[← h.1];lia),← h.1]at e2;exact k.2 _ v d e1 e2⟩
noncomputable def As:List Expr→Option (List Str)
 | []=>some []
 | .Constant (.str x) _ _::es=>(As es).map (x::·)
 |_=>none
theorem TY{X:Cx}:∀(es:List Expr)(xs:List Str),As es=some xs→PA X es (λ_ H Q=>Q (xs.map V.str) H)
 | [],xs,h=>by cases h;exact aO
 |e::es,xs,h=>by
  unfold As at h;split at h
  case h_1=>rename_i z;cases z
  case h_2 x _ _ es' z=>
   cases z;cases e:As es with
   |none=>rw[e]at h;cases h
   |some ys=>
    rw[e]at h;cases h;exact aJ cz (TY es ys e)
  case h_3=>cases h
noncomputable def K5:Expr→Option (List Str×Int×Int)
 | .List [.List ws _,.Constant (.int l) _ _,.Constant (.int r) _ _] _=>match As ws with
  |some xs=>some (xs,l,r)
  |none=>none
 |_=>none
def nM(ws:List Str)(l r:Int):TE:=dN (bg (dN (λ_ H Q=>Q (ws.map V.str) H)) (bg (tC (.int l)) (bg (tC (.int r)) cm)))
theorem aei{X:Cx}{e:Expr}{ws:List Str}{l r:Int}(h:K5 e=some (ws,l,r)):PE X e (nM ws l r):=by
 unfold K5 at h;split at h
 case h_2=>exact nomatch h
 case h_1 w p1 l' i1 p2 r' i2 p3 pos=>
  split at h
  case h_2=>exact nomatch h
  case h_1 xs h1=>
   cases h;exact cE (aJ (cE (TY w _ h1)) (aJ aW (aJ aW aO)))
section
variable{K:Frag}{σ:St}{H:Hp}
def K6(te:TE)(σ:St)(H:Hp)(d:D1.Dr):Prop:=∀H',aK H H'→∀R:VK,(∀a eT,aK H' eT→WT eT a d→R (.ref a) eT)→te σ H' R
def Ex(ta:TA)(σ:St)(H:Hp)(ds:List D1.Dr):Prop:=∀H',aK H H'→∀Q:List V→Hp→Prop,(∀vs eT,aK H' eT→ja eT vs ds→Q vs eT)→ta σ H' Q
theorem K7:Ex cm σ H []:=λH' _ _ q=>q [] H' (.refl _) .nil
theorem pP{ta:TA}(h:K6 te σ H d)(k:Ex ta σ H ds):Ex (bg te ta) σ H (d::ds):=λH' s _ q=>
 h H' s _ λ_ H1 s1 w=>k H1 (s.trans s1) _ λ_ H2 s2 r=>q _ H2 (s1.trans s2) (.cons (w.mono s2) r)
theorem qG{ws:List Str}{l r:Int}(hw:ws.map V.str=d.aQ.map di)(hl:l=d.l)(hr:r=d.r)(hn:ws.length≤10):K6 (nM ws l r) σ H d:=λH' s R q=>by
 have z:(10:Nat)≤sizeLine:=by decide
 refine⟨by rw[aZ];lia,λb hb=>⟨by show 3≤sizeLine;lia,λa ha=>q a _ ((aK.upd hb).trans (.upd ha)) ⟨b,?_,?_⟩⟩⟩
 ·rw[aV,hl,hr]
 ·show _=_;rw[← hw];exact aK.upd ha _ _ aV
theorem aej{k:Int}(h:σ[i]?=some (some (.int k))):K6 (dN (bg (dN (bg (tC (.str (Str.ofString "times"))) (bg (aY i) cm))) (bg (tC (.int 1)) (bg (tC (.int 1)) cm)))) σ H (.times k):=λH' s R q=>
 ⟨_,h,by show 2≤sizeLine;decide,λb hb=>⟨by show 3≤sizeLine;decide,λa ha=>q a _ ((aK.upd hb).trans (.upd ha)) ⟨b,aV,aK.upd ha _ _ aV⟩⟩⟩
end
def Ey(_K:Frag):Sp:=λvs H Q _=>∃(p c:Int),vs=[.int p,.int c]∧p∈cq∧∀a d H',aK H H'→WT H' a d→d.wf p→d.cL 64→d.aQ.length≤3→d.l+d.r≤4→Q (.ref a) H'
theorem t8:cT ["p","cell","k","some","words","left","right"] ["p","cell"] (bu IS):=de rfl rfl rfl (by decide +kernel) rfl
def Ez:TE:=dN (bg (nM ["id"] 1 1) (bg (nM ["swap"] 2 2) (bg (nM ["copy"] 1 2) (bg (nM ["end"] 1 0) (bg (nM ["add"] 2 1) cm)))))
def EA:TE:=dN (bg (nM ["none"] 0 1) (bg (dN (bg (dN (bg (tC (.str (Str.ofString "times"))) (bg (aY 2) cm))) (bg (tC (.int 1)) (bg (tC (.int 1)) cm)))) (bg (nM ["cup"] 0 2) (bg (nM ["empty"] 0 0) cm))))
def EB:TE:=dN (bg (nM ["copy"] 1 2) (bg (nM ["add"] 2 1) cm))
def K8(K:Frag):TS:=cI (dz (bz (nX K) (aY 3) (bz (rI (λ_ j=>0<j) λi j=>.int (i%j)) (aY 1) (tC (.int 11)))) (wj K 3 (jz (bX 4) (jz (bX 5) (jz (bX 6) uz)))))
 (cI (fb (ke (bz qZ (bz (rI (λ_ j=>0<j) λi j=>.int (i%j)) (bz (rI qY λi j=>.int (i/j)) (aY 1) (tC (.int 11))) (tC (.int 4))) (tC (.int 1)))) (gR (dN (bg (bz fX (dN (bg (tC (.str (Str.ofString "back"))) cm)) (aY 4)) (bg (aY 6) (bg (aY 5) cm))))) iR) (gR (dN (bg (aY 4) (bg (aY 5) (bg (aY 6) cm))))))
theorem K9{ta:TA}(h:Ex ta σ H ds)(hl:ds.length≤100)(q:∀a vs H',aK H H'→H' a=some (.lst vs)→ja H' vs ds→R (.ref a) H'):dN ta σ H R:=by
 have z:(100:Nat)≤sizeLine:=by decide
 refine h H (.refl _) _ λvs H1 s1 hd=>⟨by rw[hd.1];lia,λa ha=>?_⟩;exact q a vs _ (s1.trans (.upd ha)) aV (hd.mono (.upd ha))
noncomputable def ED(k:Int):List D1.Dr:=([.id,.swap,.copy,.fin,.add]++[.none,.times k,.jY,.empty])++[.copy,.add]
theorem aek{k:Int}(h0:0≤k)(h1:k<p)(h:(ED k)[i]?=some d):d.wf p∧d.cL 64∧d.aQ.length≤2∧d.l+d.r≤4:=by
 have:=cZ h
 simp only[ED,dI,eW,xZ,or_false]at this;rcases this with((rfl|rfl|rfl|rfl|rfl)|(rfl|rfl|rfl|rfl))|(rfl|rfl);all_goals first
  |exact⟨True.intro,True.intro,by decide,by decide⟩
  |exact⟨⟨h0,h1⟩,True.intro,Nat.le.refl,by show 1+1≤4;decide⟩
theorem ael{K:Frag}{c k:Int}(h0:0≤k)(h1:k<p)(g:H a=some (.lst vs))(hd:ja H vs (ED k))(q:∀a d H',aK H H'→WT H' a d→d.wf p→d.cL 64→d.aQ.length≤3→d.l+d.r≤4→D.rt (.ref a) H'):K8 K D [some (.int p),some (.int c),some (.int k),some (.ref a),none,none,none] H:=by
 have z:(100:Nat)≤sizeLine:=by decide
 have cF:vs.length=11:=hd.1;have b0:=lR c (show(11:Int)≠0 by decide);have b1:=lS c (show(0:Int)<11 by decide);obtain⟨i,hi⟩:∃i:Nat,c%11=(i:Int):=⟨(c%11).toNat,by lia⟩;obtain⟨v,hv⟩:∃v,vs[i]?=some v:=⟨_,cf (show i<vs.length by lia)⟩;obtain⟨d,TZ⟩:∃d,(ED k)[i]?=some d:=⟨_,cf (show i<11 by lia)⟩;obtain⟨v,rfl,b,gv,gb⟩:=hd.2 i _ d hv TZ;obtain⟨w1,w2,w3,w4⟩:=aek h0 h1 TZ;refine⟨_,rfl,_,rfl,c,11,rfl,rfl,(by decide:(0:Int)<11),a,vs,c%11,.ref v,rfl,rfl,.of g,by rw[hi];exact bw hv,rZ (.of gv) ?_⟩;refine⟨_,rfl,c,11,rfl,rfl,⟨by decide,by decide⟩,c/11,4,rfl,rfl,(by decide:(0:Int)<4),rfl,_,rfl,?_⟩;dsimp only;split
 ·refine⟨by show 1≤sizeLine;lia,λt ht=>⟨_,rfl,t,b,_,_,rfl,rfl,aV,aK.upd ht _ _ gb,by rw[aZ];show 1+_≤sizeLine;lia,λe he=>⟨_,rfl,_,rfl,by show 3≤sizeLine;lia,λx hx=>?_⟩⟩⟩;refine q x (.back d) _ ((aK.upd ht).trans ((aK.upd he).trans (.upd hx))) ⟨e,aV,aK.upd hx _ _ aV⟩ w1 w2 (by show d.aQ.length+1≤3;lia) (by show d.r+d.l≤4;lia)
 ·refine⟨_,rfl,_,rfl,_,rfl,by show 3≤sizeLine;lia,λx hx=>?_⟩;exact q x d _ (.upd hx) ⟨b,aV,aK.upd hx _ _ gb⟩ w1 w2 (by lia) w4
theorem kY(h:te σ H λx H1=>u D (σ.set i (some x)) H1):cI (dz te (bX i)) u D σ H:=h
theorem aem(q:∀a vs H',aK H H'→H' a=some (.lst vs)→ja H' vs [.id,.swap,.copy,.fin,.add]→R (.ref a) H'):Ez σ H R:=by
 unfold Ez;refine K9 (pP ?_ (pP ?_ (pP ?_ (pP ?_ (pP ?_ K7))))) ?_ q
 ·exact qG rfl rfl rfl (by decide)
 ·exact qG rfl rfl rfl (by decide)
 ·exact qG rfl rfl rfl (by decide)
 ·exact qG rfl rfl rfl (by decide)
 ·exact qG rfl rfl rfl (by decide)
 ·exact vG rfl
theorem aen{k:Int}(h:σ[2]?=some (some (.int k)))(q:∀a vs H',aK H H'→H' a=some (.lst vs)→ja H' vs [.none,.times k,.jY,.empty]→R (.ref a) H'):EA σ H R:=by
 unfold EA;refine K9 (pP ?_ (pP ?_ (pP ?_ (pP ?_ K7)))) ?_ q
 ·exact qG rfl rfl rfl (by decide)
 ·exact aej h
 ·exact qG rfl rfl rfl (by decide)
 ·exact qG rfl rfl rfl (by decide)
 ·exact vG rfl
theorem aeo(q:∀a vs H',aK H H'→H' a=some (.lst vs)→ja H' vs [.copy,.add]→R (.ref a) H'):EB σ H R:=by
 unfold EB;refine K9 (pP ?_ (pP ?_ K7)) ?_ q
 ·exact qG rfl rfl rfl (by decide)
 ·exact qG rfl rfl rfl (by decide)
 ·exact vG rfl
theorem T1{b:Addr}{ws:List V}{es:List D1.Dr}(g:H a=some (.lst vs))(g':H b=some (.lst ws))(hd:ja H vs ds)(he:ja H ws es)(hl:ds.length+es.length≤100)(q:∀c H',aK H H'→H' c=some (.lst (vs++ws))→ja H' (vs++ws) (ds++es)→R (.ref c) H'):fX (.ref a) (.ref b) H R:=by
 have z:(100:Nat)≤sizeLine:=by decide
 refine⟨a,b,vs,ws,rfl,rfl,g,g',by rw[hd.1,he.1];lia,λc hc=>q c _ (.upd hc) aV ((hd.append he).mono (.upd hc))⟩
theorem T2{f:Addr}{fd:FuncData}(F:cA K "_law_some_box" "_law_some_box" IS f fd):br P w K mg base bp 1 f fd ["p","cell"] (Ey K):=by
 refine F.ok t8 (λvs H Q E h=>?_) (λbE A outer s H vs Q E hr h=>?_)
 ·obtain⟨p,c,rfl,_⟩:=h;rfl
 ·obtain⟨p,c,rfl,pp,q⟩:=h;refine⟨cI (dz (bz (rI (λ_ j=>0<j) λi j=>.int (i%j)) (bz (rI qY λi j=>.int (i/j)) (aY 1) (tC (.int 40))) (aY 0)) (bX 2)) (cI (dz Ez (bX 3)) (cI (dz (bz fX (aY 3) EA) (bX 3)) (cI (dz (bz fX (aY 3) EB) (bX 3)) (K8 K)))),?_,?_⟩
  ·refine ba ?_ ?_
   ·exact bH (i:=2) t8.nd rfl (.inl rfl) (aX iC (aX kd (pv 1) aW) (pv 0))
   have bx:∀{X:Cx}{e:Expr}{es:List Expr}{ws:List Str}{l r:Int}{t:TA},K5 e=some (ws,l,r)→PA X es t→starEach (e::es) X.env=(false,eval e X.env)::starEach es X.env→PA X (e::es) (bg (nM ws l r) t):=λh k hs=>aJ (aei h) k hs;refine ba ?_ ?_
   ·refine bH (i:=3) ?_ ?_ ?_ ?_ ?_ ?_
    ·exact t8.nd
    ·rfl
    ·exact Or.inl rfl
    ·unfold Ez;refine cE ?_;refine bx ?_ ?_ ?_
     ·kernel_rfl
     rotate_left
     ·rfl
     refine bx ?_ ?_ ?_
     ·kernel_rfl
     rotate_left
     ·rfl
     refine bx ?_ ?_ ?_
     ·kernel_rfl
     rotate_left
     ·rfl
     refine bx ?_ ?_ ?_
     ·kernel_rfl
     rotate_left
     ·rfl
     refine bx ?_ ?_ ?_
     ·kernel_rfl
     rotate_left
     ·rfl
     exact aO
    ·rfl
    ·exact .inl rfl
   refine ba ?_ ?_
   ·refine bH (i:=3) ?_ ?_ ?_ ?_ ?_ ?_
    ·exact t8.nd
    ·rfl
    ·exact Or.inl rfl
    ·refine aX eQ (pv 3) ?_;unfold EA;refine cE ?_;refine bx ?_ ?_ ?_
     ·kernel_rfl
     rotate_left
     ·rfl
     refine aJ ?_ ?_ ?_
     ·exact cE (aJ (cE (aJ cz (aJ (pv 2) aO))) (aJ aW (aJ aW aO)))
     ·refine bx ?_ ?_ ?_
      ·kernel_rfl
      rotate_left
      ·rfl
      refine bx ?_ ?_ ?_
      ·kernel_rfl
      rotate_left
      ·rfl
      exact aO
     ·rfl
    ·rfl
    ·exact .inl rfl
   refine ba ?_ ?_
   ·refine bH (i:=3) ?_ ?_ ?_ ?_ ?_ ?_
    ·exact t8.nd
    ·rfl
    ·exact Or.inl rfl
    ·refine aX eQ (pv 3) ?_;unfold EB;refine cE ?_;refine bx ?_ ?_ ?_
     ·kernel_rfl
     rotate_left
     ·rfl
     refine bx ?_ ?_ ?_
     ·kernel_rfl
     rotate_left
     ·rfl
     exact aO
    ·rfl
    ·exact .inl rfl
   unfold K8;refine ba ?_ ?_
   ·exact mK (bt (cU K rfl) (pv 3) (aX iC (pv 1) aW) (λ_ _=>rfl)) (rq rfl (eF (cx (i:=4) t8.nd rfl (.inl rfl)) (eF (cx (i:=5) t8.nd rfl (.inl rfl)) (eF (cx (i:=6) t8.nd rfl (.inl rfl)) lX))))
   refine ba ?_ ?_
   ·exact cX (cM eO (aX iC (aX kd (pv 1) aW) aW) aW (cJ _)) (bq (bV (cE (aJ (aX eQ (cE (aJ cz aO)) (pv 4)) (aJ (pv 6) (aJ (pv 5) aO)))))) dy
   ·exact bq (bV (cE (aJ (pv 4) (aJ (pv 5) (aJ (pv 6) aO)))))
  have p0:0<p:=by have:=(fe p pp).1;lia
  have k0:=lR (c/40) (show p≠0 by lia);have k1:=lS (c/40) p0;refine kY ⟨_,rfl,c,40,rfl,rfl,⟨by decide,by decide⟩,_,rfl,c/40,p,rfl,rfl,p0,?_⟩;dsimp only;generalize c/40%p=k at k0 k1 ⊢;refine kY (aem λa1 v1 H1 s1 g1 d1=>?_);refine kY ⟨_,rfl,aen rfl λa2 v2 H2 s2 g2 d2=>?_⟩;refine T1 (s2 _ _ g1) g2 (d1.mono s2) d2 (vG rfl) λa3 H3 s3 g3 d3=>?_;refine kY ⟨_,rfl,aeo λa4 v4 H4 s4 g4 d4=>?_⟩;refine T1 (s4 _ _ g3) g4 (d3.mono s4) d4 (vG rfl) λa5 H5 s5 g5 d5=>?_;exact ael k0 k1 g5 d5 λa d H' s'=>q a d H' (s1.trans (s2.trans (s3.trans (s4.trans (s5.trans s')))))
end S21
namespace D1
noncomputable def pQ:List Dr→Dr
 | []=>.empty
 | [d]=>d
 |d::e::ds=>.cC d (pQ (e::ds))
noncomputable def pR(ds:List Dr):List Wd:=ds.flatMap λd=>.w "beside"::d.aQ
theorem La:∀(es:List Dr)(d:Dr),(pQ (es++[d])).aQ=pR es++d.aQ
 | [],d=>rfl
 | [e],d=>by
  show Wd.w "beside"::(e.aQ++d.aQ)=((Wd.w "beside"::e.aQ)++[])++d.aQ;rw[j8];rfl
 |e::f::es,d=>by
  show Wd.w "beside"::(e.aQ++(pQ ((f::es)++[d])).aQ)=_;rw[La (f::es) d];show _=(Wd.w "beside"::e.aQ)++pR (f::es)++d.aQ;rw[jr,qK]
theorem EE{B:Nat}:∀(es:List Dr),(∀e∈es,e.aQ.length≤B)→(pR es).length≤es.length*(B+1)
 | [],_=>j7 _
 |e::es,h=>by
  have h1:=h e (.head _);have h2:=EE es λx hx=>h x (.tail _ hx);show((Wd.w "beside"::e.aQ)++pR es).length≤(es.length+1)*(B+1);rw[bY,eE,Nat.add_mul];lia
theorem aep(es:List Dr)(e:Dr):pR (es++[e])=pR es++([.w "beside"]++e.aQ):=by
 unfold pR;rw[List.flatMap_append];show _++((Wd.w "beside"::e.aQ)++[])=_;rw[j8];rfl
noncomputable def l8(ds:List Dr):Nat:=ds.foldr (λd n=>d.l+n) 0
noncomputable def nN(ds:List Dr):Nat:=ds.foldr (λd n=>d.r+n) 0
theorem EF:∀ds:List Dr,(pQ ds).l=l8 ds
 | []=>rfl
 | [_]=>rfl
 |d::e::ds=>by
  show d.l+(pQ (e::ds)).l=d.l+l8 (e::ds);rw[EF (e::ds)]
theorem EG:∀ds:List Dr,(pQ ds).r=nN ds
 | []=>rfl
 | [_]=>rfl
 |d::e::ds=>by
  show d.r+(pQ (e::ds)).r=d.r+nN (e::ds);rw[EG (e::ds)]
theorem T3{p:Int}:∀ds:List Dr,(∀d∈ds,d.wf p)→(pQ ds).wf p
 | [],_=>True.intro
 | [_],h=>h _ (.head _)
 |d::e::ds,h=>⟨h d (.head _),T3 (e::ds) λx hx=>h x (.tail _ hx)⟩
theorem T4{B:Nat}:∀ds:List Dr,(∀d∈ds,d.cL B)→l8 ds+nN ds≤B→(pQ ds).cL B
 | [],_,_=>True.intro
 | [_],h,_=>h _ (.head _)
 |d::e::ds,h,hb=>by
  have el:=EF (e::ds);have er:=EG (e::ds);have hl:l8 (d::e::ds)=d.l+l8 (e::ds):=rfl;have hr:nN (d::e::ds)=d.r+nN (e::ds):=rfl;refine⟨h d (.head _),T4 (e::ds) (λx hx=>h x (.tail _ hx)) (by lia),?_⟩;lia
theorem Lb:∀a b:List Dr,l8 (a++b)=l8 a+l8 b
 | [],b=>(uf _).symm
 |d::a,b=>by
  show d.l+l8 (a++b)=d.l+l8 a+l8 b;rw[Lb a b,Nat.add_assoc]
theorem Lc:∀a b:List Dr,nN (a++b)=nN a+nN b
 | [],b=>(uf _).symm
 |d::a,b=>by
  show d.r+nN (a++b)=d.r+nN a+nN b;rw[Lc a b,Nat.add_assoc]
theorem Ld:∀n,l8 (List.replicate n .id)=n
 |0=>rfl
 |n+1=>by
  show 1+l8 (List.replicate n .id)=n+1;rw[Ld n,Nat.add_comm]
theorem Le:∀n,nN (List.replicate n .id)=n
 |0=>rfl
 |n+1=>by
  show 1+nN (List.replicate n .id)=n+1;rw[Le n,Nat.add_comm]
end D1
namespace S21
open PySem L2 Bw
variable{H:Hp}{N:St→Hp→Prop}{R:VK}{b f u v:Addr}{d:D1.Dr}{ds:List D1.Dr}{fd:FuncData}{i j m:Nat}{σ:St}
def kZ(H:Hp)(vs:List V)(ds:List D1.Dr):Prop:=vs.length=ds.length∧∀(i:Nat)(v:V)(d:D1.Dr),vs[i]?=some v→ds[i]?=some d→∃a,v=.ref a∧WL H a d
theorem kZ.mono{H':Hp}{vs:List V}(h:kZ H vs ds)(s:aK H H'):kZ H' vs ds:=⟨h.1,λi v d e1 e2=>let ⟨a,e,w⟩:=h.2 i v d e1 e2;⟨a,e,s _ _ w⟩⟩
theorem kZ.append{vs ws:List V}{es:List D1.Dr}(h:kZ H vs ds)(k:kZ H ws es):kZ H (vs++ws) (ds++es):=⟨by rw[bY,bY,h.1,k.1],λi v d e1 e2=>by
 by_cases hi:i<vs.length
 ·rw[ia hi]at e1;rw[ia (by rw[← h.1];exact hi)]at e2;exact h.2 i v d e1 e2
 ·rw[iI (by lia)]at e1;rw[iI (by rw[← h.1];lia),← h.1]at e2;exact k.2 _ v d e1 e2⟩
theorem kZ.one(h:WL H b d):kZ H [.ref b] [d]:=⟨rfl,λi v d' e1 e2=>by
 cases i with
 |zero=>cases e1;cases e2;exact⟨b,rfl,h⟩
 |succ i=>cases e1⟩
theorem kZ.rep(h:WL H b d)(n:Nat):kZ H (List.replicate n (.ref b)) (List.replicate n d):=⟨by rw[dY,dY],λi v d' e1 e2=>by
 have m1:=List.eq_of_mem_replicate (cZ e1);have m2:=List.eq_of_mem_replicate (cZ e2);subst m1 m2;exact⟨b,rfl,h⟩⟩
theorem aeq(xs:List V)(v:V):fV (xs++[v]) none (some (-1))=xs:=by
 have es:HT.cK (xs++[v]).length (xs++[v]).length (some (-1))=xs.length:=by
  show(if(-1:Int)<0 then(-1+((xs++[v]).length:Int)).toNat else min (-1:Int).toNat (xs++[v]).length)=xs.length
  rw[ae (by decide),bY];show(-1+((xs.length+1:Nat):Int)).toNat=xs.length;lia
 unfold fV;rw[es,HT.uF,vE,Nat.sub_zero,List.take_left]
def Au(_K:Frag):Sp:=λvs H Q _=>∃(a b:Addr)(VS:List V)(es:List D1.Dr)(d:D1.Dr),vs=[.ref a]∧H a=some (.lst (VS++[.ref b]))∧kZ H VS es∧WL H b d∧es.length≤50∧(∀e∈es,e.aQ.length≤50)∧d.aQ.length≤50∧∀c H',aK H H'→WL H' c (D1.pQ (es++[d]))→Q (.ref c) H'
theorem EH:cT ["parts","words","part"] ["parts"] (bu IT):=de rfl rfl rfl (by decide +kernel) rfl
theorem aer(F:cA K "_law_beside_all" "_law_beside_all" IT f fd):br P w K mg base bp 1 f fd ["parts"] (Au K):=by
 refine F.ok EH (λvs H Q E h=>?_) (λbE A outer s H vs Q E hr h=>?_)
 ·obtain⟨a,b,VS,es,d,rfl,_⟩:=h;rfl
 ·obtain⟨a,b,VS,es,d,rfl,ga,hV,hb,le,lw,lw',q⟩:=h;have z:(10000:Nat)≤sizeLine:=by decide
  refine⟨_,ba (bH (i:=1) EH.nd rfl (.inl rfl) (cE aO)) (ba (kc lD rfl (iZ K rfl (dD (kl K rfl) (pv 0) dQ (dj (vO vP aW)))) (cx (i:=2) EH.nd rfl (.inl rfl)) (bq (bH (i:=1) EH.nd rfl (.inl rfl) (aX eQ (aX eQ (pv 1) (cE (aJ cz aO))) (pv 2))))) (bq (bV (aX eQ (pv 1) (bt (cU K rfl) (pv 0) (vO vP aW) (λ_ _=>rfl)))))),?_⟩;refine⟨by decide,λl0 h0=>?_⟩;have s0:aK H (upd H l0 (.lst [])):=.upd h0;have g0:(upd H l0 (.lst [])) l0=some (.lst ((D1.pR []).map di)):=aV;generalize upd H l0 (.lst [])=H0 at s0 g0 ⊢;refine⟨_,rfl,_,rfl,_,rfl,a,_,rfl,.of (s0 _ _ ga),λl1 h1=>?_⟩;rw[show(-1:Int)=-1 from rfl,aeq]
  have s1:aK H (upd H0 l1 (.lst VS)):=s0.trans (.upd h1);have g1:(upd H0 l1 (.lst VS)) l1=some (.lst VS):=aV;have T5:(upd H0 l1 (.lst VS)) l0=some (.lst ((D1.pR (es.take 0)).map di)):=aK.upd h1 _ _ g0;generalize upd H0 l1 (.lst VS)=H1 at s1 g1 T5 ⊢;refine⟨l1,rfl,⟨_,.of g1⟩,yo (xs:=VS) (λi σ H'=>aK H1 H'∧∃lp s2,σ=[some (.ref a),some (.ref lp),s2]∧H' lp=some (.lst ((D1.pR (es.take i)).map di))) ⟨.refl _,l0,none,rfl,T5⟩ (λi σ H' _ ⟨sm,_⟩=>.of (sm _ _ g1)) ?_ ?_⟩
  ·rintro i x σ H2 hx ⟨sm,lp,s2,rfl,g⟩;have hi:i<es.length:=by
    have:=(dB.mp hx).1
    have:=hV.1
    lia
   obtain⟨e,he⟩:∃e,es[i]?=some e:=⟨_,cf hi⟩;obtain⟨c,rfl,hc⟩:=hV.2 i _ e hx he;have hw:=D1.EE (B:=50) (es.take i) λy hy=>lw _ (gy hy);have Ed:=lw e (cZ he);have hl:(es.take i).length≤50:=by rw[cB];lia
   dsimp only[bX];refine⟨_,rfl,by show 1≤sizeLine;lia,λt ht=>⟨_,_,_,_,rfl,rfl,aK.upd ht _ _ g,aV,by rw[aZ];show _+1≤sizeLine;lia,λt2 h2=>?_⟩⟩;refine⟨_,rfl,_,_,_,_,rfl,rfl,aV,(s1.trans (sm.trans ((aK.upd ht).trans (.upd h2)))) _ _ hc,by rw[bY,aZ,aZ];show _+1+_≤sizeLine;lia,λt3 h3=>?_⟩;refine⟨sm.trans ((aK.upd ht).trans ((aK.upd h2).trans (.upd h3))),t3,_,rfl,?_⟩;rw[aV,gK,he];show _=some (HO.lst ((D1.pR (es.take i++[e])).map di));rw[D1.aep,dC,dC,jr];rfl
  rintro σ H2 ⟨sm,lp,s2,rfl,g⟩;rw[hV.1,lT]at g;have hw:=D1.EE (B:=50) es lw;have sc:=s1.trans sm;refine⟨_,rfl,_,rfl,1,rfl,a,_,-1,.ref b,rfl,rfl,.of (sc _ _ ga),X0 _ _,_,b,_,_,rfl,rfl,g,sc _ _ hb,by rw[aZ,aZ];lia,λt ht=>?_⟩;refine q t _ (sc.trans (.upd ht)) ?_;show _=_;rw[aV,D1.La,dC]
theorem kZ.last{L:List V}(h:kZ H L ds)(hn:ds≠[]):∃VS b es d,L=VS++[.ref b]∧ds=es++[d]∧kZ H VS es∧WL H b d:=by
 obtain⟨es,d,rfl⟩:∃es d,ds=es++[d]:=⟨_,_,(List.dropLast_concat_getLast hn).symm⟩;have hL:L≠[]:=λz=>by rw[z]at h;have:=h.1;simp at this
 obtain⟨VS,v,rfl⟩:∃VS v,L=VS++[v]:=⟨_,_,(List.dropLast_concat_getLast hL).symm⟩;have hl:VS.length=es.length:=by have:=h.1;simp at this;exact this
 obtain⟨b,rfl,hb⟩:=h.2 VS.length v d (List.getElem?_concat_length) (by rw[hl];exact List.getElem?_concat_length);refine⟨VS,b,es,d,rfl,rfl,⟨hl,λi v d' e1 e2=>?_⟩,hb⟩;have h1:i<VS.length:=(dB.mp e1).1;exact h.2 i v d' (by rw[ia h1];exact e1) (by rw[ia (by lia)];exact e2)
def xE(te:TE)(σ:St)(H:Hp)(ds:List D1.Dr):Prop:=∀H',aK H H'→∀R:VK,(∀a VS eT,aK H' eT→eT a=some (.lst VS)→kZ eT VS ds→R (.ref a) eT)→te σ H' R
section
variable{σ:St}{H:Hp}
theorem T6{ta tb:TE}{es:List D1.Dr}(h1:xE ta σ H ds)(h2:xE tb σ H es)(hl:ds.length+es.length≤100):xE (bz fX ta tb) σ H (ds++es):=λH' s R q=>by
 have z:(100:Nat)≤sizeLine:=by decide
 refine h1 H' s _ λa VS H1 s1 ga hV=>h2 H1 (s.trans s1) _ λb WS H2 s2 gb hW=>?_;refine⟨a,b,_,_,rfl,rfl,s2 _ _ ga,gb,by rw[hV.1,hW.1];lia,λc hc=>?_⟩;exact q c _ _ (s1.trans (s2.trans (.upd hc))) aV (((hV.mono s2).append hW).mono (.upd hc))
theorem aes(h:σ[i]?=some (some (.ref b)))(hb:WL H b d):xE (dN (bg (aY i) cm)) σ H [d]:=λH' s R q=>
 ⟨_,h,by show 1≤sizeLine;decide,λa ha=>q a _ _ (.upd ha) aV (.one ((s.trans (.upd ha)) _ _ hb))⟩
def Av(i:Nat):TE:=bz Gy (dN (bg (dN (bg (tC (.str (Str.ofString "id"))) cm)) cm)) (aY i)
theorem T7{k:Nat}(h:σ[i]?=some (some (.int (k:Int))))(hk:k≤100):xE (Av i) σ H (List.replicate k .id):=λH' s R q=>by
 have z:(100:Nat)≤sizeLine:=by decide
 refine⟨by show 1≤sizeLine;decide,λb hb=>⟨by show 1≤sizeLine;decide,λa ha=>⟨_,h,a,(k:Int),[.ref b],rfl,rfl,aV,by lia,by lia,by show 1*(k:Int).toNat≤sizeLine;lia,λc hc=>?_⟩⟩⟩;refine q c _ _ ((aK.upd hb).trans ((aK.upd ha).trans (.upd hc))) aV ?_;rw[show(k:Int).toNat=k by lia,DR];exact .rep (aK.upd hc _ _ (aK.upd ha _ _ aV)) k
def xF:TE:=bz fX (bz fX (Av 12) (dN (bg (aY 7) cm))) (Av 13)
noncomputable def nO(k:Nat)(d:D1.Dr)(m:Nat):D1.Dr:=D1.pQ (List.replicate k .id++[d]++List.replicate m .id)
theorem Lf(k:Nat)(d:D1.Dr)(m:Nat):(nO k d m).l=k+d.l+m:=by
 unfold nO;rw[D1.EF,D1.Lb,D1.Lb,D1.Ld,D1.Ld];rfl
theorem Lg(k:Nat)(d:D1.Dr)(m:Nat):(nO k d m).r=k+d.r+m:=by
 unfold nO;rw[D1.EG,D1.Lc,D1.Lc,D1.Le,D1.Le];rfl
theorem EI{k:Nat}{x:D1.Dr}(h:x∈List.replicate k .id++[d]++List.replicate m .id):x=.id∨x=d:=by
 rcases(dI.mp h)with(h|h)
 ·rcases(dI.mp h)with(h|h)
  ·exact .inl (List.eq_of_mem_replicate h)
  ·exact .inr (dP.mp h)
 ·exact .inl (List.eq_of_mem_replicate h)
theorem T8{p:Int}{k:Nat}(h:d.wf p):(nO k d m).wf p:=D1.T3 _ λx hx=>by
 rcases EI hx with rfl|rfl
 ·exact True.intro
 ·exact h
theorem T9{B k:Nat}(h:d.cL B)(hb:(k+d.l+m)+(k+d.r+m)≤B):(nO k d m).cL B:=by
 refine D1.T4 _ (λx hx=>?_) ?_
 ·rcases EI hx with rfl|rfl
  ·exact True.intro
  ·exact h
 ·rw[← D1.EF,← D1.EG];have e1:=Lf k d m;have e2:=Lg k d m;unfold nO at e1 e2;rw[e1,e2];exact hb
theorem Ua{k:Nat}(hk:k+m≤20)(h:d.aQ.length≤50):(nO k d m).aQ.length≤2000:=by
 unfold nO;obtain⟨es,e,he⟩:∃es e,List.replicate k D1.Dr.id++[d]++List.replicate m D1.Dr.id=es++[e]:=⟨_,_,(List.dropLast_concat_getLast (by simp)).symm⟩;have hw:∀x∈es++[e],x.aQ.length≤50:=λx hx=>by
  rw[← he]at hx;rcases EI hx with rfl|rfl
  ·show 1≤50;decide
  ·exact h
 have hl:es.length≤20:=by
  have:=ai List.length he
  simp at this;lia
 rw[he,D1.La,bY];have h1:=D1.EE (B:=50) es λx hx=>hw x (nR _ hx);have h2:=hw e (jb _ (.head _));lia
theorem Ub{K:Frag}{E:XK}{k:Nat}(h1:σ[12]?=some (some (.int (k:Int))))(h2:σ[7]?=some (some (.ref b)))(h3:σ[13]?=some (some (.int (m:Int))))(hb:WL H b d)(hk:k+m≤20)(hw:d.aQ.length≤50)(q:∀c H',aK H H'→WL H' c (nO k d m)→R (.ref c) H'):iD (Au K) [] E (bg xF cm) σ H R:=by
 have hE:xE xF σ H (List.replicate k .id++[d]++List.replicate m .id):=T6 (T6 (T7 h1 (by lia)) (aes h2 hb) (by rw[dY];show k+1≤100;lia)) (T7 h3 (by lia)) (by rw[bY,dY,dY];show k+1+m≤100;lia);refine hE H (.refl _) _ λa VS H1 s1 ga hV=>?_;obtain⟨XS,b',es,e,rfl,he,hX,iU⟩:=hV.last (by simp);have hw:∀x∈es++[e],x.aQ.length≤50:=λx hx=>by
  rw[← he]at hx;rcases EI hx with rfl|rfl
  ·show 1≤50;decide
  ·exact hw
 have hl:es.length≤20:=by
  have:=ai List.length he
  simp at this;lia
 refine⟨a,b',XS,es,e,rfl,ga,hX,iU,by lia,λx hx=>hw x (nR _ hx),hw e (jb _ (.head _)),λc H2 s2 hc=>q c H2 (s1.trans s2) ?_⟩;unfold nO;rw[he];exact hc
end
noncomputable abbrev xG(p:Int)(a:Addr)(c:Int)(m:Nat)(b:Addr)(l r:Nat)(b2:Addr)(l2 r2:Nat)(f:Addr)(s12 oQ lP lQ:Option V):St:=[some (.int p),some (.ref a),some (.int c),some (.int (m:Int)),some (.ref b),some (.int (l:Int)),some (.int (r:Int)),some (.ref b2),some (.int (l2:Int)),some (.int (r2:Int)),some (.int (c%6)),some (.ref f),s12,oQ,lP,lQ]
def Aw(i j:Nat):TE:=bz (rI (λ_ j=>0<j) λi j=>.int (i%j)) (bz (rI qY λi j=>.int (i/j)) (aY 2) (tC (.int 7))) (bz (e7 λi j=>.int (i+j)) (bz (e7 λi j=>.int (i-j)) (aY i) (aY j)) (tC (.int 1)))
def Ax(i j:Nat):TE:=bz (e7 λi j=>.int (i-j)) (bz (e7 λi j=>.int (i-j)) (aY i) (aY j)) (aY 12)
def pS(x:String):TE:=dN (bg (tC (.str (Str.ofString x))) cm)
def EJ(K:Frag)(E:XK):TS:=cI (dz (Aw 6 8) (bX 12)) (cI (dz (Ax 6 8) (bX 13)) (cI (dz (iD (Au K) [] E (bg xF cm)) (bX 14)) (dz (dN (bg (bz fX (bz fX (pS "then") (aY 4)) (aY 14)) (bg (aY 5) (bg (bz (e7 λi j=>.int (i+j)) (bz (e7 λi j=>.int (i-j)) (aY 6) (aY 8)) (aY 9)) cm)))) (bX 11))))
def EK(K:Frag)(E:XK):TS:=cI (dz (Aw 5 9) (bX 12)) (cI (dz (Ax 5 9) (bX 13)) (cI (dz (iD (Au K) [] E (bg xF cm)) (bX 14)) (dz (dN (bg (bz fX (bz fX (pS "then") (aY 14)) (aY 4)) (bg (bz (e7 λi j=>.int (i+j)) (bz (e7 λi j=>.int (i-j)) (aY 5) (aY 9)) (aY 8)) (bg (aY 6) cm)))) (bX 11))))
def EL:TS:=dz (dN (bg (bz fX (pS "back") (aY 4)) (bg (aY 6) (bg (aY 5) cm)))) (bX 11)
def vy(p:Int)(a:Addr)(c:Int)(m:Nat)(b:Addr)(l r:Nat)(b2:Addr)(l2 r2:Nat)(H0:Hp)(σ:St)(H:Hp):Prop:=aK H0 H∧∃f d s12 oQ lP lQ,σ=xG p a c m b l r b2 l2 r2 f s12 oQ lP lQ∧WT H f d∧d.wf p∧d.cL 64∧d.aQ.length≤5000∧d.l+d.r≤60
section
variable{K:Frag}{E:XK}{p c:Int}{a b b2 f:Addr}{m:Nat}{d e:D1.Dr}{s12 oQ lP lQ:Option V}{H:Hp}{D:Ends}
theorem Uc{x y:Nat}(h2:σ[2]?=some (some (.int c)))(hi:σ[i]?=some (some (.int (x:Int))))(hj:σ[j]?=some (some (.int (y:Int))))(hl:y≤x)(q:∀k:Nat,k≤x-y→R (.int (k:Int)) H):Aw i j σ H R:=by
 have b0:=lR (c/7) (show((x:Int)-y+1)≠0 by lia);have b1:=lS (c/7) (show(0:Int)<(x:Int)-y+1 by lia);refine⟨_,h2,c,7,rfl,rfl,⟨by decide,by decide⟩,_,hi,_,hj,_,_,rfl,rfl,_,_,rfl,rfl,_,_,rfl,rfl,show(0:Int)<(x:Int)-y+1 by lia,?_⟩;show R (.int (c/7%((x:Int)-y+1))) H;rw[show c/7%((x:Int)-y+1)=(((c/7%((x:Int)-y+1)).toNat:Nat):Int) by lia];exact q _ (by lia)
theorem Ud{x y k:Nat}(h2:σ[12]?=some (some (.int (k:Int))))(hi:σ[i]?=some (some (.int (x:Int))))(hj:σ[j]?=some (some (.int (y:Int))))(hl:y≤x)(hk:k≤x-y)(q:R (.int ((x-y-k:Nat):Int)) H):Ax i j σ H R:=by
 refine⟨_,hi,_,hj,_,_,rfl,rfl,_,h2,_,_,rfl,rfl,?_⟩;show R (.int ((x:Int)-y-k)) H;rw[show(x:Int)-y-k=((x-y-k:Nat):Int) by lia];exact q
theorem Ue{x:String}{e:D1.Dr}(hi:σ[i]?=some (some (.ref u)))(hj:σ[j]?=some (some (.ref v)))(hu:WL H u d)(hv:WL H v e)(hl:d.aQ.length+e.aQ.length≤9000)(q:∀t H',aK H H'→H' t=some (.lst ((D1.Wd.w x::(d.aQ++e.aQ)).map di))→R (.ref t) H'):bz fX (bz fX (pS x) (aY i)) (aY j) σ H R:=by
 have z:(10000:Nat)≤sizeLine:=by decide
 refine⟨by show 1≤sizeLine;lia,λt1 h1=>⟨_,hi,t1,u,_,_,rfl,rfl,aV,aK.upd h1 _ _ hu,by rw[aZ];show 1+_≤sizeLine;lia,λt2 h2=>⟨_,hj,t2,v,_,_,rfl,rfl,aV,aK.upd h2 _ _ (aK.upd h1 _ _ hv),by rw[bY,aZ,aZ];show 1+_+_≤sizeLine;lia,λt3 h3=>?_⟩⟩⟩;refine q t3 _ ((aK.upd h1).trans ((aK.upd h2).trans (.upd h3))) ?_;rw[aV,mx,dC];rfl
theorem EN{tw tl tr:TE}{g:D1.Dr}(hw:∀R:VK,(∀t H',aK H H'→WL H' t g→R (.ref t) H')→tw σ H R)(hl:∀H',aK H H'→∀R:VK,R (.int (g.l:Int)) H'→tl σ H' R)(hr:∀H',aK H H'→∀R:VK,R (.int (g.r:Int)) H'→tr σ H' R)(q:∀t H',aK H H'→WT H' t g→R (.ref t) H'):dN (bg tw (bg tl (bg tr cm))) σ H R:=by
 refine hw _ λt H1 s1 ht=>hl H1 s1 _ (hr H1 s1 _ ⟨by show 3≤sizeLine;decide,λx hx=>q x _ (s1.trans (.upd hx)) ⟨t,aV,aK.upd hx _ _ ht⟩⟩)
theorem aet(hb:WL H b d)(mr:WL H b2 e)(dw:d.wf p)(dn:d.cL 64)(dl:d.aQ.length≤100)(ds:d.l+d.r≤5)(ew:e.wf p)(en:e.cL 64)(el:e.aQ.length≤3)(es:e.l+e.r≤4)(iX:e.l≤d.r)(q:∀σ H',vy p a c m b d.l d.r b2 e.l e.r H σ H'→N σ H'):EJ K E { D with nx:=N } (xG p a c m b d.l d.r b2 e.l e.r f s12 oQ lP lQ) H:=by
 unfold EJ;refine kY (Uc rfl rfl rfl iX λk hk=>?_);refine kY (Ud (x:=d.r) (y:=e.l) (k:=k) rfl rfl rfl iX hk ?_);refine kY (Ub (k:=k) (m:=d.r-e.l-k) (d:=e) rfl rfl rfl mr (by lia) (by lia) λt H1 s1 ht=>?_);have e1:=Lf k e (d.r-e.l-k);have e2:=Lg k e (d.r-e.l-k);have w1:=T8 (k:=k) (m:=d.r-e.l-k) ew;have w2:=T9 (B:=64) (k:=k) (m:=d.r-e.l-k) en (by lia);have w3:=Ua (k:=k) (m:=d.r-e.l-k) (d:=e) (by lia) (by lia);generalize nO k e (d.r-e.l-k)=u at *;refine EN (g:=.bc d u) (λR q'=>Ue rfl rfl (s1 _ _ hb) ht (by lia) q') (λH' _ R q'=>⟨_,rfl,q'⟩) (λH' _ R q'=>⟨_,rfl,_,rfl,_,_,rfl,rfl,_,rfl,_,_,rfl,rfl,?_⟩) λx H2 s2 hx=>?_
 ·have:((D1.Dr.bc d u).r:Int)=(d.r:Int)-e.l+e.r:=by show(u.r:Int)=_;lia
  rw[this]at q';exact q'
 ·refine q _ _ ⟨s1.trans s2,x,.bc d u,_,_,_,_,rfl,hx,⟨dw,w1,by lia⟩,⟨dn,w2,by lia⟩,?_,by show d.l+u.r≤60;lia⟩;show(D1.Wd.w "then"::(d.aQ++u.aQ)).length≤5000;rw[eE,bY];lia
theorem aeu(hb:WL H b d)(mr:WL H b2 e)(dw:d.wf p)(dn:d.cL 64)(dl:d.aQ.length≤100)(ds:d.l+d.r≤5)(ew:e.wf p)(en:e.cL 64)(el:e.aQ.length≤3)(es:e.l+e.r≤4)(iX:e.r≤d.l)(q:∀σ H',vy p a c m b d.l d.r b2 e.l e.r H σ H'→N σ H'):EK K E { D with nx:=N } (xG p a c m b d.l d.r b2 e.l e.r f s12 oQ lP lQ) H:=by
 unfold EK;refine kY (Uc rfl rfl rfl iX λk hk=>?_);refine kY (Ud (x:=d.l) (y:=e.r) (k:=k) rfl rfl rfl iX hk ?_);refine kY (Ub (k:=k) (m:=d.l-e.r-k) (d:=e) rfl rfl rfl mr (by lia) (by lia) λt H1 s1 ht=>?_);have e1:=Lf k e (d.l-e.r-k);have e2:=Lg k e (d.l-e.r-k);have w1:=T8 (k:=k) (m:=d.l-e.r-k) ew;have w2:=T9 (B:=64) (k:=k) (m:=d.l-e.r-k) en (by lia);have w3:=Ua (k:=k) (m:=d.l-e.r-k) (d:=e) (by lia) (by lia);generalize nO k e (d.l-e.r-k)=u at *;refine EN (g:=.bc u d) (λR q'=>Ue rfl rfl ht (s1 _ _ hb) (by lia) q') (λH' _ R q'=>⟨_,rfl,_,rfl,_,_,rfl,rfl,_,rfl,_,_,rfl,rfl,?_⟩) (λH' _ R q'=>⟨_,rfl,q'⟩) λx H2 s2 hx=>?_
 ·have:((D1.Dr.bc u d).l:Int)=(d.l:Int)-e.r+e.l:=by show(u.l:Int)=_;lia
  rw[this]at q';exact q'
 ·refine q _ _ ⟨s1.trans s2,x,.bc u d,_,_,_,_,rfl,hx,⟨w1,dw,by lia⟩,⟨w2,dn,by lia⟩,?_,by show u.l+d.r≤60;lia⟩;show(D1.Wd.w "then"::(u.aQ++d.aQ)).length≤5000;rw[eE,bY];lia
theorem aev(hb:WL H b d)(dw:d.wf p)(dn:d.cL 64)(dl:d.aQ.length≤100)(ds:d.l+d.r≤5)(q:∀σ H',vy p a c m b d.l d.r b2 e.l e.r H σ H'→N σ H'):EL { D with nx:=N } (xG p a c m b d.l d.r b2 e.l e.r f s12 oQ lP lQ) H:=by
 have z:(10000:Nat)≤sizeLine:=by decide
 unfold EL;refine EN (g:=.back d) (λR q'=>?_) (λH' _ R q'=>⟨_,rfl,q'⟩) (λH' _ R q'=>⟨_,rfl,q'⟩) λx H2 s2 hx=>?_
 ·refine⟨by show 1≤sizeLine;lia,λt1 h1=>⟨_,rfl,t1,b,_,_,rfl,rfl,aV,aK.upd h1 _ _ hb,by rw[aZ];show 1+_≤sizeLine;lia,λt2 h2=>q' t2 _ ((aK.upd h1).trans (.upd h2)) aV⟩⟩
 ·exact q _ _ ⟨s2,x,.back d,_,_,_,_,rfl,hx,dw,dn,by show d.aQ.length+1≤5000;lia,by show d.r+d.l≤60;lia⟩
end
theorem Ug{te:TE}{g:TG}{u:TS}{D:Ends}(h:te σ H λx H1=>g x σ H1 (u D)):cI (dz te g) u D σ H:=h
theorem Lh{c:TT}{t u:TS}{D:Ends}(d:Bool)(h:∀R:Bool→Hp→Prop,R d H→c σ H R)(ht:d=true→t D σ H)(hf:d=false→u D σ H):fb c t u D σ H:=by
 refine h _ ?_;cases d with
 |true=>exact dZ (ht rfl)
 |false=>exact dW (hf rfl)
theorem Uh{c e:TT}{R:Bool→Hp→Prop}{d k:Bool}(h:∀R:Bool→Hp→Prop,R d H→c σ H R)(h':∀R:Bool→Hp→Prop,R k H→e σ H R)(r:R (d&&k) H):AZ c e σ H R:=by
 refine h _ ?_;cases d with
 |true=>exact dZ (h' _ r)
 |false=>exact dW r
def Ay(K:Frag)(j:Int):TE:=bz (nX K) (aY 15) (tC (.int j))
def EO(K:Frag):TS:=cI (dz (dN (bg (aY 4) (bg (aY 7) cm))) (bX 15)) (cI (fb (ke (bz qZ (bz (rI (λ_ j=>0<j) λi j=>.int (i%j)) (bz (rI qY λi j=>.int (i/j)) (aY 2) (tC (.int 11))) (tC (.int 2))) (tC (.int 1)))) (Bb (Bt K "list" Nq (aY 15))) iR) (dz (dN (bg (bz fX (bz fX (pS "beside") (Ay K 0)) (Ay K 1)) (bg (bz (e7 λi j=>.int (i+j)) (aY 5) (aY 8)) (bg (bz (e7 λi j=>.int (i+j)) (aY 6) (aY 9)) cm)))) (bX 11)))
section
variable{K:Frag}{E:XK}{p c:Int}{a b b2 f:Addr}{m:Nat}{d e:D1.Dr}{s12 oQ lP lQ:Option V}{H:Hp}{D:Ends}{H':Hp}
theorem aew{x:String}{ti tj:TE}{e:D1.Dr}(hi:∀H',aK H H'→∀R:VK,R (.ref u) H'→ti σ H' R)(hj:∀H',aK H H'→∀R:VK,R (.ref v) H'→tj σ H' R)(hu:WL H u d)(hv:WL H v e)(hl:d.aQ.length+e.aQ.length≤9000)(q:∀t H',aK H H'→H' t=some (.lst ((D1.Wd.w x::(d.aQ++e.aQ)).map di))→R (.ref t) H'):bz fX (bz fX (pS x) ti) tj σ H R:=by
 have z:(10000:Nat)≤sizeLine:=by decide
 refine⟨by show 1≤sizeLine;lia,λt1 h1=>hi _ (.upd h1) _ ⟨t1,u,_,_,rfl,rfl,aV,aK.upd h1 _ _ hu,by rw[aZ];show 1+_≤sizeLine;lia,λt2 h2=>hj _ ((aK.upd h1).trans (.upd h2)) _ ⟨t2,v,_,_,rfl,rfl,aV,aK.upd h2 _ _ (aK.upd h1 _ _ hv),by rw[bY,aZ,aZ];show 1+_+_≤sizeLine;lia,λt3 h3=>?_⟩⟩⟩;refine q t3 _ ((aK.upd h1).trans ((aK.upd h2).trans (.upd h3))) ?_;rw[aV,mx,dC];rfl
theorem Ui{g h:D1.Dr}{ls:Addr}(hu:WL H u g)(hv:WL H v h)(gl:H ls=some (.lst [.ref u,.ref v]))(gw:g.wf p)(gn:g.cL 64)(afn:g.aQ.length≤100)(gs:g.l+g.r≤5)(hw:h.wf p)(hn:h.cL 64)(cF:h.aQ.length≤100)(hs:h.l+h.r≤5)(el:g.l+h.l=d.l+e.l)(er:g.r+h.r=d.r+e.r)(q:∀σ H',vy p a c m b d.l d.r b2 e.l e.r H σ H'→N σ H'):dz (dN (bg (bz fX (bz fX (pS "beside") (Ay K 0)) (Ay K 1)) (bg (bz (e7 λi j=>.int (i+j)) (aY 5) (aY 8)) (bg (bz (e7 λi j=>.int (i+j)) (aY 6) (aY 9)) cm)))) (bX 11) { D with nx:=N } (xG p a c m b d.l d.r b2 e.l e.r f s12 oQ lP (some (.ref ls))) H:=by
 refine EN (g:=.cC g h) (λR q'=>aew (u:=u) (v:=v) (λH' s R Li=>⟨_,rfl,ls,_,0,_,rfl,rfl,.of (s _ _ gl),bw (j:=0) rfl,Li⟩) (λH' s R Li=>⟨_,rfl,ls,_,1,_,rfl,rfl,.of (s _ _ gl),bw (j:=1) rfl,Li⟩) hu hv (by lia) q') (λH' _ R q'=>⟨_,rfl,_,rfl,_,_,rfl,rfl,?_⟩) (λH' _ R q'=>⟨_,rfl,_,rfl,_,_,rfl,rfl,?_⟩) λx H2 s2 hx=>?_
 ·have:((D1.Dr.cC g h).l:Int)=(d.l:Int)+e.l:=by show((g.l+h.l:Nat):Int)=_;lia
  rw[this]at q';exact q'
 ·have:((D1.Dr.cC g h).r:Int)=(d.r:Int)+e.r:=by show((g.r+h.r:Nat):Int)=_;lia
  rw[this]at q';exact q'
 ·refine q _ _ ⟨s2,x,.cC g h,_,_,_,_,rfl,hx,⟨gw,hw⟩,⟨gn,hn,by lia⟩,?_,by show g.l+h.l+(g.r+h.r)≤60;lia⟩;show(D1.Wd.w "beside"::(g.aQ++h.aQ)).length≤5000;rw[eE,bY];lia
theorem aex(hb:WL H b d)(mr:WL H b2 e)(dw:d.wf p)(dn:d.cL 64)(dl:d.aQ.length≤100)(ds:d.l+d.r≤5)(ew:e.wf p)(en:e.cL 64)(el:e.aQ.length≤3)(es:e.l+e.r≤4)(q:∀σ H',vy p a c m b d.l d.r b2 e.l e.r H σ H'→N σ H'):EO K { D with nx:=N } (xG p a c m b d.l d.r b2 e.l e.r f s12 oQ lP lQ) H:=by
 unfold EO;refine kY ⟨_,rfl,_,rfl,by show 2≤sizeLine;decide,λls jm=>?_⟩;have nb:b≠ls:=λz=>by rw[← z]at jm;unfold WL at hb;rw[jm]at hb;cases hb
 have nb2:b2≠ls:=λz=>by rw[← z]at jm;unfold WL at mr;rw[jm]at mr;cases mr
 refine qC (c/11%2==1) (λR r=>⟨_,rfl,c,11,rfl,rfl,⟨by decide,by decide⟩,c/11,2,rfl,rfl,(by decide:(0:Int)<2),rfl,_,rfl,by rw[Ge];exact r⟩) (λ_=>?_) λ_=>?_
 ·refine⟨_,rfl,.inl ⟨rfl,_,.of aV⟩,ls,_,rfl,rfl,aV,?_⟩;rw[WM];exact Ui (g:=e) (h:=d) (u:=b2) (v:=b) (aK.upd jm _ _ mr) (aK.upd jm _ _ hb) aV ew en (by lia) (by lia) dw dn dl ds (by lia) (by lia) λσ H' j=>q σ H' ⟨(aK.upd jm).trans j.1,j.2⟩
 ·exact Ui (g:=d) (h:=e) (u:=b) (v:=b2) (aK.upd jm _ _ hb) (aK.upd jm _ _ mr) aV dw dn dl ds ew en (by lia) (by lia) rfl rfl λσ H' j=>q σ H' ⟨(aK.upd jm).trans j.1,j.2⟩
def ER(K:Frag)(j:Int):TE:=bz (nX K) (aY 11) (tC (.int j))
def Uj(K:Frag):List V→Hp→VK→Prop:=λxs H Q=>∃p ys,xs=[.ref p]∧(dq K H p ys∨bf K H p ys)∧Q (.int ys.length) H
def ET(K:Frag):TS:=cI (fb (FQ (ke (bz (e7 λi j=>.bl (decide (j<i))) (mY (Uj K) (bg (ER K 0) cm)) (aY 3))) (ke (bz (e7 λi j=>.bl (decide (j<i))) (bz (e7 λi j=>.int (i+j)) (ER K 1) (ER K 2)) (tC (.int 5))))) (gR (aY 1)) iR) (gR (aY 11))
theorem aey(hJ:vy p a c m b d.l d.r b2 e.l e.r H σ H')(ha:WT H a d)(q1:∀H',aK H H'→WT H' a d→D.rt (.ref a) H')(q2:∀f g H',aK H H'→WT H' f g→g.wf p→g.cL 64→g.aQ.length≤m→g.l+g.r≤5→D.rt (.ref f) H'):ET K D σ H':=by
 obtain⟨sm,f,g,s12,oQ,lP,lQ,rfl,hf,w1,w2,w3,w4⟩:=hJ;obtain⟨t,gf,gt⟩:=hf;unfold ET;refine qC (decide ((m:Int)<(g.aQ.length:Int))||decide (5<(g.l:Int)+g.r)) (λR r=>?_) (λ_=>?_) λz=>?_
 ·refine⟨_,rfl,f,_,0,_,rfl,rfl,.of gf,bw (j:=0) rfl,t,_,rfl,.inl (.of gt),_,rfl,_,_,rfl,rfl,_,rfl,?_⟩;rw[aZ];cases hd:decide ((m:Int)<(g.aQ.length:Int)) with
  |true=>rw[hd]at r;exact dZ r
  |false=>
   rw[hd]at r;exact dW ⟨_,rfl,f,_,1,_,rfl,rfl,.of gf,bw (j:=1) rfl,_,rfl,f,_,2,_,rfl,rfl,.of gf,bw (j:=2) rfl,_,_,rfl,rfl,_,_,rfl,rfl,_,rfl,r⟩
 ·exact⟨_,rfl,q1 _ sm (ha.mono sm)⟩
 ·rw[Bool.or_eq_false_iff,aE,aE]at z;exact⟨_,rfl,q2 f g _ sm ⟨t,gf,gt⟩ w1 w2 (by lia) (by lia)⟩
def Lj(K:Frag)(E:XK):TS:=cI (dz (aY 1) (wj K 3 (jz (bX 4) (jz (bX 5) (jz (bX 6) uz)))))
 (cI (dz (iD (Ey K) [] E (bg (aY 0) (bg (bz (rI qY λi j=>.int (i/j)) (aY 2) (tC (.int 6))) cm))) (wj K 3 (jz (bX 7) (jz (bX 8) (jz (bX 9) uz))))) (cI (dz (bz (rI (λ_ j=>0<j) λi j=>.int (i%j)) (aY 2) (tC (.int 6))) (bX 10)) (cI (dz (aY 1) (bX 11)) (cI (fb (AZ (ke (bz (e7 λi j=>.bl (decide (i<j))) (aY 10) (tC (.int 3)))) (ke (bz (e7 λi j=>.bl (decide (i≤j))) (aY 8) (aY 6)))) (EJ K E) (fb (AZ (ke (bz qZ (aY 10) (tC (.int 3)))) (ke (bz (e7 λi j=>.bl (decide (i≤j))) (aY 9) (aY 5)))) (EK K E) (fb (ke (bz qZ (aY 10) (tC (.int 4)))) EL (EO K)))) (ET K)))))
end
def Uk(_K:Frag):Sp:=λvs H Q _=>∃(p c:Int)(a:Addr)(m:Nat)(d:D1.Dr),vs=[.int p,.ref a,.int c,.int (m:Int)]∧p∈cq∧WT H a d∧d.wf p∧d.cL 64∧d.aQ.length≤m∧m≤100∧d.l+d.r≤5∧
 ∀f g H',aK H H'→WT H' f g→g.wf p→g.cL 64→g.aQ.length≤m→g.l+g.r≤5→Q (.ref f) H'
theorem jn:cT ["p","one","cell","most","words","left","right","box","into","out","way","found","at","wide","row","some"] ["p","one","cell","most"] (bu IU):=de rfl rfl rfl (by decide +kernel) rfl
theorem aez{fS fB:Addr}{eS tP:FuncData}(F:cA K "_law_more" "_law_more" IU f fd)(T:Txt mg)
  (GS:br P w K mg base bp 1 fS eS ["p","cell"] (Ey K)) (kS:Kp K fS) (bS:Binds K eS ["p","cell"] []) (mS:Mg mg "_law_some_box" fS)
  (GB:br P w K mg base bp 1 fB tP ["parts"] (Au K)) (kB:Kp K fB) (bB:Binds K tP ["parts"] []) (mB:Mg mg "_law_beside_all" fB) :
  br P w K mg base bp 2 f fd ["p","one","cell","most"] (Uk K):=by
 refine F.ok jn (λvs H Q E h=>?_) (λbE A outer s H vs Q E hr h=>?_)
 ·obtain⟨p,c,a,m,d,rfl,_⟩:=h;rfl
 ·obtain⟨p,c,a,m,d,rfl,pp,ha,dw,dn,dm,hm,ds,q⟩:=h;refine⟨Lj K E,?_,?_⟩
  ·unfold Lj;refine ba ?_ ?_
   ·exact mK (pv 1) (rq rfl (eF (cx (i:=4) jn.nd rfl (.inl rfl)) (eF (cx (i:=5) jn.nd rfl (.inl rfl)) (eF (cx (i:=6) jn.nd rfl (.inl rfl)) lX))))
   refine ba ?_ ?_
   ·exact mK (bZ GS hr rfl mS kS bS .nil cb (aJ (pv 0) (aJ (aX kd (pv 2) aW) aO))) (rq rfl (eF (cx (i:=7) jn.nd rfl (.inl rfl)) (eF (cx (i:=8) jn.nd rfl (.inl rfl)) (eF (cx (i:=9) jn.nd rfl (.inl rfl)) lX))))
   refine ba ?_ ?_
   ·exact bH (i:=10) jn.nd rfl (.inl rfl) (aX iC (pv 2) aW)
   refine ba ?_ ?_
   ·exact bH (i:=11) jn.nd rfl (.inl rfl) (pv 1)
   refine ba ?_ ?_
   ·refine cX ?_ ?_ ?_
    ·exact PW.pt (uy (cM vQ (pv 10) aW (cJ _)) (yk (cM MW (pv 8) (pv 6) (cJ _))))
    ·unfold EJ Aw Ax xF Av pS;refine ba ?_ ?_
     ·exact bH (i:=12) jn.nd rfl (.inl rfl) (aX iC (aX kd (pv 2) aW) (aX eU (aX iS (pv 6) (pv 8)) aW))
     refine ba ?_ ?_
     ·exact bH (i:=13) jn.nd rfl (.inl rfl) (aX iS (aX iS (pv 6) (pv 8)) (pv 12))
     refine ba ?_ ?_
     ·exact bH (i:=14) jn.nd rfl (.inl rfl) (bZ GB hr rfl mB kB bB .nil cb (aJ (aX eQ (aX eQ (aX nY (cE (aJ (cE (aJ cz aO)) aO)) (pv 12)) (cE (aJ (pv 7) aO))) (aX nY (cE (aJ (cE (aJ cz aO)) aO)) (pv 13))) aO))
     ·refine bq ?_;exact bH (i:=11) jn.nd rfl (.inl rfl) (cE (aJ (aX eQ (aX eQ (cE (aJ cz aO)) (pv 4)) (pv 14)) (aJ (pv 5) (aJ (aX eU (aX iS (pv 6) (pv 8)) (pv 9)) aO))))
    ·refine bq ?_;refine cX ?_ ?_ ?_
     ·exact PW.pt (uy (cM eO (pv 10) aW (cJ _)) (yk (cM MW (pv 9) (pv 5) (cJ _))))
     ·unfold EK Aw Ax xF Av pS;refine ba ?_ ?_
      ·exact bH (i:=12) jn.nd rfl (.inl rfl) (aX iC (aX kd (pv 2) aW) (aX eU (aX iS (pv 5) (pv 9)) aW))
      refine ba ?_ ?_
      ·exact bH (i:=13) jn.nd rfl (.inl rfl) (aX iS (aX iS (pv 5) (pv 9)) (pv 12))
      refine ba ?_ ?_
      ·exact bH (i:=14) jn.nd rfl (.inl rfl) (bZ GB hr rfl mB kB bB .nil cb (aJ (aX eQ (aX eQ (aX nY (cE (aJ (cE (aJ cz aO)) aO)) (pv 12)) (cE (aJ (pv 7) aO))) (aX nY (cE (aJ (cE (aJ cz aO)) aO)) (pv 13))) aO))
      ·refine bq ?_;exact bH (i:=11) jn.nd rfl (.inl rfl) (cE (aJ (aX eQ (aX eQ (cE (aJ cz aO)) (pv 14)) (pv 4)) (aJ (aX eU (aX iS (pv 5) (pv 9)) (pv 8)) (aJ (pv 6) aO))))
     ·refine bq ?_;refine cX ?_ ?_ ?_
      ·exact cM eO (pv 10) aW (cJ _)
      ·unfold EL pS;refine bq ?_;exact bH (i:=11) jn.nd rfl (.inl rfl) (cE (aJ (aX eQ (cE (aJ cz aO)) (pv 4)) (aJ (pv 6) (aJ (pv 5) aO))))
      ·unfold EO Ay pS;refine ba ?_ ?_
       ·exact bH (i:=15) jn.nd rfl (.inl rfl) (cE (aJ (pv 4) (aJ (pv 7) aO)))
       refine ba ?_ ?_
       ·refine cX ?_ ?_ dy
        ·exact cM eO (aX iC (aX kd (pv 2) aW) aW) aW (cJ _)
        ·refine bq ?_;exact mH (Nm p7 PySem.F.slot_list_reverse PySem.F.type_list_reverse Yj (pv 15))
       ·refine bq ?_;exact bH (i:=11) jn.nd rfl (.inl rfl) (cE (aJ (aX eQ (aX eQ (cE (aJ cz aO)) (bt (cU K rfl) (pv 15) aW (λ_ _=>rfl))) (bt (cU K rfl) (pv 15) aW (λ_ _=>rfl))) (aJ (aX eU (pv 5) (pv 8)) (aJ (aX eU (pv 6) (pv 9)) aO))))
   ·unfold ET ER;refine ba ?_ ?_
    ·refine cX ?_ ?_ dy
     ·exact PW.pt (vM (cM MX (eG (gk K rfl) rfl T.len gm (aJ (bt (cU K rfl) (pv 11) aW (λ_ _=>rfl)) aO)) (pv 3) (cJ _)) (A0 (cM MX (aX eU (bt (cU K rfl) (pv 11) aW (λ_ _=>rfl)) (bt (cU K rfl) (pv 11) aW (λ_ _=>rfl))) aW (cJ _))))
     ·exact bq (bV (pv 1))
    ·exact bq (bV (pv 11))
  unfold Lj;obtain⟨b,ga,gb⟩:=ha;refine Ug ⟨_,rfl,rZ (.of ga) ?_⟩;refine Ug ⟨_,rfl,_,rfl,c,6,rfl,rfl,⟨by decide,by decide⟩,p,c/6,rfl,pp,λa2 e H1 s1 he ew en el es=>?_⟩;obtain⟨b2,ga2,Lk⟩:=he;refine rZ (.of ga2) ?_;refine kY ⟨_,rfl,c,6,rfl,rfl,(by decide:(0:Int)<6),?_⟩;refine kY ⟨_,rfl,?_⟩;have pO:=s1 _ _ gb;have ha1:WT H1 a d:=⟨b,s1 _ _ ga,pO⟩;refine abd (vy p a c m b d.l d.r b2 e.l e.r H1) (λN hN=>?_) (λσ H' hJ=>aey hJ ha1 (λH' s' h'=>q a d H' (s1.trans s') h' dw dn dm ds) (λf g H' s' h'=>q f g H' (s1.trans s') h'));refine Lh (decide (c%6<3)&&decide ((e.l:Int)≤d.r)) (λR r=>Uh (λR r=>⟨_,rfl,_,_,rfl,rfl,_,rfl,r⟩) (λR r=>⟨_,rfl,_,rfl,_,_,rfl,rfl,_,rfl,r⟩) r) (λz=>?_) λ_=>?_
  ·rw[eX,aH,aH]at z;exact aet pO Lk dw dn (by lia) ds ew en el es (by lia) hN
  refine Lh (decide (V.int (c%6)=V.int 3)&&decide ((e.r:Int)≤d.l)) (λR r=>Uh (λR r=>⟨_,rfl,rfl,_,rfl,r⟩) (λR r=>⟨_,rfl,_,rfl,_,_,rfl,rfl,_,rfl,r⟩) r) (λz=>?_) λ_=>?_
  ·rw[eX,aH,aH]at z;exact aeu pO Lk dw dn (by lia) ds ew en el es (by lia) hN
  refine Lh (decide (V.int (c%6)=V.int 4)) (λR r=>⟨_,rfl,rfl,_,rfl,r⟩) (λz=>?_) λ_=>?_
  ·exact aev pO dw dn (by lia) ds hN
  ·have cF:d.aQ.length≤100:=by lia
   exact aex (K:=K) (p:=p) (c:=c) (a:=a) (b:=b) (b2:=b2) (f:=a) (m:=m) (d:=d) (e:=e) (s12:=none) (oQ:=none) (lP:=none) (lQ:=none) (H:=H1) (N:=N) pO Lk dw dn cF ds ew en el es hN
def Ul(_K:Frag):Sp:=λvs H Q _=>∃(p:Int)(a:Addr)(m:Nat)(ns:List Int),vs=[.int p,.ref a,.int (m:Int)]∧p∈cq∧H a=some (.lst (ns.map V.int))∧ns.length≤1000∧3≤m∧m≤100∧
 ∀f g H',aK H H'→WT H' f g→g.wf p→g.cL 64→g.aQ.length≤m→g.l+g.r≤5→Q (.ref f) H'
theorem Az:cT ["p","cells","most","one","k"] ["p","cells","most"] (bu IV):=de rfl rfl rfl (by decide +kernel) rfl
theorem aeA{fS fM:Addr}{eS jf:FuncData}(F:cA K "_law_grown" "_law_grown" IV f fd)(T:Txt mg)
  (GS:br P w K mg base bp 1 fS eS ["p","cell"] (Ey K)) (kS:Kp K fS) (bS:Binds K eS ["p","cell"] []) (mS:Mg mg "_law_some_box" fS)
  (GM:br P w K mg base bp 2 fM jf ["p","one","cell","most"] (Uk K)) (kM:Kp K fM) (bM:Binds K jf ["p","one","cell","most"] []) (mM:Mg mg "_law_more" fM) :
  br P w K mg base bp 3 f fd ["p","cells","most"] (Ul K):=by
 refine F.ok Az (λvs H Q E h=>?_) (λbE A outer s H vs Q E hr h=>?_)
 ·obtain⟨p,a,m,ns,rfl,_⟩:=h;rfl
 ·obtain⟨p,a,m,ns,rfl,pp,ga,hl,m3,aeB,q⟩:=h;have iM:dt 1 _:=hr.mono (by lia);have z:(10000:Nat)≤sizeLine:=by decide
  refine⟨_,ba (bH (i:=3) Az.nd rfl (.inl rfl) (cE (aJ (cE (aJ cz aO)) (aJ aW (aJ aW aO))))) (ba (kc lD rfl (qX rfl T.range (aJ (eG (gk K rfl) rfl T.len gm (aJ (pv 1) aO)) aO)) (cx (i:=4) Az.nd rfl (.inl rfl)) (bq (cX (cM eO (pv 4) aW (cJ _)) (bq (bH (i:=3) Az.nd rfl (.inl rfl) (bZ GS iM rfl mS kS bS .nil cb (aJ (pv 0) (aJ (bt (cU K rfl) (pv 1) aW (λ_ _=>rfl)) aO))))) (bq (bH (i:=3) Az.nd rfl (.inl rfl) (bZ GM hr rfl mM kM bM .nil cb (aJ (pv 0) (aJ (pv 3) (aJ (bt (cU K rfl) (pv 1) (pv 4) (λ_ _=>rfl)) (aJ (pv 2) aO)))))))))) (bq (bV (pv 3)))),?_⟩;refine⟨by show 1≤sizeLine;lia,λl0 h0=>⟨by show 3≤sizeLine;lia,λl1 h1=>?_⟩⟩;have Um:WT (upd (upd H l0 (.lst [.str (Str.ofString "id")])) l1 (.lst [.ref l0,.int 1,.int 1])) l1 .id:=⟨l0,aV,aK.upd h1 _ _ aV⟩;have s0:aK H (upd (upd H l0 (.lst [.str (Str.ofString "id")])) l1 (.lst [.ref l0,.int 1,.int 1])):=(aK.upd h0).trans (.upd h1);generalize upd (upd H l0 (.lst [.str (Str.ofString "id")])) l1 (.lst [.ref l0,.int 1,.int 1])=H0 at s0 Um ⊢;have eN:(ns.map V.int).length=ns.length:=aZ _;refine⟨_,rfl,a,_,rfl,.inl (.of (s0 _ _ ga)),_,rfl,by lia,by lia,uB (n:=(ns.map V.int).length) (λ_ σ H'=>aK H H'∧∃f g s4,σ=[some (.int p),some (.ref a),some (.int (m:Int)),some (.ref f),s4]∧WT H' f g∧g.wf p∧g.cL 64∧g.aQ.length≤m∧g.l+g.r≤5) ⟨s0,l1,.id,none,rfl,Um,True.intro,True.intro,by show 1≤m;lia,by decide⟩ ?_ ?_⟩
  ·rintro k σ H1 hk ⟨sm,f,g,s4,rfl,hf,g1,g2,g3,g4⟩;rw[eN]at hk;rw[jy];dsimp only[bX];refine⟨_,rfl,rfl,_,rfl,?_⟩;obtain⟨c,hc⟩:∃c,ns[k]?=some c:=⟨_,cf hk⟩;split
   ·rename_i z
    have e:(k:Int)=0:=V.int.inj (aG z);have e0:k=0:=by lia
    subst e0;refine⟨_,rfl,_,rfl,a,_,0,.int c,rfl,rfl,.of (sm _ _ ga),bw (j:=0) (by rw[dU,hc];rfl),p,c,rfl,pp,λf' g' H2 s2 gB w1 w2 w3 w4=>?_⟩;exact⟨sm.trans s2,f',g',_,rfl,gB,w1,w2,by lia,by lia⟩
   ·refine⟨_,rfl,_,rfl,_,rfl,_,rfl,a,_,(k:Int),.int c,rfl,rfl,.of (sm _ _ ga),bw (j:=k) (by rw[dU,hc];rfl),_,rfl,p,c,f,m,g,rfl,pp,hf,g1,g2,g3,aeB,g4,λf' g' H2 s2 gB w1 w2 w3 w4=>?_⟩;exact⟨sm.trans s2,f',g',_,rfl,gB,w1,w2,w3,w4⟩
  ·rintro σ H1 ⟨sm,f,g,s4,rfl,hf,g1,g2,g3,g4⟩;exact⟨_,rfl,q f g H1 sm hf g1 g2 g3 g4⟩
end S21
namespace D1
variable{i:Nat}{s:List Wd}
noncomputable def nP(p k:Int):Wd→List Wd
 | .n n=>[.n ((n+1+k)%p)]
 | .w x=>if PySem.Str.ofString x=PySem.Str.ofString "id" then[.w "times",.n (2%p)]else if PySem.Str.ofString x=PySem.Str.ofString "copy" then[.w "back",.w "add"]else if PySem.Str.ofString x=PySem.Str.ofString "add" then[.w "back",.w "copy"]else if PySem.Str.ofString x=PySem.Str.ofString "end" then[.w "back",.w "none"]else if PySem.Str.ofString x=PySem.Str.ofString "none" then[.w "back",.w "end"] else[.w x]
noncomputable def sub(xs:List Wd)(i:Nat)(s:List Wd):List Wd:=xs.take i++s++xs.drop (i+1)
theorem aeC{a b:List Wd}(h:i<a.length):sub (a++b) i s=sub a i s++b:=by
 unfold sub;rw[List.take_append_of_le_length (by lia),List.drop_append_of_le_length (by lia),jr,jr,jr]
theorem aeD{a b:List Wd}(h:a.length≤i):sub (a++b) i s=a++sub b (i-a.length) s:=by
 unfold sub;rw[List.take_append,List.drop_append,jM h,List.drop_eq_nil_of_le (by lia),xY,show i+1-a.length=i-a.length+1 by lia,jr,jr,jr]
theorem Uo{h:Wd}{xs:List Wd}:sub (h::xs) (i+1) s=h::sub xs i s:=rfl
theorem Up{p k:Int}{h:String}(hh:nP p k (.w h)=[.w h]){x:Dr→Dr→Dr}{a b:Dr}{u:Wd}(hx:∀a b,(x a b).aQ=.w h::(a.aQ++b.aQ))(e:(x a b).aQ[i]?=some u)
  (rT:∀i,a.aQ[i]?=some u→∃a':Dr,a'.aQ=sub a.aQ i (nP p k u)∧a'.wf p∧a'.aU=a.aU∧∀B,a.cL B→a'.cL B)
  (rV:∀i,b.aQ[i]?=some u→∃b':Dr,b'.aQ=sub b.aQ i (nP p k u)∧b'.wf p∧b'.aU=b.aU∧∀B,b.cL B→b'.cL B) (wa:a.wf p) (wb:b.wf p) :
  ∃a' b':Dr,(x a' b').aQ=sub (x a b).aQ i (nP p k u)∧a'.wf p∧b'.wf p∧a'.aU=a.aU∧b'.aU=b.aU∧(∀B,a.cL B→a'.cL B)∧∀B,b.cL B→b'.cL B:=by
 rw[hx]at e;cases i with
 |zero=>
  cases e;refine⟨a,b,?_,wa,wb,rfl,rfl,λ_ z=>z,λ_ z=>z⟩;rw[hh,hx];rfl
 |succ i=>
  rw[List.getElem?_cons_succ]at e;by_cases hi:i<a.aQ.length
  ·rw[ia hi]at e;obtain⟨a',h1,h2,h3,h4⟩:=rT i e;refine⟨a',b,?_,h2,wb,h3,rfl,h4,λ_ z=>z⟩;rw[hx,hx,Uo,aeC hi,h1]
  ·rw[iI (by lia)]at e;obtain⟨b',h1,h2,h3,h4⟩:=rV _ e;refine⟨a,b',?_,wa,h2,rfl,h3,λ_ z=>z,h4⟩;rw[hx,hx,Uo,aeD (by lia),h1]
theorem ua{p k:Int}{d:Dr}{h:String}{u:Wd}(hd:d.aQ=[.w h])(e:d.aQ[i]?=some u)(d':Dr)(h1:d'.aQ=nP p k (.w h))(h2:d'.wf p)(h3:d'.aU=d.aU)(h4:∀B,d'.cL B):∃d':Dr,d'.aQ=sub d.aQ i (nP p k u)∧d'.wf p∧d'.aU=d.aU∧∀B,d.cL B→d'.cL B:=by
 rw[hd]at e;cases i with
 |zero=>
  cases e;refine⟨d',?_,h2,h3,λB _=>h4 B⟩;rw[hd,h1];show _=[]++nP p k (.w h)++[];rw[j8,xY]
 |succ i=>cases e
theorem xH{p k:Int}(hp:0<p):∀(d:Dr)(i:Nat)(u:Wd),d.wf p→d.aQ[i]?=some u→∃d':Dr,d'.aQ=sub d.aQ i (nP p k u)∧d'.wf p∧d'.aU=d.aU∧∀B,d.cL B→d'.cL B
 | .id,i,u,_,e=>ua rfl e (.times (2%p)) rfl ⟨lR _ (by lia),lS _ hp⟩ rfl λ_=>True.intro
 | .swap,i,u,_,e=>ua rfl e .swap rfl True.intro rfl λ_=>True.intro
 | .copy,i,u,_,e=>ua rfl e (.back .add) rfl True.intro rfl λ_=>True.intro
 | .fin,i,u,_,e=>ua rfl e (.back .none) rfl True.intro rfl λ_=>True.intro
 | .add,i,u,_,e=>ua rfl e (.back .copy) rfl True.intro rfl λ_=>True.intro
 | .none,i,u,_,e=>ua rfl e (.back .fin) rfl True.intro rfl λ_=>True.intro
 | .jY,i,u,_,e=>ua rfl e .jY rfl True.intro rfl λ_=>True.intro
 | .empty,i,u,_,e=>ua rfl e .empty rfl True.intro rfl λ_=>True.intro
 | .times n,i,u,h,e=>by
  match i,e with
  |0,e=>cases e;exact⟨.times n,rfl,h,rfl,λ_ z=>z⟩
  |1,e=>cases e;exact⟨.times ((n+1+k)%p),rfl,⟨lR _ (by lia),lS _ hp⟩,rfl,λ_ _=>True.intro⟩
  |i+2,e=>cases e
 | .back d,i,u,h,e=>by
  match i,e with
  |0,e=>cases e;exact⟨.back d,rfl,h,rfl,λ_ z=>z⟩
  |i+1,e=>
   obtain⟨d',h1,h2,h3,h4⟩:=xH (k:=k) hp d i u h e;refine⟨.back d',?_,h2,?_,h4⟩
   ·show Wd.w "back"::d'.aQ=_;rw[h1];rfl
   ·show(d'.aU.2,d'.aU.1)=(d.aU.2,d.aU.1);rw[h3]
 | .cC a b,i,u,h,e=>by
  obtain⟨a',b',h1,h2,h3,h4,h5,h6,h7⟩:=Up (k:=k) (x:=.cC) (h := "beside") rfl (λ_ _=>rfl) e (λi e=>xH hp a i u h.1 e) (λi e=>xH hp b i u h.2 e) h.1 h.2;refine⟨.cC a' b',h1,⟨h2,h3⟩,?_,λB z=>⟨h6 B z.1,h7 B z.2.1,?_⟩⟩
  ·show(a'.aU.1+b'.aU.1,a'.aU.2+b'.aU.2)=_;rw[h4,h5];rfl
  ·show a'.aU.1+b'.aU.1+(a'.aU.2+b'.aU.2)≤B;rw[h4,h5];exact z.2.2
 | .bc a b,i,u,h,e=>by
  obtain⟨a',b',h1,h2,h3,h4,h5,h6,h7⟩:=Up (k:=k) (x:=.bc) (h := "then") rfl (λ_ _=>rfl) e (λi e=>xH hp a i u h.1 e) (λi e=>xH hp b i u h.2.1 e) h.1 h.2.1;refine⟨.bc a' b',h1,⟨h2,h3,?_⟩,?_,λB z=>⟨h6 B z.1,h7 B z.2.1,?_⟩⟩
  ·show a'.aU.2=b'.aU.1;rw[h4,h5];exact h.2.2
  ·show(a'.aU.1,b'.aU.2)=_;rw[h4,h5];rfl
  ·show a'.aU.1+b'.aU.2≤B;rw[h4,h5];exact z.2.2
theorem Uq(p k:Int)(u:Wd):(nP p k u).length≤2:=by
 unfold nP;split
 ·exact Nat.le_succ 1
 ·repeat' split
  all_goals exact vG rfl
end D1
namespace S21
open PySem L2 Bw
variable{H:Hp}{p:Int}
theorem Ur:∀(gY aR:List (Key×V)),((aR++gY).map (·.1)).Nodup→uV aR gY=aR++gY
 | [],aR,_=>by rw[j8];rfl
 |p::gY,aR,h=>by
  have hv:eJ aR p.1=none:=by
   unfold eJ;rw[Option.map_eq_none_iff,List.find?_eq_none];intro q hq z;rw[aF]at z;rw[dC,mx,List.nodup_append]at h;exact h.2.2 q.1 (AL hq) p.1 ek z
  show uV (ij aR p.1 p.2) gY=_;rw[OV _ hv,Ur gY (aR++[(p.1,p.2)]) (by rw[jr];exact h),jr];rfl
noncomputable def kW:D1.Wd→Key
 | .n n=>.inl n
 | .w x=>.inr (Str.ofString x)
theorem aeE(u:D1.Wd):kV (kW u)=di u:=by cases u<;>rfl
noncomputable def ub(v1 v2 v3 v4:Addr):List (Key×V):=[(.inr (Str.ofString "id"),.ref v1),(.inr (Str.ofString "copy"),.ref v2),(.inr (Str.ofString "add"),.ref v3),(.inr (Str.ofString "end"),.ref v4)]
noncomputable def mw(v1 v2 v3 v4 v5:Addr):List (Key×V):=ub v1 v2 v3 v4++[(.inr (Str.ofString "none"),.ref v5)]
theorem aeF(v1 v2 v3 v4 v5:Addr):((mw v1 v2 v3 v4 v5).map (·.1)).Nodup:=by
 show([Sum.inr (Str.ofString "id"),Sum.inr (Str.ofString "copy"),Sum.inr (Str.ofString "add"),Sum.inr (Str.ofString "end"),Sum.inr (Str.ofString "none")]:List Key).Nodup;decide +kernel
structure Us(p:Int)(H:Hp)(v1 v2 v3 v4 v5:Addr):Prop where
 h1:H v1=some (.lst ([D1.Wd.w "times",.n (2%p)].map di))
 h2:H v2=some (.lst ([D1.Wd.w "back",.w "add"].map di))
 h3:H v3=some (.lst ([D1.Wd.w "back",.w "copy"].map di))
 h4:H v4=some (.lst ([D1.Wd.w "back",.w "none"].map di))
 h5:H v5=some (.lst ([D1.Wd.w "back",.w "end"].map di))
theorem aeG{k:Int}{v1 v2 v3 v4 v5:Addr}(h:Us p H v1 v2 v3 v4 v5)(u:D1.Wd):(∃v,eJ (mw v1 v2 v3 v4 v5) (kW u)=some (.ref v)∧H v=some (.lst ((D1.nP p k u).map di)))∨(eJ (mw v1 v2 v3 v4 v5) (kW u)=none∧((∃n,u=.n n)∨∃x,u=.w x∧D1.nP p k u=[u])):=by
 have ng:∀{x y:Str}{v:Addr}{r:List (Key×V)},¬x=y→eJ ((Sum.inr y,V.ref v)::r) (Sum.inr x:Key)=eJ r (.inr x):=λh=>oh λz=>h (Sum.inr.inj z).symm;cases u with
 |n n=>exact .inr ⟨rfl,.inl ⟨n,rfl⟩⟩
 |w x=>
  show(∃v,eJ _ (Sum.inr (Str.ofString x):Key)=_∧_)∨(eJ _ (Sum.inr (Str.ofString x):Key)=_∧_);unfold mw ub D1.nP;rw[qK,qK,qK,qK,xY];dsimp only;by_cases e1:Str.ofString x=Str.ofString "id"
  ·rw[ae e1];exact .inl ⟨v1,kq (ai Sum.inr e1.symm),h.h1⟩
  rw[af e1,ng e1];by_cases e2:Str.ofString x=Str.ofString "copy"
  ·rw[ae e2];exact .inl ⟨v2,kq (ai Sum.inr e2.symm),h.h2⟩
  rw[af e2,ng e2];by_cases e3:Str.ofString x=Str.ofString "add"
  ·rw[ae e3];exact .inl ⟨v3,kq (ai Sum.inr e3.symm),h.h3⟩
  rw[af e3,ng e3];by_cases e4:Str.ofString x=Str.ofString "end"
  ·rw[ae e4];exact .inl ⟨v4,kq (ai Sum.inr e4.symm),h.h4⟩
  rw[af e4,ng e4];by_cases e5:Str.ofString x=Str.ofString "none"
  ·rw[ae e5];exact .inl ⟨v5,kq (ai Sum.inr e5.symm),h.h5⟩
  rw[af e5,ng e5];exact .inr ⟨rfl,.inr ⟨x,rfl,rfl⟩⟩
theorem sub_self{xs:List D1.Wd}{i:Nat}{u:D1.Wd}(h:xs[i]?=some u):D1.sub xs i [u]=xs:=by
 obtain⟨hi,rfl⟩:=dB.mp h;unfold D1.sub;rw[jr,List.singleton_append,← List.drop_eq_getElem_cons hi,x4]
theorem aeH{xs:List D1.Wd}{i:Nat}{u:D1.Wd}(hi:i<xs.length):D1.sub xs i [u]=xs.set i u:=by
 unfold D1.sub;rw[List.set_eq_take_append_cons_drop,ae hi,jr];rfl
def AA(K:Frag):TE:=bz (nX K) (aY 3) (aY 4)
def xI(x y:String):TE:=dN (bg (tC (.str (Str.ofString x))) (bg (tC (.str (Str.ofString y))) cm))
def EU:TE:=O8 [(tC (.str (Str.ofString "id")),dN (bg (tC (.str (Str.ofString "times"))) (bg (bz (rI (λ_ j=>0<j) λi j=>.int (i%j)) (tC (.int 2)) (aY 0)) cm))),(tC (.str (Str.ofString "copy")),xI "back" "add"),(tC (.str (Str.ofString "add")),xI "back" "copy"),(tC (.str (Str.ofString "end")),xI "back" "none")]
def Ut(K:Frag)(te:TE):TT:=tB (mY (λxs H Q=>∃(x:V)(b:Bool),xs=[x,.ty "int"]∧((∃i,x=.int i∧kitOne K (.type "int") (.type "int")=some b)∨∃s,x=.str s∧kitOne K (.type "str") (.type "int")=some b)∧Q (.bl b) H) (bg te (bg (tC (.ty "int")) cm)))
def Ll(K:Frag):TS:=cI (dz (mY (λxs H Q=>∃a ys,xs=[.ref a]∧(dq K H a ys∨bf K H a ys)∧∀p,H p=none→Q (.ref p) (upd H p (.lst ys))) (bg (aY 1) cm)) (bX 3))
 (cI (dz (bz (rI (λ_ j=>0<j) λi j=>.int (i%j)) (aY 2) (mY (Uj K) (bg (aY 1) cm))) (bX 4)) (cI (dz EU (bX 5)) (cI (O3 (aY 5) (tC (.str (Str.ofString "none"))) (xI "back" "end")) (cI (fb (ke (O2 (AA K) (aY 5))) (gR (bz fX (bz fX (ib (sN K) (aY 3) iK (gS (aY 4))) (O1 (aY 5) (AA K))) (ib (sN K) (aY 3) (gS (bz (e7 λi j=>.int (i+j)) (aY 4) (tC (.int 1)))) iK))) iR) (cI (fb (Ut K (AA K)) (dz (bz (rI (λ_ j=>0<j) λi j=>.int (i%j)) (bz (e7 λi j=>.int (i+j)) (bz (e7 λi j=>.int (i+j)) (AA K) (tC (.int 1))) (bz (rI (λ_ j=>0<j) λi j=>.int (i%j)) (bz (rI qY λi j=>.int (i/j)) (aY 2) (tC (.int 97))) (aY 0))) (aY 0)) (MM (aY 3) (aY 4) Nj)) iR) (gR (aY 3)))))))
theorem aeI{t u:TS}{D:Ends}{σ:St}(h:t { D with nx:=u D } σ H):cI t u D σ H:=h
theorem qH{v ld:Addr}{xs:List V}{aR:List (Key×V)}{o:HO}(h:H v=some (.lst xs))(g:H ld=some (.dK aR)):(upd H ld o) v=some (.lst xs):=by
 rw[cG (λe=>by rw[e,g]at h;cases h)];exact h
theorem aeJ{σ:St}{R:VK}(h0:σ[0]?=some (some (.int p)))(p0:0<p)(q:∀ld v1 v2 v3 v4 H',aK H H'→H ld=none→H' ld=some (.dK (ub v1 v2 v3 v4))→H' v1=some (.lst ([D1.Wd.w "times",.n (2%p)].map di))→H' v2=some (.lst ([D1.Wd.w "back",.w "add"].map di))→H' v3=some (.lst ([D1.Wd.w "back",.w "copy"].map di))→H' v4=some (.lst ([D1.Wd.w "back",.w "none"].map di))→R (.ref ld) H'):EU σ H R:=by
 unfold EU;intro ld me;have s0:aK H (upd H ld (.dK [])):=.upd me;have g0:(upd H ld (.dK [])) ld=some (.dK []):=aV;generalize upd H ld (.dK [])=H0 at s0 g0 ⊢;have z2:2≤sizeLine:=by decide
 unfold sZ;refine⟨_,h0,2,p,rfl,rfl,p0,z2,λv1 e1=>?_⟩;unfold sZ;refine⟨z2,λv2 e2=>?_⟩;unfold sZ;refine⟨z2,λv3 e3=>?_⟩;unfold sZ;refine⟨z2,λv4 e4=>?_⟩;unfold sZ;have S1:=aK.upd (H:=H0) e1 (o:=.lst ([D1.Wd.w "times",.n (2%p)].map di));have S2:=aK.upd e2 (o:=.lst ([D1.Wd.w "back",.w "add"].map di));have S3:=aK.upd e3 (o:=.lst ([D1.Wd.w "back",.w "copy"].map di));have S4:=aK.upd e4 (o:=.lst ([D1.Wd.w "back",.w "none"].map di));have gl:=S4 _ _ (S3 _ _ (S2 _ _ (S1 _ _ g0)));refine⟨gl,ub v1 v2 v3 v4,rfl,by show 4≤15;decide,?_⟩;have nd:((([]:List (Key×V))++ub v1 v2 v3 v4).map (·.1)).Nodup:=by
  show([Sum.inr (Str.ofString "id"),Sum.inr (Str.ofString "copy"),Sum.inr (Str.ofString "add"),Sum.inr (Str.ofString "end")]:List Key).Nodup;decide +kernel
 rw[Ur _ _ nd,xY];exact q ld v1 v2 v3 v4 _ ((s0.trans (S1.trans (S2.trans (S3.trans S4)))).put me) me aV (qH (S4 _ _ (S3 _ _ (S2 _ _ aV))) gl) (qH (S4 _ _ (S3 _ _ aV)) gl) (qH (S4 _ _ aV) gl) (qH aV gl)
def Uu(_K:Frag):Sp:=λvs H Q _=>∃(p c:Int)(a:Addr)(d:D1.Dr),vs=[.int p,.ref a,.int c]∧p∈cq∧WL H a d∧d.wf p∧d.cL 64∧d.aQ.length≤1000∧
 ∀f g H',aK H H'→WL H' f g→g.wf p→g.cL 64→g.aQ.length≤d.aQ.length+1→g.aU=d.aU→Q (.ref f) H'
theorem EV:cT ["p","words","cell","found","at","pairs"] ["p","words","cell"] (bu IW):=de rfl rfl rfl (by decide +kernel) rfl
theorem aeK{f:Addr}{fd:FuncData}(F:cA K "_law_swapped" "_law_swapped" IW f fd)(T:Txt mg):br P w K mg base bp 1 f fd ["p","words","cell"] (Uu K):=by
 refine F.ok EV (λvs H Q E h=>?_) (λbE A outer s H vs Q E hr h=>?_)
 ·obtain⟨p,c,a,d,rfl,_⟩:=h;rfl
 ·obtain⟨p,c,a,d,rfl,pp,ga,wf,nr,hl,q⟩:=h;have hu:=hr.units;have nk:=Nat.lt_of_le_of_lt (Nat.add_le_add_left (show 1≤64 by decide) _) hu;refine⟨Ll K,?_,?_⟩
  ·unfold Ll;refine ba ?_ ?_
   ·exact bH (i:=3) EV.nd rfl (.inl rfl) (gz (yM K rfl) rfl T.list rp (aJ (pv 1) aO))
   refine ba ?_ ?_
   ·exact bH (i:=4) EV.nd rfl (.inl rfl) (aX iC (pv 2) (eG (gk K rfl) rfl T.len gm (aJ (pv 1) aO)))
   refine ba ?_ ?_
   ·refine bH (i:=5) ?_ ?_ ?_ ?_ ?_ ?_
    ·exact EV.nd
    ·rfl
    ·exact Or.inl rfl
    ·unfold EU xI;refine aaG ?_ ?_ ?_ ?_ ?_
     ·refine Cj ?_ ?_ ?_
      ·exact cz
      ·exact cE (aJ cz (aJ (aX iC aW (pv 0)) aO))
      refine Cj ?_ ?_ ?_
      ·exact cz
      ·exact cE (aJ cz (aJ cz aO))
      refine Cj ?_ ?_ ?_
      ·exact cz
      ·exact cE (aJ cz (aJ cz aO))
      refine Cj ?_ ?_ ?_
      ·exact cz
      ·exact cE (aJ cz (aJ cz aO))
      exact aaF
     ·rfl
     ·rfl
     ·exact List.cons_ne_nil _ _
     ·exact vG rfl
    ·rfl
    ·exact .inl rfl
   refine ba ?_ ?_
   ·unfold xI;exact O4 nk (pv 5) cz (cE (aJ cz (aJ cz aO))) rfl
   unfold Ut AA;refine ba ?_ ?_
   ·refine cX ?_ ?_ dy
    ·exact AX (aaC nk (bt (cU K rfl) (pv 3) (pv 4) (λ_ _=>rfl)) (pv 5)) rfl
    ·refine bq ?_;refine bV ?_;exact aX eQ (aX eQ (dD (kl K rfl) (pv 3) dQ (dj (pv 4))) (Cg nk (pv 5) (bt (cU K rfl) (pv 3) (pv 4) (λ_ _=>rfl)) (λ_ _=>rfl))) (dD (kl K rfl) (pv 3) (dj (aX eU (pv 4) aW)) dQ)
   refine ba ?_ ?_
   ·refine cX ?_ ?_ dy
    ·exact ux (eG (TR K rfl (T := "int")) rfl T.isinstance BZ (aJ (bt (cU K rfl) (pv 3) (pv 4) (λ_ _=>rfl)) (aJ (BR rfl T.int BX) aO)))
    ·refine bq ?_;exact mK (aX iC (aX eU (aX eU (bt (cU K rfl) (pv 3) (pv 4) (λ_ _=>rfl)) aW) (aX iC (aX kd (pv 2) aW) (pv 0))) (pv 0)) (Bc (pv 3) (pv 4) Bq)
   ·exact bq (bV (pv 3))
  have p0:0<p:=by have:=(fe p pp).1;lia
  have z:(10000:Nat)≤sizeLine:=by decide
  have eN:(d.aQ.map di).length=d.aQ.length:=aZ _;have Ji:=D1.words_pos d;unfold Ll;refine kY ⟨_,rfl,a,_,rfl,.inl (.of ga),λlf qv=>?_⟩;have s1:aK H (upd H lf (.lst (d.aQ.map di))):=.upd qv;have Uv:(upd H lf (.lst (d.aQ.map di))) lf=some (.lst (d.aQ.map di)):=aV;generalize upd H lf (.lst (d.aQ.map di))=H1 at s1 Uv ⊢;refine kY ⟨_,rfl,_,rfl,a,_,rfl,.inl (.of (s1 _ _ ga)),c,_,rfl,rfl,by show(0:Int)<_;lia,?_⟩;dsimp only;have b0:=lR c (show(((d.aQ.map di).length:Nat):Int)≠0 by lia);have b1:=lS c (show(0:Int)<(((d.aQ.map di).length:Nat):Int) by lia);obtain⟨i,hi⟩:∃i:Nat,c%(((d.aQ.map di).length:Nat):Int)=(i:Int):=⟨(c%(((d.aQ.map di).length:Nat):Int)).toNat,by lia⟩;rw[hi];have jU:i<d.aQ.length:=by lia
  clear b0 b1 hi;obtain⟨u,j5⟩:∃u,d.aQ[i]?=some u:=⟨_,cf jU⟩;refine kY (aeJ rfl p0 λld v1 v2 v3 v4 H2 s2 me gd a1 a2 a3 a4=>?_);have Es:=s2 _ _ Uv;refine aeI ⟨by show 2≤sizeLine;lia,λv5 h5=>⟨_,rfl,ld,_,rfl,wt.k (k:=.inr (Str.ofString "none")) (aK.upd h5 _ _ gd) (by show 4<sizeLine;lia),?_⟩⟩;have vz:(upd H2 v5 (.lst [.str (Str.ofString "back"),.str (Str.ofString "end")])) ld=some (.dK (ub v1 v2 v3 v4)):=aK.upd h5 _ _ gd;have S5:=aK.upd h5 (o:=.lst [.str (Str.ofString "back"),.str (Str.ofString "end")]);have hv:eJ (ub v1 v2 v3 v4) (Sum.inr (Str.ofString "none"):Key)=none:=by
   have nd:=aeF v1 v2 v3 v4 v5;unfold eJ;rw[Option.map_eq_none_iff,List.find?_eq_none];intro x hx z;rw[aF]at z;unfold mw at nd;rw[dC,List.nodup_append]at nd;exact nd.2.2 x.1 (AL hx) _ ek z
  have e5:ub v1 v2 v3 v4++[((Sum.inr (Str.ofString "none"):Key),V.ref v5)]=mw v1 v2 v3 v4 v5:=rfl;rw[OV _ hv,e5];dsimp only;have hP:Us p (upd (upd H2 v5 (.lst [.str (Str.ofString "back"),.str (Str.ofString "end")])) ld (.dK (mw v1 v2 v3 v4 v5))) v1 v2 v3 v4 v5:=⟨qH (S5 _ _ a1) vz,qH (S5 _ _ a2) vz,qH (S5 _ _ a3) vz,qH (S5 _ _ a4) vz,qH aV vz⟩;have EW:(upd (upd H2 v5 (.lst [.str (Str.ofString "back"),.str (Str.ofString "end")])) ld (.dK (mw v1 v2 v3 v4 v5))) ld=some (.dK (mw v1 v2 v3 v4 v5)):=aV;have pT:(upd (upd H2 v5 (.lst [.str (Str.ofString "back"),.str (Str.ofString "end")])) ld (.dK (mw v1 v2 v3 v4 v5))) lf=some (.lst (d.aQ.map di)):=qH (S5 _ _ Es) vz;have s6:aK H1 (upd (upd H2 v5 (.lst [.str (Str.ofString "back"),.str (Str.ofString "end")])) ld (.dK (mw v1 v2 v3 v4 v5))):=(s2.trans S5).put me;generalize upd (upd H2 v5 (.lst [.str (Str.ofString "back"),.str (Str.ofString "end")])) ld (.dK (mw v1 v2 v3 v4 v5))=H6 at hP EW pT s6 ⊢;clear a1 a2 a3 a4 gd vz S5 h5 hv s2 Es;have Lm:=s1.trans s6;have xJ:nW (d.aQ.map di) (i:Int)=some (di u):=bw (by rw[dU,j5];rfl);obtain⟨g,w1,w2,w3,w4⟩:=D1.xH (k:=c/97%p) p0 d i u wf j5;have lg:g.aQ.length≤d.aQ.length+1:=by
   have:=D1.Uq p (c/97%p) u
   rw[w1];unfold D1.sub;rw[bY,bY,cB,da];lia
  have dg:∀H',H' ld=some (.dK (mw v1 v2 v3 v4 v5))→oi H' ld (di u) (eJ (mw v1 v2 v3 v4 v5) (kW u)):=λH' h'=>by
   rw[← aeE];exact oi.k h'
  have ixI:mZ (d.aQ.map di).length (i:Int)=some i:=by
   unfold mZ;rw[ae (by lia),ae (by lia),show((i:Nat):Int).toNat=i by lia]
  rcases aeG (k:=c/97%p) hP u with⟨v,e1,e2⟩|⟨e1,e2⟩
  ·rw[e1]at dg;have lsw:=D1.Uq p (c/97%p) u;refine qC true (λR r=>⟨_,rfl,_,rfl,lf,_,_,_,rfl,rfl,.of pT,xJ,_,rfl,ld,_,rfl,dg _ EW,_,rfl,r⟩) (λ_=>?_) (λz=>nomatch z);refine⟨_,rfl,_,rfl,(i:Int),rfl,lf,_,rfl,.of pT,λt1 h1=>?_⟩;refine⟨_,rfl,_,rfl,_,rfl,lf,_,_,_,rfl,rfl,.of (aK.upd h1 _ _ pT),xJ,ld,_,rfl,dg _ (aK.upd h1 _ _ EW),t1,v,_,_,rfl,rfl,aV,aK.upd h1 _ _ e2,?_,λt2 h2=>?_⟩
   ·rw[Ak (by lia),cB,aZ,aZ];lia
   refine⟨_,rfl,_,rfl,(i:Int),1,rfl,rfl,((i+1:Nat):Int),rfl,lf,_,rfl,.of (aK.upd h2 _ _ (aK.upd h1 _ _ pT)),λt3 h3=>?_⟩;refine⟨t2,t3,_,_,rfl,rfl,aK.upd h3 _ _ aV,aV,?_,λt4 h4=>?_⟩
   ·rw[Ak (by lia),En (by lia),bY,cB,da,aZ,aZ];lia
   refine q t4 g _ (Lm.trans ((aK.upd h1).trans ((aK.upd h2).trans ((aK.upd h3).trans (.upd h4))))) ?_ w2 (w4 64 nr) lg w3;show _=_;rw[aV,w1,Ak (by lia),En (by lia)];unfold D1.sub;rw[dC,dC,List.map_take,List.map_drop]
  ·rw[e1]at dg;refine qC false (λR r=>⟨_,rfl,_,rfl,lf,_,_,_,rfl,rfl,.of pT,xJ,_,rfl,ld,_,rfl,dg _ EW,_,rfl,r⟩) (λz=>nomatch z) (λ_=>?_);rcases e2 with⟨n,rfl⟩|⟨x,rfl,e2⟩
   ·refine qC true (λR r=>⟨_,rfl,_,rfl,lf,_,_,_,rfl,rfl,.of pT,xJ,_,true,rfl,.inl ⟨n,rfl,Hw K⟩,_,rfl,r⟩) (λ_=>?_) (λz=>nomatch z);refine⟨_,rfl,_,rfl,lf,_,_,_,rfl,rfl,.of pT,xJ,n,1,rfl,rfl,_,rfl,c,97,rfl,rfl,⟨by decide,by decide⟩,_,rfl,c/97,p,rfl,rfl,p0,_,_,rfl,rfl,_,rfl,_,p,rfl,rfl,p0,_,rfl,_,rfl,lf,_,(i:Int),i,rfl,rfl,pT,ixI,_,rfl,?_⟩;refine q lf g _ (Lm.write qv) ?_ w2 (w4 64 nr) lg w3;show _=_;rw[aV,w1];show _=some (HO.lst ((D1.sub d.aQ i [D1.Wd.n ((n+1+c/97%p)%p)]).map di));rw[aeH jU,List.map_set];rfl
   ·refine qC false (λR r=>⟨_,rfl,_,rfl,lf,_,_,_,rfl,rfl,.of pT,xJ,_,false,rfl,.inr ⟨_,rfl,Hy K⟩,_,rfl,r⟩) (λz=>nomatch z) (λ_=>?_);rw[e2,sub_self j5]at w1;refine⟨_,rfl,q lf g _ Lm ?_ w2 (w4 64 nr) lg w3⟩;show _=_;rw[w1];exact pT
theorem xK:kqdOk 8 (.tuple [.str (Str.ofString "same")])=true:=by
 simp[kqdOk]
 kernel_rfl
def Uw(K:Frag)(Pt:Addr):Sp:=λvs H Q _=>∃(p:Int)(a b ra rb:Addr)(RA RB:List V)(d e:Drw),vs=[.int p,.ref a,.ref b,.ref ra,.ref rb]∧p∈cq∧Ok p d∧Ok p e∧d.aU=e.aU∧d.aQ.length≤900000∧e.aQ.length≤900000∧bf K H a d.aQ∧bf K H b e.aQ∧jV H Pt (qq lL) qr∧
 bf K H ra RA∧bj K H RA ((d.aN p).map cj)∧bf K H rb RB∧bj K H RB ((e.aN p).map cj)∧∀H',aK (S21.del Pt H) H'→jV H' Pt (qq lL) qr→Q (.bl true) H'
theorem Ln:cT ["p","one","other","rows","others","found","lists"] ["p","one","other","rows","others"] (bu IY):=de rfl rfl rfl (by decide +kernel) rfl
theorem aeL{Pt f fC fS:Addr}{fd fH eS:FuncData}(F:cA K "_law_parts" "_law_parts" IY f fd)(T:Txt mg)
  (GC:br P w K mg base bp 11 fC fH ["p","one","other"] (Ke K Pt)) (kC:Kp K fC) (bC:Binds K fH ["p","one","other"] []) (mC:Mg mg "compared" fC)
  (GS:br P w K mg base bp 3 fS eS ["p","rows","row"] (Tu K)) (kS:Kp K fS) (bS:Binds K eS ["p","rows","row"] []) (mS:Mg mg "_law_spans" fS) :
  br P w K mg base bp 12 f fd ["p","one","other","rows","others"] (Uw K Pt):=by
 refine F.ok Ln (λvs H Q E h=>?_) (λbE A outer s H vs Q E hr h=>?_)
 ·obtain⟨p,a,b,ra,rb,RA,RB,d,e,rfl,_⟩:=h;rfl
 ·obtain⟨p,a,b,ra,rb,RA,RB,d,e,rfl,pp,od,oe,xm,ld,le,hd,he,pC,cV,tR,Ux,Uy,q⟩:=h;have hu:=hr.units;have r3:dt 3 _:=hr.mono (by lia);have i7:(1000:Nat)≤sizeLine:=by decide
  refine⟨_,ba (bH (i:=5) Ln.nd rfl (.inl rfl) (bZ GC hr rfl mC kC bC .nil cb (aJ (pv 0) (aJ (pv 1) (aJ (pv 2) aO))))) (ba (cX (cM (BV K rfl hu) (pv 3) (pv 4) (cJ _)) (bq (bV (Gf (BV K rfl hu) (pv 5) (c7 (aJ cz aO)) (cJ _)))) dy) (ba (cX (PW.pt (vM (Ba (ux (eG (Z5 K rfl (T := "tuple")) rfl T.isinstance BZ (aJ (pv 5) (aJ (BR rfl T.tuple lJ) aO))))) (vM (cM qg (eG (gk K rfl) rfl T.len gm (aJ (pv 5) aO)) aW (cJ _)) (vM (cM qg (bt (cH K rfl) (pv 5) aW (λ_ _=>rfl)) cz (cJ _)) (A0 (cM (Z8 K rfl) (bt (cH K rfl) (pv 5) aW (λ_ _=>rfl)) (cE (aJ aW (aJ aW aO))) rfl)))))) (bq (bV vL)) dy) (ba (bH (i:=6) Ln.nd rfl (.inl rfl) (cE (aJ (pv 3) (aJ (pv 4) aO)))) (ba (cX (cM qg (eG (gk K rfl) rfl T.len gm (aJ (bt (cH K rfl) (pv 5) aW (λ_ _=>rfl)) aO)) (eG (gk K rfl) rfl T.len gm (aJ (bt (cH K rfl) (aX (dh K rfl) (pv 3) (pv 4)) aW (λ_ _=>rfl)) aO)) (cJ _)) (bq (bV vL)) dy) (bq (bV (Xe (bZ GS r3 rfl mS kS bS .nil cb (aJ (pv 0) (aJ (bt (cU K rfl) (pv 6) (bt (cH K rfl) (pv 5) aW (λ_ _=>rfl)) (λ_ _=>rfl)) (aJ (bt (cH K rfl) (pv 5) aW (λ_ _=>rfl)) aO)))) (Xd (MG (bZ GS r3 rfl mS kS bS .nil cb (aJ (pv 0) (aJ (bt (cU K rfl) (pv 6) (aX iS aW (bt (cH K rfl) (pv 5) aW (λ_ _=>rfl))) (λ_ _=>rfl)) (aJ (bt (cH K rfl) (pv 5) aW (λ_ _=>rfl)) aO))))))))))))),?_⟩;obtain⟨gd1,xn,gd3,tV⟩:=Drw.good pp od.1 od.2;obtain⟨ge1,ge2,ge3,qB⟩:=Drw.good pp oe.1 oe.2;have hs1:e.dG=d.dG:=ai Prod.fst xm.symm;have o8:e.df=d.df:=ai Prod.snd xm.symm;rw[hs1,o8]at qB;obtain⟨ps,hP⟩:=pC.tab;have o1:=Drw.one pp od;have o2:=Drw.one pp oe;refine⟨_,rfl,_,rfl,_,rfl,p,a,b,d,e,rfl,pp,od,oe,xm,ld,le,hd,he,pC,λsame t H1 s1 L1 ht=>?_,λns t v row i H1 s1 L1 ht hv eV hi=>?_⟩
  ·have EX:=s1.bh (bf.del hP cV);have EY:=(bj.del hP tR).mono s1;have EZ:=s1.bh (bf.del hP Ux);have E2:=(bj.del hP Uy).mono s1;refine⟨_,rfl,_,rfl,_,_,.tuple EX EY,.tuple EZ E2,tD _,tD _,_,rfl,Ja (by rw[same]) ?_⟩;refine⟨_,rfl,by show 1≤sizeLine;lia,λu j5=>⟨.tuple [.str (Str.ofString "same")],.tuple [.str (Str.ofString "same")],.tuple ((aK.upd j5).bh ht) (.cons (.str _) .nil),.tuple (.of aV) (.cons (.str _) .nil),xK,xK,?_⟩⟩;simp only[Bool.false_eq_true,if_false,decide_true];exact q _ (rX s1 (.upd j5)) (L1.mono (.upd j5))
  ·have EX:=s1.bh (bf.del hP cV);have EY:=(bj.del hP tR).mono s1;have EZ:=s1.bh (bf.del hP Ux);have E2:=(bj.del hP Uy).mono s1;refine⟨_,rfl,_,rfl,_,_,.tuple EX EY,.tuple EZ E2,tD _,tD _,_,rfl,I0 (λz=>ns (Sl (Dat.tuple.inj z))) ?_⟩;have o9:Br (.int i) [.int 0,.int 1]=true:=by rcases hi with⟨rfl,_⟩|⟨rfl,_⟩<;>rfl
   refine⟨_,rfl,t,_,true,rfl,ht,ZY K,_,rfl,dW ?_⟩;refine⟨_,rfl,t,_,rfl,.inr ht,rfl,_,rfl,om (λz=>absurd rfl z) (λ_=>?_)⟩;refine⟨_,rfl,t,_,0,_,rfl,rfl,ht,bw (j:=0) rfl,rfl,_,rfl,om (λz=>absurd rfl z) (λ_=>?_)⟩;refine⟨_,rfl,t,_,2,_,rfl,rfl,ht,bw (j:=2) rfl,by show 2≤sizeLine;lia,λl2 h2=>⟨l2,_,rfl,.inl (.of aV),rfl,rfl,_,rfl,?_⟩⟩;rw[o9];refine dW ?_;refine⟨_,rfl,_,rfl,by show 2≤sizeLine;lia,λll lK=>?_⟩;have s2:aK H1 (upd (upd H1 l2 (.lst [.int 0,.int 1])) ll (.lst [.ref ra,.ref rb])):=(aK.upd h2).trans (.upd lK);have gl:(upd (upd H1 l2 (.lst [.int 0,.int 1])) ll (.lst [.ref ra,.ref rb])) ll=some (.lst [.ref ra,.ref rb]):=aV;generalize upd (upd H1 l2 (.lst [.int 0,.int 1])) ll (.lst [.ref ra,.ref rb])=H2 at s2 gl ⊢;have nu:=s2.bh ht;have lO:=s2.bh hv;have Uz:=s2.bh EX;have Lo:=EY.mono s2;have UA:=s2.bh EZ;have Lp:=E2.mono s2;have eA:=fg Lo;have eB:=fg Lp;refine⟨_,rfl,t,_,1,_,rfl,rfl,nu,bw (j:=1) rfl,v,_,rfl,.inr lO,_,rfl,_,rfl,ra,rb,_,_,rfl,rfl,Uz,UA,by lia,λc H3 s3 hc=>?_⟩;obtain⟨x,hx,xr,hxr,cF⟩:∃x,(RA++RB)[0]?=some (.ref x)∧∃xr:List Int,bf K H3 x (xr.map V.int)∧xr.length=d.dG+d.df:=by
    have E3:=Lo.mono s3;have E4:=Lp.mono s3;cases hA:RA with
    |cons y RA'=>
     have h0:RA[0]?=some y:=by rw[hA];rfl
     obtain⟨r0,x,e0,rfl,hx⟩:=jd E3 h0;exact⟨x,rfl,r0,hx,(tV r0 (cZ e0)).1⟩
    |nil=>
     cases hB:RB with
     |cons y RB'=>
      have h0:RB[0]?=some y:=by rw[hB];rfl
      obtain⟨r0,x,e0,rfl,hx⟩:=jd E4 h0;exact⟨x,rfl,r0,hx,(qB r0 (cZ e0)).1⟩
     |nil=>
      rw[hA]at eA;rw[hB]at eB;exact absurd ((uk eA.symm).trans (uk eB.symm).symm) ns
   refine⟨c,_,0,_,rfl,rfl,hc,bw (j:=0) hx,x,_,rfl,.inr hxr,rfl,_,rfl,om (λz=>absurd ?_ z) (λ_=>?_)⟩
   ·rw[aZ,aZ,cF,eV.1]
   have oy:=s3.bh nu;have E5:=s3.bh lO;have E6:=s3 _ _ gl;have UB:=s3.bh Uz;have E3:=Lo.mono s3;have UC:=s3.bh UA;have E4:=Lp.mono s3;have sD:=rX s1 (s2.trans s3);have xp:=L1.mono (s2.trans s3);rcases hi with⟨rfl,Lq,Lr⟩|⟨rfl,Lq,Lr⟩
   ·refine⟨_,rfl,_,rfl,_,rfl,t,_,2,_,rfl,rfl,oy,bw (j:=2) rfl,ll,_,0,_,rfl,rfl,.of E6,bw (j:=0) rfl,_,rfl,t,_,1,_,rfl,rfl,oy,bw (j:=1) rfl,p,ra,v,RA,d.aN p,row,d.dG+d.df,rfl,pp,UB,E3,E5,tV,eV,o1,by lia,by lia,λH4 s4=>?_⟩;rw[@aC _ (Classical.propDecidable _) Lq];refine⟨_,rfl,dZ ?_⟩;refine⟨_,rfl,_,rfl,_,rfl,t,_,2,_,rfl,rfl,s4.bh oy,bw (j:=2) rfl,1,0,rfl,rfl,ll,_,1,_,rfl,rfl,.of (s4 _ _ E6),bw (j:=1) rfl,_,rfl,t,_,1,_,rfl,rfl,s4.bh oy,bw (j:=1) rfl,p,rb,v,RB,e.aN p,row,d.dG+d.df,rfl,pp,s4.bh UC,E4.mono s4,s4.bh E5,qB,eV,o2,by lia,by lia,λH5 s5=>?_⟩;rw[@ab _ (Classical.propDecidable _) Lr];exact⟨_,rfl,q _ (rX sD (s4.trans s5)) (xp.mono (s4.trans s5))⟩
   ·refine⟨_,rfl,_,rfl,_,rfl,t,_,2,_,rfl,rfl,oy,bw (j:=2) rfl,ll,_,1,_,rfl,rfl,.of E6,bw (j:=1) rfl,_,rfl,t,_,1,_,rfl,rfl,oy,bw (j:=1) rfl,p,rb,v,RB,e.aN p,row,d.dG+d.df,rfl,pp,UC,E4,E5,qB,eV,o2,by lia,by lia,λH4 s4=>?_⟩;rw[@aC _ (Classical.propDecidable _) Lq];refine⟨_,rfl,dZ ?_⟩;refine⟨_,rfl,_,rfl,_,rfl,t,_,2,_,rfl,rfl,s4.bh oy,bw (j:=2) rfl,1,1,rfl,rfl,ll,_,0,_,rfl,rfl,.of (s4 _ _ E6),bw (j:=0) rfl,_,rfl,t,_,1,_,rfl,rfl,s4.bh oy,bw (j:=1) rfl,p,ra,v,RA,d.aN p,row,d.dG+d.df,rfl,pp,s4.bh UB,E3.mono s4,s4.bh E5,tV,eV,o1,by lia,by lia,λH5 s5=>?_⟩;rw[@ab _ (Classical.propDecidable _) Lr];exact⟨_,rfl,q _ (rX sD (s4.trans s5)) (xp.mono (s4.trans s5))⟩
theorem aeM{rs:LL}{l r:Nat}(pp:p∈cq)(hR:Bw.bo p (l+r) rs)(hn:rs.length<9)(hl:l<9)(hr:r<9):cD p ((iu rs l r).aN p)=cD p rs:=by
 have g6:D1.bo p rs (l+r):=λq hq=>hR q hq;obtain⟨wf,sd,lt⟩:=SS g6 hn hl hr;obtain⟨r1,_,r3⟩:=D1.vk pp wf;have e1:(iu rs l r).l=l:=ai Prod.fst sd;have e2:(iu rs l r).r=r:=ai Prod.snd sd;rw[e1,e2]at r1 r3;have key:∀{q:List Int},q.length=l+r→(Bw.Sp p (RS ((iu rs l r).aN p)) (fn q)↔Bw.Sp p (RS rs) (fn q)):=λ{q} h=>by
  rw[Kb h,D1.kX (λq hq=>(r1 q hq).1),← r3];exact lt _ _
 exact tu.red pp r1 hR ⟨λq hq=>(key (r1 q hq).1).mp (md hq),λq hq=>(key (hR q hq).1).mpr (md hq)⟩
theorem aeN{n:Nat}{R:LL}(pp:p∈cq)(hR:Bw.bo p n R):cD p (cD p R)=cD p R:=by
 have o:=gZ pp hR;exact tu.red pp o.rws hR ⟨o.sub,o.sup⟩
theorem aeO{rs:LL}{l r:Nat}(hR:D1.bo p rs (l+r))(hn:rs.length<9)(hl:l<9)(hr:r<9):(iu rs l r).cL 64∧(iu rs l r).aQ.length≤9000000:=by
 have hC:=D8 hR;have nC:=D7 rs (l+r);have n1:((e9 rs (l+r)).take l).length=l:=by rw[cB];lia
 have n2:((e9 rs (l+r)).drop l).length=r:=by rw[da];lia
 have c1:D1.bo p ((e9 rs (l+r)).take l) rs.length:=hC.sub λr hr=>gy hr;have c2:D1.bo p ((e9 rs (l+r)).drop l) rs.length:=hC.sub λr hr=>gM hr;have a1:=D1.tU (p:=p) 17 _ rs.length (by lia) hn (by lia) c1;have a2:=D1.tU (p:=p) 17 _ rs.length (by lia) hn (by lia) c2;have w1:=D1.qy (p:=p) (n:=17) (by lia) hn (by lia) c1;have w2:=D1.qy (p:=p) (n:=17) (by lia) hn (by lia) c2;have d1:=(D1.kH (p:=p) 17 _ rs.length (by lia) c1).1.1;have d2:=(D1.kH (p:=p) 17 _ rs.length (by lia) c2).1.1;rw[n1]at d1;rw[n2]at d2;refine⟨⟨a1,a2,?_⟩,?_⟩
 ·show(D1.sumF 17 ((e9 rs (l+r)).take l) rs.length).aU.2+(D1.sumF 17 ((e9 rs (l+r)).drop l) rs.length).aU.2≤64;rw[d1,d2];show l+r≤64;lia
 ·unfold iu;simp only[D1.Dr.aQ,bY,eE];lia
theorem UD(ns:List Int)(lo hi:Option Int):∃ms:List Int,fV (ns.map V.int) lo hi=ms.map V.int∧ms.length≤ns.length:=by
 refine⟨(ns.drop (HT.cK ns.length 0 lo)).take (HT.cK ns.length ns.length hi-HT.cK ns.length 0 lo),?_,?_⟩
 ·unfold fV;rw[aZ,List.map_take,List.map_drop]
 ·rw[cB,da];lia
end S21
namespace D1
theorem aeP:((List.range 6).all λc=>(List.range 6).all λl=>(List.range 6).all λr=>decide (l+r≤5→parts c l+parts c r≤60))=true:=by decide +kernel
theorem aeQ{c l r:Nat}(hc:c<6)(h:l+r≤5):parts c l+parts c r≤60:=by
 have h1:=jN.mp aeP c (jq.mpr hc);have h2:=jN.mp h1 l (jq.mpr (by lia));have h3:=jN.mp h2 r (jq.mpr (by lia));exact aG h3 h
end D1
namespace S21
open PySem L2 Bw
theorem aeR{p:Int}{rs:LL}{l r:Nat}(hR:D1.bo p rs (l+r))(hn:rs.length<6)(h:l+r≤5):(iu rs l r).aQ.length≤800000:=by
 have hC:=D8 hR;have nC:=D7 rs (l+r);have n1:((e9 rs (l+r)).take l).length=l:=by rw[cB];lia
 have n2:((e9 rs (l+r)).drop l).length=r:=by rw[da];lia
 have c1:D1.bo p ((e9 rs (l+r)).take l) rs.length:=hC.sub λr hr=>gy hr;have c2:D1.bo p ((e9 rs (l+r)).drop l) rs.length:=hC.sub λr hr=>gM hr;have pf:=D1.aeQ hn h;have small:∀{ss:LL},D1.bo p ss rs.length→ss.length<9→(D1.sumF 17 ss rs.length).aQ.length≤10002*D1.parts rs.length ss.length+10:=λ{ss} hs hl=>by
  by_cases z:1≤rs.length+ss.length
  ·have:=D1.tT (p:=p) 17 ss rs.length (by lia) (by lia) hl z hs
   lia
  ·have e1:rs.length=0:=by lia
   have e2:ss=[]:=uk (by lia);subst e2;rw[e1];exact vG rfl
 have w1:=small c1 (by lia);have w2:=small c2 (by lia);rw[n1]at w1;rw[n2]at w2;unfold iu;simp only[D1.Dr.aQ,bY,eE];lia
theorem UE{p:Int}{rs:LL}{l r:Nat}(pp:p∈cq)(hR:Bw.bo p (l+r) rs)(one:cD p rs=rs)(hn:rs.length<6)(h:l+r≤5) :
  Ok p (conv (iu rs l r))∧(conv (iu rs l r)).aN p=rs∧(conv (iu rs l r)).aU=(l,r)∧(conv (iu rs l r)).aQ.length≤800000:=by
 have g6:D1.bo p rs (l+r):=λq hq=>hR q hq;obtain⟨wf,sd,_⟩:=SS g6 (by lia) (by lia) (by lia);have nr:=(aeO g6 (by lia) (by lia) (by lia)).1;refine⟨xl wf nr,?_,?_,?_⟩
 ·rw[zV pp wf nr,aeM pp hR (by lia) (by lia) (by lia),one]
 ·rw[pK,sd]
 ·rw[mq,aZ];exact aeR g6 hn h
end S21
namespace Bw
variable{D:LL}{n:Nat}
theorem gI.erase{k:Nat}{ls:List Nat}(E:gI n k D ls)(a:Nat):gI n k (D.eraseIdx a) (ls.eraseIdx a):=by
 have xv:∀{α:Type}(xs:List α)(i:Nat),(xs.eraseIdx a)[i]?=xs[if i<a then i else i+1]?:=λxs i=>by
  rw[List.getElem?_eraseIdx];split<;>rfl
 refine⟨?_,E.up.sublist (List.eraseIdx_sublist _ _),λl h=>E.lt l ((List.eraseIdx_sublist _ _).mem h),λi r l h1 h2=>?_,λi i' r l hn h1 h2=>?_⟩
 ·rw[x6,x6,E.len]
 ·rw[xv]at h1 h2;exact E.one _ r l h1 h2
 ·rw[xv]at h1 h2;refine E.alone _ _ r l ?_ h1 h2;split<;>split<;>lia
theorem gI.red{p:Int}{ls:List Nat}(pp:p∈cq)(E:gI n n D ls)(h:bo p n D):cD p D=D:=by
 have R:=gZ pp h;obtain⟨ms,EM⟩:=R.ig;exact(E.unique pp EM h R.rws (λr hr=>R.sup r hr) (λr hr=>R.sub r hr)).symm
theorem aeS{p:Int}(pp:p∈cq)(h:bo p n D)(one:cD p D=D)(a:Nat):bo p n (D.eraseIdx a)∧cD p (D.eraseIdx a)=D.eraseIdx a:=by
 have h':bo p n (D.eraseIdx a):=λq hq=>h q ((List.eraseIdx_sublist _ _).mem hq);obtain⟨ls,E⟩:=(gZ pp h).ig;rw[one]at E;exact⟨h',(E.erase a).red pp h'⟩
end Bw
namespace S21
open PySem L2 Bw
variable{fd:FuncData}{ps:List Str}
theorem aeT{p:Int}(pp:p∈cq){d e:D1.Dr}(h:d.wf p)(n:d.cL 64)(h':e.wf p)(n':e.cL 64)(hs:e.aU=d.aU)(hl:∀x y,D1.dH p e x y↔D1.dH p d x y):(conv e).aN p=(conv d).aN p:=by
 obtain⟨r1,_,r3⟩:=D1.vk pp h;obtain⟨q1,_,q3⟩:=D1.vk pp h';have e1:e.l=d.l:=ai Prod.fst hs;have e2:e.r=d.r:=ai Prod.snd hs;rw[e1,e2]at q1 q3;rw[zV pp h n,zV pp h' n'];have key:∀{q:List Int},q.length=d.l+d.r→(Bw.Sp p (RS (e.aN p)) (fn q)↔Bw.Sp p (RS (d.aN p)) (fn q)):=λ{q} hq=>by
  rw[Kb hq,D1.kX (λq hq=>(q1 q hq).1),D1.kX (λq hq=>(r1 q hq).1),← q3,← r3];exact hl _ _
 exact tu.red pp q1 r1 ⟨λq hq=>(key (q1 q hq).1).mp (md hq),λq hq=>(key (r1 q hq).1).mpr (md hq)⟩
theorem bj.erase{K:Frag}{H:Hp}:∀{vs:List V}{ds:List Dat}(i:Nat),bj K H vs ds→bj K H (vs.eraseIdx i) (ds.eraseIdx i)
 |_,_,_,.nil=>.nil
 |_,_,0,.cons _ t=>t
 |_,_,i+1,.cons h t=>.cons h (bj.erase i t)
theorem UG{α β:Type}(f:α→β):∀(xs:List α)(i:Nat),(xs.eraseIdx i).map f=(xs.map f).eraseIdx i
 | [],_=>rfl
 |_::_,0=>rfl
 |x::xs,i+1=>ai (f x::·) (UG f xs i)
theorem aeU{p:Int}(pp:p∈cq){d:D1.Dr}(h:d.wf p)(n:d.cL 64)(h5:d.l+d.r≤5):Bw.bo p (d.l+d.r) (cD p (d.aN p))∧cD p (cD p (d.aN p))=cD p (d.aN p)∧(cD p (d.aN p)).length<6:=by
 obtain⟨r1,_,_⟩:=D1.vk pp h
 have:=zg r1
 exact⟨(gZ pp r1).rws,aeN pp r1,by lia⟩
theorem UH{Pt b:Addr}{H:Hp}{xs:List V}{ps:Array Value}(hP:H Pt=some (.gj ps))(h:H b=some (.lst xs)):S21.del Pt H b=some (.lst xs):=by
 rw[C7 (λz=>by rw[z,hP]at h;cases h)];exact h
def E7(K:Frag)(Pt:Addr):Sp:=λvs H Q _=>∃(a:Addr)(ns:List Int),vs=[.ref a]∧dq K H a (ns.map V.int)∧ns.length≤63∧jV H Pt (qq lL) qr∧∀H',Q (.bl true) H'
theorem nQ:cT ["script","deck","cell","p","words","left","right","rows","plain_one","one","other","at","fewer"] ["script"] (bu rJ):=de rfl rfl rfl (by decide +kernel) rfl
theorem aeV{Pt f fN fP fG fM fD fC fW fQ:Addr}{UI zX UJ jf mf fH tQ UK:FuncData}(F:cA K "law" "law" rJ f fd)(T:Txt mg)
  (GN:br P w K mg base bp 1 fN UI ["deck"] (SU K)) (kN:Kp K fN) (bN:Binds K UI ["deck"] []) (mN:Mg mg "_law_next" fN)
  (GP:br P w K mg base bp 1 fP zX ["cell"] SY) (kP:Kp K fP) (bP:Binds K zX ["cell"] []) (mP:Mg mg "_law_prime" fP)
  (GG:br P w K mg base bp 3 fG UJ ["p","cells","most"] (Ul K)) (kG:Kp K fG) (bG:Binds K UJ ["p","cells","most"] []) (mG:Mg mg "_law_grown" fG)
  (GM:br P w K mg base bp 4 fM jf ["p","words"] (TU K)) (kM:Kp K fM) (bM:Binds K jf ["p","words"] []) (mM:Mg mg "_law_meaning" fM)
  (GD:br P w K mg base bp 63 fD mf ["p","rows","left","right"] (SR K)) (kD:Kp K fD) (bD:Binds K mf ["p","rows","left","right"] []) (mD:Mg mg "drawn" fD)
  (GC:br P w K mg base bp 11 fC fH ["p","one","other"] (Ke K Pt)) (kC:Kp K fC) (bC:Binds K fH ["p","one","other"] []) (mC:Mg mg "compared" fC)
  (GW:br P w K mg base bp 1 fW tQ ["p","words","cell"] (Uu K)) (kW:Kp K fW) (bW:Binds K tQ ["p","words","cell"] []) (mW:Mg mg "_law_swapped" fW)
  (GQ:br P w K mg base bp 12 fQ UK ["p","one","other","rows","others"] (Uw K Pt)) (kQ:Kp K fQ) (bQ:Binds K UK ["p","one","other","rows","others"] []) (mQ:Mg mg "_law_parts" fQ) :
  br P w K mg base bp 64 f fd ["script"] (E7 K Pt):=by
 refine F.ok nQ (λvs H Q E h=>?_) (λbE A outer s H vs Q E hr h=>?_)
 ·obtain⟨a,ns,rfl,_⟩:=h;rfl
 ·obtain⟨a,ns,rfl,ha,y3,pC,q⟩:=h;have hu:=hr.units;have r1:dt 1 _:=hr.mono (by lia);have r3:dt 3 _:=hr.mono (by lia);have r4:dt 4 _:=hr.mono (by lia);have UL:dt 11 _:=hr.mono (by lia);have UM:dt 12 _:=hr.mono (by lia);have i7:(1000000:Nat)≤sizeLine:=by decide
  refine⟨_,ba (bH (i:=1) nQ.nd rfl (.inl rfl) (cE (aJ (dD (kl K rfl) (pv 0) dQ (dj aW)) (aJ aW aO)))) (ba (bH (i:=2) nQ.nd rfl (.inl rfl) (bZ GN r1 rfl mN kN bN .nil cb (aJ (pv 1) aO))) (ba (bH (i:=3) nQ.nd rfl (.inl rfl) (bZ GP r1 rfl mP kP bP .nil cb (aJ (bZ GN r1 rfl mN kN bN .nil cb (aJ (pv 1) aO)) aO))) (ba (mK (bZ GG r3 rfl mG kG bG .nil cb (aJ (pv 3) (aJ (dD (kl K rfl) (pv 0) (dj aW) (dj aW)) (aJ aW aO)))) (rq rfl (eF (cx (i:=4) nQ.nd rfl (.inl rfl)) (eF (cx (i:=5) nQ.nd rfl (.inl rfl)) (eF (cx (i:=6) nQ.nd rfl (.inl rfl)) lX))))) (ba (bH (i:=7) nQ.nd rfl (.inl rfl) (bt (cU K rfl) (bZ GM r4 rfl mM kM bM .nil cb (aJ (pv 3) (aJ (pv 4) aO))) aW (λ_ _=>rfl))) (ba (bH (i:=8) nQ.nd rfl (.inl rfl) (bZ GD hr rfl mD kD bD .nil cb (aJ (pv 3) (aJ (pv 7) (aJ (pv 5) (aJ (pv 6) aO)))))) (ba (bH (i:=9) nQ.nd rfl (.inl rfl) (gz (l6 K rfl) rfl T.tuple lJ (aJ (pv 4) aO))) (ba (cX (cM (BW K rfl hu) (bZ GC UL rfl mC kC bC .nil cb (aJ (pv 3) (aJ (pv 9) (aJ (pv 8) aO)))) (c7 (aJ cz aO)) (cJ _)) (bq (bV vL)) dy) (ba (cX (cM (BW K rfl hu) (bZ GC UL rfl mC kC bC .nil cb (aJ (pv 3) (aJ (pv 8) (aJ (aX (dh K rfl) (c7 (aJ cz (aJ cz aO))) (pv 9)) aO)))) (c7 (aJ cz aO)) (cJ _)) (bq (bV vL)) dy) (ba (bH (i:=10) nQ.nd rfl (.inl rfl) (bZ GW r1 rfl mW kW bW .nil cb (aJ (pv 3) (aJ (pv 4) (aJ (pv 2) aO))))) (ba (cX (Ba (ux (bZ GQ UM rfl mQ kQ bQ .nil cb (aJ (pv 3) (aJ (gz (l6 K rfl) rfl T.tuple lJ (aJ (pv 10) aO)) (aJ (pv 8) (aJ (bt (cU K rfl) (bZ GM r4 rfl mM kM bM .nil cb (aJ (pv 3) (aJ (pv 10) aO))) aW (λ_ _=>rfl)) (aJ (pv 7) aO)))))))) (bq (bV vL)) dy) (ba (cX (cM (BV K rfl hu) (pv 7) (c7 aO) (cJ _)) (bq (bV vL)) dy) (ba (bH (i:=11) nQ.nd rfl (.inl rfl) (aX iC (aX kd (pv 2) aW) (eG (gk K rfl) rfl T.len gm (aJ (pv 7) aO)))) (ba (bH (i:=12) nQ.nd rfl (.inl rfl) (aX (dh K rfl) (dD (Ol K rfl) (pv 7) dQ (dj (pv 11))) (dD (Ol K rfl) (pv 7) (dj (aX eU (pv 11) aW)) dQ))) (bq (bV (bZ GQ UM rfl mQ kQ bQ .nil cb (aJ (pv 3) (aJ (bZ GD hr rfl mD kD bD .nil cb (aJ (pv 3) (aJ (pv 12) (aJ (pv 5) (aJ (pv 6) aO))))) (aJ (pv 9) (aJ (pv 12) (aJ (pv 7) aO))))))))))))))))))))),?_⟩;obtain⟨cs,Ai,lcs⟩:=UD ns none (some 63);obtain⟨ms,ems,lms⟩:=UD ns (some 2) (some 63);refine⟨_,rfl,63,rfl,a,_,rfl,ha,λlc nh=>?_⟩;rw[Ai];refine⟨by show 2≤sizeLine;lia,λdk Ls=>?_⟩;have s0:aK H (upd H lc (.lst (cs.map V.int))):=.upd nh;have cS:∀b o,(upd H lc (.lst (cs.map V.int))) b=some o→b≠dk:=λb o h z=>by rw[z,Ls]at h;cases h
  have g0:(upd H lc (.lst (cs.map V.int))) lc=some (.lst (cs.map V.int)):=aV;have k1:aK (upd H lc (.lst (cs.map V.int))) (upd (upd H lc (.lst (cs.map V.int))) dk (.lst [.ref lc,.int 0])):=.upd Ls;refine⟨_,rfl,dk,lc,cs,0,rfl,aV,k1 _ _ g0,by lia,by lia,λc H2 t2 g2=>?_⟩;have s2:aK (upd H lc (.lst (cs.map V.int))) H2:=λb o h=>t2 b o (cS b o h) (k1 b o h);refine⟨_,rfl,dk,lc,cs,1,rfl,g2,s2 _ _ g0,by lia,by lia,λc' H3 t3 g3=>?_⟩;have s3:aK (upd H lc (.lst (cs.map V.int))) H3:=λb o h=>t3 b o (cS b o h) (s2 b o h);refine⟨c',rfl,λp H4 pp s4=>?_⟩;have sA:aK H H4:=s0.trans (s3.trans s4);clear s4 g3 t3 s3 g2 t2 s2 k1 g0 cS s0 Ls;have xq:=pC.mono sA;refine⟨_,rfl,_,rfl,2,rfl,63,rfl,a,_,rfl,sA.sq (b:=true) ha,λlm og=>?_⟩;rw[ems];refine⟨p,lm,40,ms,rfl,pp,aV,by lia,by decide,by decide,λf d H5 s5 hf wf nr wl lr=>?_⟩;obtain⟨b,gf,gb⟩:=hf;have UN:=(xq.mono (.upd og)).mono s5;refine rZ (.of gf) ?_;refine⟨_,rfl,_,rfl,p,b,d,rfl,pp,gb,wf,nr,by lia,λt H6 rt TS s6 gt Lu E8=>⟨t,_,2,_,rfl,rfl,.of gt,bw (j:=2) rfl,?_⟩⟩;obtain⟨hR,one,UO⟩:=aeU pp wf nr lr;have eP:=zV pp wf nr;generalize cD p (d.aN p)=R at E8 hR one UO eP ⊢;obtain⟨Lv,Lw,Lx,afo⟩:=UE pp hR one UO lr;refine⟨_,rfl,_,rfl,_,rfl,_,rfl,p,false,rt,TS,R,d.l,d.r,rfl,Lu,E8,λq hq=>hR q hq,by lia,by lia,by lia,λv H7 s7 hv=>?_⟩;have Ly:=s7 _ _ (s6 _ _ gb);refine⟨_,rfl,b,_,rfl,.inl ⟨.of Ly,λo ho=>?_⟩⟩;have s8:aK H5 (upd H7 o (.tup (d.aQ.map di))):=s6.trans (s7.trans (.upd ho));have xM:aK H7 (upd H7 o (.tup (d.aQ.map di))):=.upd ho;have E9:bf K (upd H7 o (.tup (d.aQ.map di))) o (conv d).aQ:=by rw[mq];exact .of aV
  generalize upd H7 o (.tup (d.aQ.map di))=H8 at s8 xM E9 ⊢;have Lz:=UN.mono s8;have LB:bf K H8 v (conv (iu R d.l d.r)).aQ:=by rw[mq];exact xM.bh hv
  have UP:=xM _ _ Ly;have UQ:=(s7.trans xM).bh Lu;have UR:=E8.mono (s7.trans xM);have US:(conv d).aQ.length≤900000:=by rw[mq,aZ];lia
  have UT:(conv d).aU=(d.l,d.r):=pK d;clear s7 s6 s5 og gf gt hv Lu E8 gb Ly xM s8 ho UN xq sA nh;obtain⟨ps8,xN⟩:=Lz.tab;refine⟨_,rfl,_,rfl,_,rfl,p,o,v,conv d,conv (iu R d.l d.r),rfl,pp,xl wf nr,Lv,UT.trans Lx.symm,US,by lia,E9,LB,Lz,λ_ t9 H9 s9 L9 UU=>?_,λns=>absurd (eP.trans Lw.symm) ns⟩;refine⟨by show 1≤sizeLine;lia,λu9 se=>⟨.tuple [.str (Str.ofString "same")],.tuple [.str (Str.ofString "same")],.tuple ((aK.upd se).bh UU) (.cons (.str _) .nil),.tuple (.of aV) (.cons (.str _) .nil),xK,xK,_,rfl,BU rfl ?_⟩⟩;have S9:=rX s9 (aK.upd se (o:=.tup [.str (Str.ofString "same")]));have LC:=L9.mono (aK.upd se (o:=.tup [.str (Str.ofString "same")]));generalize upd H9 u9 (.tup [.str (Str.ofString "same")])=BF at S9 LC ⊢;have LD:=S9.bh (bf.del xN E9);have LF:=S9.bh (bf.del xN LB);have UW:=S9 _ _ (UH xN UP);have UX:=S9.bh (bf.del xN UQ);have UY:=(bj.del xN UR).mono S9;clear S9 s9 L9 UU se xN UR UQ UP LB E9 Lz;have UZ:(D1.Dr.back (.back d)).wf p:=wf;have U0:(D1.Dr.back (.back d)).cL 64:=nr;have rbb:(conv (.back (.back d))).aN p=(conv d).aN p:=aeT pp wf nr UZ U0 rfl λ_ _=>Iff.rfl;refine⟨_,rfl,_,rfl,by show 2≤sizeLine;lia,λu2 pL=>⟨_,rfl,u2,o,_,_,rfl,rfl,.of aV,(aK.upd pL).bh LD,by show 2+_≤sizeLine;lia,λbb U1 xy pe=>?_⟩⟩;have sU:aK BF U1:=(aK.upd pL).trans xy;have U2:bf K U1 bb (conv (.back (.back d))).aQ:=by rw[mq]at pe ⊢;exact pe
  have lwb:(conv (.back (.back d))).aQ.length≤900000:=by rw[mq,aZ];show d.aQ.length+1+1≤900000;lia
  have LG:=LC.mono sU;obtain⟨afp,xO⟩:=LG.tab;refine⟨p,v,bb,conv (iu R d.l d.r),conv (.back (.back d)),rfl,pp,Lv,xl UZ U0,Lx.trans (pK (.back (.back d))).symm,by lia,lwb,sU.bh LF,U2,LG,λ_ t12 H12 s12 U3 U4=>?_,λns=>absurd (Lw.trans (rbb.trans eP).symm) ns⟩;refine⟨by show 1≤sizeLine;lia,λu9 se=>⟨.tuple [.str (Str.ofString "same")],.tuple [.str (Str.ofString "same")],.tuple ((aK.upd se).bh U4) (.cons (.str _) .nil),.tuple (.of aV) (.cons (.str _) .nil),xK,xK,_,rfl,BU rfl ?_⟩⟩;have vA:=rX s12 (aK.upd se (o:=.tup [.str (Str.ofString "same")]));have LH:=U3.mono (aK.upd se (o:=.tup [.str (Str.ofString "same")]));generalize upd H12 u9 (.tup [.str (Str.ofString "same")])=H13 at vA LH ⊢;have U5:=vA.bh (bf.del xO (sU.bh LD));have U6:=vA.bh (bf.del xO (sU.bh LF));have U7:=vA _ _ (UH xO (sU _ _ UW));have LI:=vA.bh (bf.del xO (sU.bh UX));have LJ:=(bj.del xO (UY.mono sU)).mono vA;clear vA s12 U3 U4 se xO UY UX UW LF LD LG LC sU pe U2 xy pL;refine⟨_,rfl,_,rfl,_,rfl,p,c,b,d,rfl,pp,U7,wf,nr,by lia,λf2 g H14 lP ju gw gn gl gs=>?_⟩;have sdg:(conv g).aU=(d.l,d.r):=(pK g).trans gs;have lwg:(conv g).aQ.length≤900000:=by rw[mq,aZ];lia
  refine⟨_,rfl,_,rfl,f2,_,rfl,.inl ⟨.of ju,λo2 sH=>?_⟩⟩;refine⟨_,rfl,_,rfl,_,rfl,p,f2,g,rfl,pp,aK.upd sH _ _ ju,gw,gn,by lia,λt2 H15 rt2 TS2 lQ Er U8 U9=>⟨t2,_,2,_,rfl,rfl,.of Er,bw (j:=2) rfl,_,rfl,?_⟩⟩;have sV:=lP.trans ((aK.upd sH).trans lQ);have LK:=LH.mono sV;obtain⟨afq,Fb⟩:=LK.tab;have Va:bf K H15 o2 (conv g).aQ:=by rw[mq];exact lQ.bh (.of aV)
  refine⟨p,o2,v,rt2,rt,TS2,TS,conv g,conv (iu R d.l d.r),rfl,pp,xl gw gn,Lv,sdg.trans Lx.symm,lwg,by lia,Va,sV.bh U6,LK,U8,by rw[zV pp gw gn];exact U9,sV.bh LI,by rw[Lw];exact LJ.mono sV,λH16 Fc Vb=>⟨true,rfl,dW ?_⟩⟩;have Vc:=Fc.bh (bf.del Fb (sV.bh U5));have LM:=Fc.bh (bf.del Fb (sV.bh LI));have LN:=(bj.del Fb (LJ.mono sV)).mono Fc;clear Fc Fb LK Va U9 U8 Er lQ sH lP ju sV LJ LI U7 U6 U5 LH;refine⟨_,rfl,by show 0≤sizeLine;lia,λu0 rM=>⟨.tuple (R.map cj),.tuple [],.tuple ((aK.upd rM).bh LM) (LN.mono (.upd rM)),.tuple (.of aV) .nil,tD _,tD [],_,rfl,?_⟩⟩;by_cases nil:R=[]
  ·exact Ja (by rw[nil];rfl) (q _)
  refine I0 (λz=>nil (List.map_eq_nil_iff.mp (Dat.tuple.inj z))) ?_;have Vd:=(aK.upd rM (o:=.tup [])).bh Vc;have AB:=(aK.upd rM (o:=.tup [])).bh LM;have Fd:=LN.mono (aK.upd rM (o:=.tup []));have Ve:=Vb.mono (aK.upd rM (o:=.tup []));generalize upd H16 u0 (.tup [])=H17 at Vd AB Fd Ve ⊢;clear Vc LM LN Vb rM;have eTS:TS.length=R.length:=fg Fd;have Ji:0<TS.length:=by
   cases R with
   |nil=>exact absurd rfl nil
   |cons x R'=>rw[eTS];exact Nat.succ_pos _
  refine⟨_,rfl,c,7,rfl,rfl,⟨by decide,by decide⟩,_,rfl,rt,_,rfl,.inr AB,c/7,_,rfl,rfl,by show(0:Int)<_;lia,?_⟩;dsimp only;have b0:=lR (c/7) (show((TS.length:Nat):Int)≠0 by lia);have b1:=lS (c/7) (show(0:Int)<((TS.length:Nat):Int) by lia);obtain⟨i,hi⟩:∃i:Nat,c/7%((TS.length:Nat):Int)=(i:Int):=⟨(c/7%((TS.length:Nat):Int)).toNat,by lia⟩;rw[hi];have jU:i<TS.length:=by lia
  clear b0 b1 hi;obtain⟨Dt,aeW⟩:=Bw.aeS pp hR one i;have hn3:(R.eraseIdx i).length<6:=by rw[x6];split<;>lia
  obtain⟨ok3,aeX,aeY,afr⟩:=UE pp Dt aeW hn3 lr;refine⟨_,rfl,_,rfl,(i:Int),rfl,rt,TS,rfl,AB,?_,λx1 h1=>⟨_,rfl,_,rfl,(i:Int),1,rfl,rfl,((i+1:Nat):Int),rfl,rt,TS,rfl,(aK.upd h1).bh AB,?_,λx2 h2=>⟨x1,x2,_,_,rfl,rfl,.of (aK.upd h2 _ _ aV),.of aV,?_,λfw H18 s18 LO=>?_⟩⟩⟩
  ·rintro⟨_,h⟩;rw[HT.qi]at h;lia
  ·rintro⟨h,_⟩;rw[HT.qi]at h;lia
  ·have l1:=Bo TS none (some (i:Int));have l2:=Bo TS (some ((i+1:Nat):Int)) none;lia
  rw[Ak (by lia),En (by lia),← List.eraseIdx_eq_take_drop_succ]at LO;have sW:=(aK.upd h1).trans ((aK.upd h2).trans s18);have Vf:bj K H18 (TS.eraseIdx i) ((R.eraseIdx i).map cj):=by
   rw[UG];exact S21.bj.erase i (Fd.mono sW)
  refine⟨_,rfl,_,rfl,_,rfl,_,rfl,_,rfl,p,false,fw,TS.eraseIdx i,R.eraseIdx i,d.l,d.r,rfl,LO,Vf,λq hq=>Dt q hq,by lia,by lia,by lia,λv2 H19 xP lO=>?_⟩;refine⟨_,rfl,_,rfl,_,rfl,p,v2,o,fw,rt,TS.eraseIdx i,TS,conv (iu (R.eraseIdx i) d.l d.r),conv d,rfl,pp,ok3,xl wf nr,aeY.trans UT.symm,by lia,US,by rw[mq];exact lO,(sW.trans xP).bh Vd,Ve.mono (sW.trans xP),xP.bh LO,by rw[aeX];exact Vf.mono xP,(sW.trans xP).bh AB,by rw[eP];exact Fd.mono (sW.trans xP),λH' _ _=>q H'⟩
noncomputable def pU(K:Frag)(x:Str):Addr:=match nsIn K mainGlobals x with
 |some (some (.ref a))=>a
 |_=>0
noncomputable def AD(K:Frag)(x:Str):Bool:=match nsIn K mainGlobals x with
 |some (some (.ref _))=>true
 |_=>false
theorem LP{K:Frag}{x:Str}(h:AD K x=true):nsIn K mainGlobals x=some (some (.ref (pU K x))):=by
 unfold AD at h;split at h
 case h_2=>cases h
 case h_1 a e=>
  unfold pU;rw[e]
noncomputable def xQ(K:Frag):Bool:=AD K "PARTS"&&AD K "SIDES"&&AD K "BOX_ROWS"&&Cq K (pU K "PARTS")&&decide (iq K (pU K "PARTS")=CT)&&zp K (pU K "SIDES") (pU K "BOX_ROWS")
section
variable{K:Frag}{h:Heap}{mg:Str→Option Value}
theorem xR(X:K.In h)(G:h.Ns mainGlobals mg)(e:xQ K=true):Parts K mg (pU K "PARTS"):=by
 simp only[xQ,eX,aF]at e;obtain⟨⟨⟨⟨⟨e1,_⟩,_⟩,e4⟩,e5⟩,_⟩:=e;exact⟨c9 X G (LP e1),λh X=>e5▸Ij X e4⟩
theorem xS(X:K.In h)(G:h.Ns mainGlobals mg)(e:xQ K=true):px K mg (pU K "SIDES") (pU K "BOX_ROWS"):=by
 simp only[xQ,eX,aF]at e;obtain⟨⟨⟨⟨⟨_,e2⟩,e3⟩,_⟩,_⟩,e6⟩:=e;exact⟨c9 X G (LP e2),c9 X G (LP e3),e6⟩
end
noncomputable def LQ(K:Frag):Bool:=xQ K&&zB K (pU K "SIDES")
theorem oR{K:Frag}(e:LQ K=true):xQ K=true:=(eX _ _▸e:_∧_).1
theorem Vg{K:Frag}(e:LQ K=true):zB K (pU K "SIDES")=true:=(eX _ _▸e:_∧_).2
theorem pV(h:∀a0,bindArgs fd ⟨[a0],[]⟩=pure (ps.zip [a0])):∀(us:List Value),us.length=1→bindArgs fd ⟨us,[]⟩=pure (ps.zip us)
 | [a0],_=>h a0
theorem j6(h:∀a0 a1,bindArgs fd ⟨[a0,a1],[]⟩=pure (ps.zip [a0,a1])):∀(us:List Value),us.length=2→bindArgs fd ⟨us,[]⟩=pure (ps.zip us)
 | [a0,a1],_=>h a0 a1
theorem jL(h:∀a0 a1 a2,bindArgs fd ⟨[a0,a1,a2],[]⟩=pure (ps.zip [a0,a1,a2])):∀(us:List Value),us.length=3→bindArgs fd ⟨us,[]⟩=pure (ps.zip us)
 | [a0,a1,a2],_=>h a0 a1 a2
theorem xT(h:∀a0 a1 a2 a3,bindArgs fd ⟨[a0,a1,a2,a3],[]⟩=pure (ps.zip [a0,a1,a2,a3])):∀(us:List Value),us.length=4→bindArgs fd ⟨us,[]⟩=pure (ps.zip us)
 | [a0,a1,a2,a3],_=>h a0 a1 a2 a3
theorem us5(h:∀a0 a1 a2 a3 a4,bindArgs fd ⟨[a0,a1,a2,a3,a4],[]⟩=pure (ps.zip [a0,a1,a2,a3,a4])):∀(us:List Value),us.length=5→bindArgs fd ⟨us,[]⟩=pure (ps.zip us)
 | [a0,a1,a2,a3,a4],_=>h a0 a1 a2 a3 a4
structure FA(K:Frag)(x:Str)(st:Stmt)(f:Addr)(fd:FuncData):Prop where
 a:nsIn K mainGlobals x=some (some (.ref f))
 F:cA K x x st f fd
 k:keepIn K (.ref f)=true
theorem FA.of{K:Frag}{x:Str}{st:Stmt}{f:Addr}{od an:Option Addr}{sl:Array (Option Value)}{oc kV dc pm cd ct:Value}(a:nsIn K mainGlobals x=some (some (.ref f)))(l:K.lookup f=some ⟨oc,od,.func (fnOf x x (rg st) (lZ st) (bu st) .none kV dc pm an cd ct),sl⟩)(c:PySem.W.codeIn K cd x=true)(k:keepIn K (.ref f)=true):FA K x st f (fnOf x x (rg st) (lZ st) (bu st) .none kV dc pm an cd ct):=⟨a,GX l c k,k⟩
theorem all_mk{l:PySem.W.OpenLaw}{w:World}{K:Frag}{h:Heap}{mg:Str→Option Value}{fa f1 f2 f3 f4 f5 f6 f7 f8 f9 f10 f11 f12 f13 f14 f15 f16 f17 LU f19 f20 f21 f22 f23 f24 f25 f26 f27 f28 f29 f30 f31 f32 f33 f34 f35 f36 f37 f38 f39 f40 f41 f42 f43 f44 f45 f46 f47 f48 f49 f50 f51 f52 f53 LV:Addr}(X:K.In h)(G:h.Ns mainGlobals mg)(hfa:mg "law"=some (.ref fa))
  {aeZ ae0 ae1 Vh:Option Addr} {ae2 ae3:Array (Option Value)} {ae4 ae5 ae6 ae7 Vi ae8 ae9 Vj Vk Vl LW Vm:Value} {d1 d2 d3 d4 d5 d6 d7 d8 d9 d10 d11 NV d13 d14 d15 d16 d17 d19 d20 d21 d22 d23 d24 d25 d26 d27 d28 d29 d30 d31 d32 d33 d34 d35 d36 d37 d38 d39 d40 d41 d42 d43 d44 d45 d46 d47 d48 d49 d50 d51 d52 d53:FuncData}
  (A1:FA K "turned" y8 f1 d1)
  (A2:FA K "added" rG f2 d2)
  (A3:FA K "summed" y9 f3 d3)
  (A4:FA K "columns" Ct f4 d4)
  (A5:FA K "reduced" wC f5 d5)
  (A6:FA K "led" Cu f6 d6)
  (A7:FA K "cleared" Cv f7 d7)
  (A8:FA K "first_place" Cw f8 d8)
  (A9:FA K "factors_of" za f9 d9)
  (A10:FA K "wires" Cy f10 d10)
  (A11:FA K "folded" Ip f11 d11)
  (A12:FA K "all_folded" Cz f12 NV)
  (A13:FA K "measured" CA f13 d13)
  (A14:FA K "measure" wD f14 d14)
  (A15:FA K "joined_sides" Iq f15 d15)
  (A16:FA K "first_unmet" CB f16 d16)
  (A17:FA K "plain" Ir f17 d17)
  (a18:nsIn K mainGlobals "forms"=some (some (.ref LU))) (l18:K.lookup LU=some ⟨ae4,aeZ,.func (fnOf "forms" "forms" (rg kz) (lZ kz) (bu kz) .none ae5 ae6 ae7 ae0 Vi ae8),ae2⟩) (c18:PySem.W.codeIn K Vi "forms"=true) (k18:keepIn K (.ref LU)=true)
  (A19:FA K "refuse_late" Iu f19 d19)
  (A20:FA K "form" Iv f20 d20)
  (A21:FA K "form_of_back" CC f21 d21)
  (A22:FA K "form_of_beside" zb f22 d22)
  (A23:FA K "form_of_then" CF f23 d23)
  (A24:FA K "facing" zd f24 d24)
  (A25:FA K "compared" Iw f25 d25)
  (A26:FA K "refuse_sides" Iy f26 d26)
  (A27:FA K "row_outside" Iz f27 d27)
  (A28:FA K "drawn" IA f28 d28)
  (A29:FA K "summing" uW f29 d29)
  (A30:FA K "single" IC f30 d30)
  (A31:FA K "seam_of" ID f31 d31)
  (A32:FA K "is_seam" ze f32 d32)
  (A33:FA K "copying" IF f33 d33)
  (A34:FA K "adding" IG f34 d34)
  (A35:FA K "crossing" IH f35 d35)
  (A36:FA K "inside" II f36 d36)
  (A37:FA K "straight" IJ f37 d37)
  (A38:FA K "_law_next" IK f38 d38)
  (A39:FA K "_law_prime" IM f39 d39)
  (A40:FA K "_law_cleared" rH f40 d40)
  (A41:FA K "_law_less" CG f41 d41)
  (A42:FA K "_law_reduced" CH f42 d42)
  (A43:FA K "_law_box" IP f43 d43)
  (A44:FA K "_law_then" wF f44 d44)
  (A45:FA K "_law_beside" IQ f45 d45)
  (A46:FA K "_law_meaning" CI f46 d46)
  (A47:FA K "_law_some_box" IS f47 d47)
  (A48:FA K "_law_beside_all" IT f48 d48)
  (A49:FA K "_law_more" IU f49 d49)
  (A50:FA K "_law_grown" IV f50 d50)
  (A51:FA K "_law_swapped" IW f51 d51)
  (A52:FA K "_law_spans" IX f52 d52)
  (A53:FA K "_law_parts" IY f53 d53)
  (a54:nsIn K mainGlobals "law"=some (some (.ref LV))) (l54:K.lookup LV=some ⟨ae9,ae1,.func (fnOf "law" "law" (rg rJ) (lZ rJ) (bu rJ) .none Vj Vk Vl Vh LW Vm),ae3⟩) (c54:PySem.W.codeIn K LW "law"=true) (k54:keepIn K (.ref LV)=true)
  (z1:nsIn K mainGlobals "range"=some none) (z2:nsIn K mainGlobals "zip"=some none) (z3:nsIn K mainGlobals "tuple"=some none) (z4:nsIn K mainGlobals "list"=some none) (z5:nsIn K mainGlobals "int"=some none) (z6:nsIn K mainGlobals "bool"=some none) (z7:nsIn K mainGlobals "isinstance"=some none) (z8:nsIn K mainGlobals "len"=some none) (z9:nsIn K mainGlobals "sum"=some none) (z10:nsIn K mainGlobals "max"=some none) (z11:nsIn K mainGlobals "min"=some none) (z12:nsIn K mainGlobals "enumerate"=some none) (z13:nsIn K mainGlobals "any"=some none) (z14:nsIn K mainGlobals "all"=some none) (hs1:(tabIn K "forms").isSome=true) (hx1:LQ K=true) :
  ∃fd:FuncData,(∀(s:Shared)(v:Value),BindsTo s fd ⟨[v],[]⟩ [("script",v)])∧∀base:Heap,K.In base→base.Ns mainGlobals mg→tm mg base→(∀q∈[oj K "forms"],CodeHd base q.1 q.2)→br l.prog w K mg base bp 64 fa fd ["script"] (E7 K (oj K "forms").2):=by
 have e:=hfa.symm.trans (c9 X G a54);cases e;have T:Txt mg:=⟨nS X G z1,nS X G z2,nS X G z3,nS X G z4,nS X G z5,nS X G z6,nS X G z7,nS X G z8,nS X G z9,nS X G z10,nS X G z11,nS X G z12,nS X G z13,nS X G z14⟩;obtain⟨a1,F1,k1⟩:=A1;obtain⟨a2,F2,k2⟩:=A2;obtain⟨a3,F3,k3⟩:=A3;obtain⟨a4,F4,k4⟩:=A4;obtain⟨a5,F5,k5⟩:=A5;obtain⟨a6,F6,k6⟩:=A6;obtain⟨a7,F7,k7⟩:=A7;obtain⟨a8,F8,k8⟩:=A8;obtain⟨a9,F9,k9⟩:=A9;obtain⟨a10,AE,Fe⟩:=A10;obtain⟨a11,AF,Ff⟩:=A11;obtain⟨a12,vB,xU⟩:=A12;obtain⟨a13,AG,Fg⟩:=A13;obtain⟨a14,sf,k14⟩:=A14;obtain⟨a15,LX,Vn⟩:=A15;obtain⟨a16,LY,Vo⟩:=A16;obtain⟨a17,LZ,Vp⟩:=A17;have L0:=GX (st:=kz) l18 c18 k18;obtain⟨a19,L3,Vq⟩:=A19;obtain⟨a20,L4,Vr⟩:=A20;obtain⟨a21,L5,Vs⟩:=A21;obtain⟨a22,L6,Vt⟩:=A22;obtain⟨a23,L7,Vu⟩:=A23;obtain⟨a24,L8,Vv⟩:=A24;obtain⟨a25,Ma,Vw⟩:=A25;obtain⟨a26,Mb,Vx⟩:=A26;obtain⟨a27,Mc,Vy⟩:=A27;obtain⟨a28,Vz,k28⟩:=A28;obtain⟨a29,VA,k29⟩:=A29;obtain⟨a30,VB,k30⟩:=A30;obtain⟨a31,VC,k31⟩:=A31;obtain⟨a32,VD,k32⟩:=A32;obtain⟨a33,VE,k33⟩:=A33;obtain⟨a34,VF,k34⟩:=A34;obtain⟨a35,Md,VG⟩:=A35;obtain⟨a36,Me,VH⟩:=A36;obtain⟨a37,AH,Fh⟩:=A37;obtain⟨a38,VI,k38⟩:=A38;obtain⟨a39,VJ,k39⟩:=A39;obtain⟨a40,Fi,Mf⟩:=A40;obtain⟨a41,Fj,Mh⟩:=A41;obtain⟨a42,VL,k42⟩:=A42;obtain⟨a43,VM,k43⟩:=A43;obtain⟨a44,VN,k44⟩:=A44;obtain⟨a45,VO,k45⟩:=A45;obtain⟨a46,VP,k46⟩:=A46;obtain⟨a47,Mi,VQ⟩:=A47;obtain⟨a48,VR,k48⟩:=A48;obtain⟨a49,VT,k49⟩:=A49;obtain⟨a50,VU,k50⟩:=A50;obtain⟨a51,VW,k51⟩:=A51;obtain⟨a52,VX,k52⟩:=A52;obtain⟨a53,VY,k53⟩:=A53;have F54:=GX (st:=rJ) l54 c54 k54;have b1:=F1.binds (ps:=["p","number"]) λ_ _ _ _ _ _=>j6 λ_ _=>rfl;have m1:=c9 X G a1;have b2:=F2.binds (ps:=["p","row","factor","other"]) λ_ _ _ _ _ _=>xT λ_ _ _ _=>rfl;have m2:=c9 X G a2;have b3:=F3.binds (ps:=["p","rows","factors","length"]) λ_ _ _ _ _ _=>xT λ_ _ _ _=>rfl;have m3:=c9 X G a3;have b4:=F4.binds (ps:=["rows","length"]) λ_ _ _ _ _ _=>j6 λ_ _=>rfl;have m4:=c9 X G a4;have b5:=F5.binds (ps:=["p","rows"]) λ_ _ _ _ _ _=>j6 λ_ _=>rfl;have m5:=c9 X G a5;have b6:=F6.binds (ps:=["p","row","place"]) λ_ _ _ _ _ _=>jL λ_ _ _=>rfl;have m6:=c9 X G a6;have b7:=F7.binds (ps:=["p","row","lead","place"]) λ_ _ _ _ _ _=>xT λ_ _ _ _=>rfl;have m7:=c9 X G a7;have b8:=F8.binds (ps:=["row"]) λ_ _ _ _ _ _=>pV λ_=>rfl;have m8:=c9 X G a8;have b9:=F9.binds (ps:=["p","rows","row"]) λ_ _ _ _ _ _=>jL λ_ _ _=>rfl;have m9:=c9 X G a9;have Fl:=AE.binds (ps:=["words"]) λ_ _ _ _ _ _=>pV λ_=>rfl;have Fm:=c9 X G a10;have Fo:=AF.binds (ps:=["words","made"]) λ_ _ _ _ _ _=>j6 λ_ _=>rfl;have Fp:=c9 X G a11;have xV:=vB.binds (ps:=["words","made"]) λ_ _ _ _ _ _=>j6 λ_ _=>rfl;have xW:=c9 X G a12;have Fq:=AG.binds (ps:=["words"]) λ_ _ _ _ _ _=>pV λ_=>rfl;have Fs:=c9 X G a13;have Ft:=sf.binds (ps:=["place","word","parts"]) λ_ _ _ _ _ _=>jL λ_ _ _=>rfl;have Fu:=c9 X G a14;have VZ:=LX.binds (ps:=["word","parts"]) λ_ _ _ _ _ _=>j6 λ_ _=>rfl;have V0:=c9 X G a15;have V1:=LY.binds (ps:=["parts"]) λ_ _ _ _ _ _=>pV λ_=>rfl;have V2:=c9 X G a16;have V3:=LZ.binds (ps:=["p","words"]) λ_ _ _ _ _ _=>j6 λ_ _=>rfl;have V4:=c9 X G a17;have V5:=L0.binds (ps:=["p","words"]) λ_ _ _ _ _ _=>j6 λ_ _=>rfl;have V6:=c9 X G a18;have V7:=L3.binds (ps:=["words"]) λ_ _ _ _ _ _=>pV λ_=>rfl;have V8:=c9 X G a19;have V9:=L4.binds (ps:=["p","word","parts"]) λ_ _ _ _ _ _=>jL λ_ _ _=>rfl;have Wa:=c9 X G a20;have Wb:=L5.binds (ps:=["p","one"]) λ_ _ _ _ _ _=>j6 λ_ _=>rfl;have Wc:=c9 X G a21;have We:=L6.binds (ps:=["p","one","other"]) λ_ _ _ _ _ _=>jL λ_ _ _=>rfl;have Wf:=c9 X G a22;have Wg:=L7.binds (ps:=["p","one","other"]) λ_ _ _ _ _ _=>jL λ_ _ _=>rfl;have Wh:=c9 X G a23;have Wi:=L8.binds (ps:=["p","one","other"]) λ_ _ _ _ _ _=>jL λ_ _ _=>rfl;have Wj:=c9 X G a24;have Wk:=Ma.binds (ps:=["p","one","other"]) λ_ _ _ _ _ _=>jL λ_ _ _=>rfl;have Wl:=c9 X G a25;have Wm:=Mb.binds (ps:=["one","other"]) λ_ _ _ _ _ _=>j6 λ_ _=>rfl;have Wn:=c9 X G a26;have Wo:=Mc.binds (ps:=["p","rows","others"]) λ_ _ _ _ _ _=>jL λ_ _ _=>rfl;have Wq:=c9 X G a27;have b28:=Vz.binds (ps:=["p","rows","left","right"]) λ_ _ _ _ _ _=>xT λ_ _ _ _=>rfl;have m28:=c9 X G a28;have Wr:=VA.binds (ps:=["sums","count"]) λ_ _ _ _ _ _=>j6 λ_ _=>rfl;have Ws:=c9 X G a29;have b30:=VB.binds (ps:=["sums","count"]) λ_ _ _ _ _ _=>j6 λ_ _=>rfl;have m30:=c9 X G a30;have b31:=VC.binds (ps:=["sums","count"]) λ_ _ _ _ _ _=>j6 λ_ _=>rfl;have m31:=c9 X G a31;have b32:=VD.binds (ps:=["sums","wires","taken"]) λ_ _ _ _ _ _=>jL λ_ _ _=>rfl;have m32:=c9 X G a32;have Wt:=VE.binds (ps:=["count"]) λ_ _ _ _ _ _=>pV λ_=>rfl;have Wu:=c9 X G a33;have Wv:=VF.binds (ps:=["count"]) λ_ _ _ _ _ _=>pV λ_=>rfl;have Ww:=c9 X G a34;have Fv:=Md.binds (ps:=["above","below"]) λ_ _ _ _ _ _=>j6 λ_ _=>rfl;have Fw:=c9 X G a35;have Wx:=Me.binds (ps:=["above","words","below"]) λ_ _ _ _ _ _=>jL λ_ _ _=>rfl;have Wy:=c9 X G a36;have Fx:=AH.binds (ps:=["count"]) λ_ _ _ _ _ _=>pV λ_=>rfl;have Fy:=c9 X G a37;have b38:=VI.binds (ps:=["deck"]) λ_ _ _ _ _ _=>pV λ_=>rfl;have m38:=c9 X G a38;have b39:=VJ.binds (ps:=["cell"]) λ_ _ _ _ _ _=>pV λ_=>rfl;have m39:=c9 X G a39;have Mj:=Fi.binds (ps:=["p","rows","places"]) λ_ _ _ _ _ _=>jL λ_ _ _=>rfl;have Mk:=c9 X G a40;have Ml:=Fj.binds (ps:=["p","row","head","place"]) λ_ _ _ _ _ _=>xT λ_ _ _ _=>rfl;have Mm:=c9 X G a41;have b42:=VL.binds (ps:=["p","rows","size"]) λ_ _ _ _ _ _=>jL λ_ _ _=>rfl;have m42:=c9 X G a42;have b43:=VM.binds (ps:=["p","word","number"]) λ_ _ _ _ _ _=>jL λ_ _ _=>rfl;have m43:=c9 X G a43;have b44:=VN.binds (ps:=["p","one","other"]) λ_ _ _ _ _ _=>jL λ_ _ _=>rfl;have m44:=c9 X G a44;have b45:=VO.binds (ps:=["one","other"]) λ_ _ _ _ _ _=>j6 λ_ _=>rfl;have m45:=c9 X G a45;have b46:=VP.binds (ps:=["p","words"]) λ_ _ _ _ _ _=>j6 λ_ _=>rfl;have m46:=c9 X G a46;have Wz:=Mi.binds (ps:=["p","cell"]) λ_ _ _ _ _ _=>j6 λ_ _=>rfl;have WA:=c9 X G a47;have b48:=VR.binds (ps:=["parts"]) λ_ _ _ _ _ _=>pV λ_=>rfl;have m48:=c9 X G a48;have b49:=VT.binds (ps:=["p","one","cell","most"]) λ_ _ _ _ _ _=>xT λ_ _ _ _=>rfl;have m49:=c9 X G a49;have b50:=VU.binds (ps:=["p","cells","most"]) λ_ _ _ _ _ _=>jL λ_ _ _=>rfl;have m50:=c9 X G a50;have b51:=VW.binds (ps:=["p","words","cell"]) λ_ _ _ _ _ _=>jL λ_ _ _=>rfl;have m51:=c9 X G a51;have b52:=VX.binds (ps:=["p","rows","row"]) λ_ _ _ _ _ _=>jL λ_ _ _=>rfl;have m52:=c9 X G a52;have b53:=VY.binds (ps:=["p","one","other","rows","others"]) λ_ _ _ _ _ _=>us5 λ_ _ _ _ _=>rfl;have m53:=c9 X G a53;exact⟨fnOf "law" "law" (rg rJ) (lZ rJ) (bu rJ) .none Vj Vk Vl Vh LW Vm,λs v=>.of_eq rfl,λbase _ _ bb cc=>aeV F54 T (adD VI T) k38 b38 m38 (adF VJ) k39 b39 m39 (aeA VU T (T2 Mi) VQ Wz WA (aez VT T (T2 Mi) VQ Wz WA (aer VR) k48 b48 m48) k49 b49 m49) k50 b50 m50 (aeg VP T (ad3 VN T (Tr Fi T (KG Fj T) Mh Ml Mm) Mf Mj Mk) k44 b44 m44 (ad0 VO) k45 b45 m45 (adY VM) k43 b43 m43 (adP VL T (Tr Fi T (KG Fj T) Mh Ml Mm) Mf Mj Mk) k42 b42 m42) k46 b46 m46 (adC Vz T (adB F4 T) k4 b4 m4 (SN VA T Wr Ws (adt VB) k30 b30 m30 (adw VC T (adv VD T) k32 b32 m32) k31 b31 m31 (Sw VE Wt Wu (R4 Me (DT AH) Fh Fx Fy) VH Wx Wy (Kl Md Fv Fw (DT AH) Fh Fx Fy 33) VG Fv Fw 8) k33 Wt Wu (Sx VF Wv Ww (R4 Me (DT AH) Fh Fx Fy) VH Wx Wy (Kl Md Fv Fw (DT AH) Fh Fx Fy 33) VG Fv Fw 8) k34 Wv Ww 17) k29 Wr Ws) k28 b28 m28 (Sm Ma (Sj Mb) Vx Wm Wn (Rr AE (Rp AG (C3 AF (wJ vB T (xR X G (oR hx1))) xU xV xW) Ff Fo Fp (Rk sf (xS X G (oR hx1)) (Vg hx1) (Rh LY) Vo V1 V2 (Rj LX) Vn VZ V0) sf Ft Fu) Fg Fq Fs) Fe Fl Fm (QS LZ (QQ L0 (Pk a18 l18 (Ii hs1)) (cc _ ek) bb (Qq L3) Vq V7 V8 (wJ vB T (xR X G (oR hx1))) xU xV xW (QH L4 (xS X G (oR hx1)) (Qk L5 (tF F5 T F2 b2 m2 F1 b1 m1 F3 b3 m3 F7 b7 m7 F6 b6 m6) k5 b5 m5) Vs Wb Wc (Qy L6 (tF F5 T F2 b2 m2 F1 b1 m1 F3 b3 m3 F7 b7 m7 F6 b6 m6) k5 b5 m5) Vt We Wf (QC L7 T (tF F5 T F2 b2 m2 F1 b1 m1 F3 b3 m3 F7 b7 m7 F6 b6 m6) k5 b5 m5 (QB L8 T) Vv Wi Wj) Vu Wg Wh (Qi AE (Qg AG (C3 AF (wJ vB T (xR X G (oR hx1))) xU xV xW) Ff Fo Fp (Qc sf (xS X G (oR hx1))) sf Ft Fu) Fg Fq Fs) Fe Fl Fm) Vr V9 Wa) k18 V5 V6) Vp V3 V4 (Sh Mc (Rx F9 T (tF F5 T F2 b2 m2 F1 b1 m1 F3 b3 m3 F7 b7 m7 F6 b6 m6) k5 b5 m5 (PZ F8 T) k8 b8 m8) k9 b9 m9) Vy Wo Wq) Vw Wk Wl (aeK VW T) k51 b51 m51 (aeL VY T (Sm Ma (Sj Mb) Vx Wm Wn (Rr AE (Rp AG (C3 AF (wJ vB T (xR X G (oR hx1))) xU xV xW) Ff Fo Fp (Rk sf (xS X G (oR hx1)) (Vg hx1) (Rh LY) Vo V1 V2 (Rj LX) Vn VZ V0) sf Ft Fu) Fg Fq Fs) Fe Fl Fm (QS LZ (QQ L0 (Pk a18 l18 (Ii hs1)) (cc _ ek) bb (Qq L3) Vq V7 V8 (wJ vB T (xR X G (oR hx1))) xU xV xW (QH L4 (xS X G (oR hx1)) (Qk L5 (tF F5 T F2 b2 m2 F1 b1 m1 F3 b3 m3 F7 b7 m7 F6 b6 m6) k5 b5 m5) Vs Wb Wc (Qy L6 (tF F5 T F2 b2 m2 F1 b1 m1 F3 b3 m3 F7 b7 m7 F6 b6 m6) k5 b5 m5) Vt We Wf (QC L7 T (tF F5 T F2 b2 m2 F1 b1 m1 F3 b3 m3 F7 b7 m7 F6 b6 m6) k5 b5 m5 (QB L8 T) Vv Wi Wj) Vu Wg Wh (Qi AE (Qg AG (C3 AF (wJ vB T (xR X G (oR hx1))) xU xV xW) Ff Fo Fp (Qc sf (xS X G (oR hx1))) sf Ft Fu) Fg Fq Fs) Fe Fl Fm) Vr V9 Wa) k18 V5 V6) Vp V3 V4 (Sh Mc (Rx F9 T (tF F5 T F2 b2 m2 F1 b1 m1 F3 b3 m3 F7 b7 m7 F6 b6 m6) k5 b5 m5 (PZ F8 T) k8 b8 m8) k9 b9 m9) Vy Wo Wq) Vw Wk Wl (adQ VX T (Te Fi T (KG Fj T) Mh Ml Mm) Mf Mj Mk) k52 b52 m52) k53 b53 m53⟩
theorem walk{l:PySem.W.OpenLaw}{q:Program}{vU:List Str}{XP:(Str→Option Value)→Heap→Prop}{YP:World→Heap→Prop}{d:DefRec}{K:Params→Frag}(hn:l.most=some 63)(yB:d.params.defaults=[])
  (hY:∀(w:World)(h:Heap),YP w h→(K w.params).In h) (noT:∀w:World,PySem.W.noTabs (K w.params)=true)
  (hT:∀(w:World){y4:ExcName→Option Value}{lo:List Str}{mg mb:Str→Option Value}{h:Heap},PyProof.Rows.Top q lo y4 mg mb h→(K w.params).In h→PySem.W.TabsAt [oj (K w.params) "forms"] h)
  (F:∀(w:World)(mg:Str→Option Value)(fa:Addr)(h:Heap),(K w.params).In h→h.Ns mainGlobals mg→mg d.name=some (.ref fa)→
   ∃fd:FuncData,(∀(s:Shared)(u:Value),BindsTo s fd ⟨[u],[]⟩ [("script",u)])∧∀base:Heap,(K w.params).In base→base.Ns mainGlobals mg→tm mg base→(∀q∈[oj (K w.params) "forms"],CodeHd base q.1 q.2)→br l.prog w (K w.params) mg base bp 64 fa fd ["script"] (E7 (K w.params) (oj (K w.params) "forms").2)) :
  PySem.W.WalkO q vU XP YP l.row.toRowW d [] (λf vs=>PySem.call f vs):=
 L2.aaV (n:=63) (k:=64) (x := "script") (tabs:=λw=>[oj (K w.params) "forms"]) (sp:=λw=>E7 (K w.params) (oj (K w.params) "forms").2) hn (by decide) yB ⟨rfl,by decide,by decide⟩ hY noT hT F λ_ _ a ns hl hS wu=>⟨a,ns,rfl,hS,hl,.inl (wu _ ek),λ_=>rfl⟩
end S21
structure PySem.W.Fast:Prop where
 (tw4466472673242284625 tw4050426676489425450 tw942938028786112528 tw4187588775324449967 tw5989744273473394704 tw8054844694585148132 tw8072628034383907251 tw11033211414808054611 tw17692241877516262651 tw12404879456378468288 tw5900677781539434355 tw13735451297123703863 tw16531247846698485576 tw17752052702956570646 tw4151572636090116345 tw5535915850803747665 tw17789159125728907370 tw6065871176554213356 tw961538004479295415 tw14945502243517023060 tw13539827347397260845 tw728753689180128402 tw14993545007124392393 tw18272920749424491143 tw4485767103384719253 tw17278081110802347045 tw7768243015503794367 tw10446378590103550416 tw8503507160817205699 tw13605568074277483767 tw14062799447641226242 tw3524655000198203800 tw3586194361532685079 tw17468550218773045251 tw3299901890400659686 tw11487342318254848125 tw18174713894601705224 tw8328645399302362230 tw13991801171634125372 tw1122205752756624282 tw16605464975634844533 tw5216708430517841266 tw2189486527494588031 tw2592292311260562003 tw4087907101631319069 tw3749977329072615674 tw3568945540614551760 tw6079285578952260127 tw6140509462001887804 tw4397603630305240375 tw2416171637314659865 tw5290623774862732993 tw17202541021985913279 tw11660867191659382662 tw13490342479517304581 tw13018228404102409517 tw9849129959227742521 tw17422073664823991449 tw1527748299311961930 tw3338793223932486137 tw8546193080774238136 tw4903982580212016591 tw13712149758459146914 tw680960663984737145 tw5136598983787923889 tw7673042795629465376 tw15372319700560019385 tw6339950531745375156 tw15326187141692401730 tw11415095805636124066 tw15277812952755617416 tw18432044523342072604 tw1999445615757557983 tw1809224839055331480 tw12924830422833664782 tw17371116951732902622 tw1234035162679286497 tw12614356085939368106 tw1183369284989831229 tw1622483023517209681 tw17319103859873729029 tw9480841799578285780 tw14366833584749304994 tw5779161281680718649 tw4076849451470219100 tw14360971505075192501 tw8823096273940306874 tw10338228411305620907 tw3051877137168203166 tw15240958210238474579 tw10300528804183394486 tw4146784496370386686 tw12244842665854131354 tw5660858844448540916 tw615653665586831949 tw14875951543669509437 tw4122822439173704980 tw13405377678588426865 tw13392752049872423381 tw851784225625357049:True)
open PySem PySem.W PyProof.Rows
set_option maxRecDepth 100000 in
set_option maxHeartbeats 0 in
theorem PySem.Challenge.cw_bentwires_k43_whole_drawn_and_alike_holds : PySem.Challenge.rw_bentwires_k43_whole_drawn_and_alike.Holds := by
 w_on;o_law;k_head;(case hw=>w_witness2)
 k_fill
 refine S21.walk (l:=PySem.Challenge.rw_bentwires_k43_whole_drawn_and_alike) rfl rfl (fun w h Y=>PySem.W.km_in_of Y) ?noT ?hT ?F
 (case noT=>exact fun w=>by kernel_rfl)
 (case hT=>exact fun w {_ _ _ _ _} T X=>L2.tabs_cons T X rfl (by kernel_rfl) (L2.tabs_nil))
 case F =>
  intro w mg fa h KX G hmg
  refine' S21.all_mk KX G hmg ?_ ?_ ?_ ?_ ?_ ?_ ?_ ?_ ?_ ?_ ?_ ?_ ?_ ?_ ?_ ?_ ?_ ?a18 ?l18 ?c18 ?k18 ?_ ?_ ?_ ?_ ?_ ?_ ?_ ?_ ?_ ?_ ?_ ?_ ?_ ?_ ?_ ?_ ?_ ?_ ?_ ?_ ?_ ?_ ?_ ?_ ?_ ?_ ?_ ?_ ?_ ?_ ?_ ?_ ?_ ?_ ?_ ?a54 ?l54 ?c54 ?k54 ?z1 ?z2 ?z3 ?z4 ?z5 ?z6 ?z7 ?z8 ?z9 ?z10 ?z11 ?z12 ?z13 ?z14 ?hs1 ?hx1
  (case a18=>k_is)
  (case l18=>k_is)
  (case c18=>k_is)
  (case k18=>k_is)
  (case a54=>k_is)
  (case l54=>k_is)
  (case c54=>k_is)
  (case k54=>k_is)
  (case hs1=>kernel_rfl)
  (case hx1=>kernel_rfl)
  any_goals refine' S21.FA.of ?_ ?_ ?_ ?_
  any_goals k_is
